import PyProof.Rows.All
import KE.KLam
import Wide.All
import OpenK.AllK
import Wide.FinOn
import Lean
import PyProof.EqAt
import PyProof.EqKinds
import PyProof.TupleCall
import KE.KRevSl
import PyProof.MeetsStr
import PyProof.Rows.MinMaxN
import PyProof.ListRange
import KE.KTryOn
import PyProof.ExcInit
import PyProof.ExcClass3
import PyProof.ExcBaseAll.ValueError
import PyProof.InstStoreFacts
import ObjForm.Fk.InstStore
import PyProof.ExcArgsOwn
import PyProof.ExcAttrAll.ValueError
import PyProof.PureStr
import PyProof.FString2
import PyProof.Rows.FactsFmt
import PyProof.FactsAll.NoneType_2
import PyProof.NsDelKeeps
import PyProof.IsiBase
import PyProof.AutoListH
import PyProof.AutoSeq1
import PyProof.DictWalks
import PySem.Challenge.RW_bestcalls_k20_chains_and_layers
set_option genSizeOf false
set_option Elab.async false
set_option linter.all false
set_option maxRecDepth 100000
noncomputable section
open Option renaming bind_eq_some_iff→qA,bind_some→qB,map_eq_some_iff→qG,map_some→Ru,isSome_some→mG,isSome_map→kt
open PySem.W renaming Frag→qC,mg_none_of→R5,nsIn→UW,kia_one→Sz,looks_findIn→Px,fnOf→Ur,keepIn→RJ,mg_of→Ra,cellsFrom_some→Hu,codeRec_of→Cn,codeIn→EI,callWith_K→sf,kitx_list→lP,kitx_dict→lB
open List renaming length_map→qD,getElem?_eq_getElem→qH,mem_cons_of_mem→qI,getElem?_eq_some_iff→qK,map_cons→qL,mem_cons→qN,size_toArray→qO,length_append→qU,getElem?_map→qW,mem_cons_self→qX,getElem?_set_ne→qY,getElem?_append_left→qc,mem_append_right→qf,getElem?_append_right→qg,mem_filter→qj,mem_append→qk,mem_map→qo,length_cons→qu,map_append→qx,append_nil→q9,mem_append_left→Uw,getD_eq_getElem?_getD→Se,length_set→Wd,getElem?_set_self→Te,mem_of_getElem?→Ub,nodup_cons→Vl,lookup_cons→U9,getElem?_cons_succ→Rg,mem_singleton→Tn,all_eq_true→Ug,getElem?_cons_zero→QW,contains_cons→R8,length_replicate→Q1,length_eq_zero_iff→OY,getElem_mem→SZ,nodup_append→R0,mem_range→TY,length_filter_le→PL,length_drop→Sb,mem_of_mem_drop→Qr,any_eq_true→RF,map_congr_left→Pf,map_map→TX,all_cons→SH,drop_eq_getElem_cons→Ll,zip_cons_cons→Oo,take_append_of_le_length→Gp,not_mem_nil→Pz,length_take→Pp,filter_cons→Pu,mem_of_mem_take→MY,of_mem_zip→Qh,length_nil→N8,find?_cons→N6,getElem?_replicate→Gx,any_cons→Qx,mem_flatMap→MG,range_succ_eq_map→Ih,drop_length→KU,filter_eq_self→Fe,map_nil→Oa,eq_of_mem_replicate→B7,set_cons_zero→D5,mem_filterMap→Fy,foldl_cons→Lg,length_range→HD,foldl_append→Je,map_take→KQ,replicate_succ→C2,nil_append→H7,getElem_of_mem→DT,filterMap_cons→Cv,set_cons_succ→Co,any_map→KY,nodup_nil→HV,reverse_cons→CB,filter_congr→B3,append_assoc→C7,map_drop→J8,mem_nil_iff→CV,cons_append→B9,length_singleton→yR,forIn_cons→DQ,mapM_cons→Cm,filter_append→wF,take_sublist→sE,eraseIdxIfInBounds_toArray→mN,zipIdx_cons→oJ,take_length→oQ,isEmpty_iff→zu,pairwise_iff_getElem→lS,exists_mem_of_ne_nil→lg,length_pos_of_mem→j9,filter_eq_nil_iff→mW,drop_of_length_le→kZ,take_append_drop→lJ,getElem?_eq_none→jr,length_dropLast→lX,getElem?_zipIdx→l4,zipIdx_map_fst→ku,length_reverse→lc
open PySem.Heap renaming get?_push_of_some→qE,lt_size→qJ,get?_push_size→qd,get?_update_other→P5,get?_update_self→Om,size_push→QO,get?_none_of_le→Ga,get?_update_ne→j3
open PySem renaming wpAny_bind→qF,wpAny_pure→qV,sizeLine→qa,wpAny_loadPart_at→qp,mainGlobals→qy,mem_of_lookup→UI,Expr→YT,starEach→Vc,FuncData→Xl,wpAny_field→Vh,wpAny_isSubtype_exc→OO,Pos→VH,wpAny_pyIter_list→Qf,wpAny_pyIter_tuple→N9,wpAny_mono→TJ,wpAny_seqItems→PQ,wpAny_callSpecial?_slot→FP,wpAny_setField_rec→Kt,wpAny_Call_Name_kw→Kq,wpAny_passesOwn→MZ,sizeLine_eq→QP,wpAny_standAt→N5,wpAny_newFunctionEnv_cells→Dg,codeAny_call_builtin→EB,wpAny_setField→LZ,codeAny_mono→Oh,wpAny_holding→Mp,wpAny_getItem_str_slice→Dj,wpAny_execs_nil→Kw,wpAny_truthy_bool→Fs,codeAny_call_function→CQ,wpAny_call_entry→HL,wpAny_newObj_type→B2,wpAny_onRaise→Jj,wpAny_pyReprObj_gives→AK,wpAny_loadPart'→C5,post_val_or_str→Cp,wpAny_call→Lb,call_meets→KZ,wpAny_updateSeq_pair→x6,wpAny_attempt→Dc,tupleKind_room_in1→tP,wpAny_rule→JQ,codeAny_func→CG,wpAny_isInstance→x8,wpAny_execs_cons→px,seqIndex_of→DL,codeAny_builtin→zG,wpAny_comprehension_free→jA
open Nat renaming le_refl→qM,lt_of_lt_of_le→qi,ne_of_lt→qt,le_trans→WT,zero_le→V5,lt_of_le_of_lt→LM,lt_irrefl→Ph,lt_succ_self→LQ,ne_of_gt→O0,le_add_right→Ks,not_lt_zero→Ky,min_le_left→ID,le_of_lt→KB,add_sub_cancel_left→Bb,zero_add→Jn,le_of_succ_le→tJ,lt_trans→CL,le_succ→Cw,not_lt→CH
open PySem.F renaming plainAttrs_list→qP,type_list_append→qR,slot_list_append→qS,slot_tuple_iterator_next→Cb,excBase_ValueError→Cz,slot_list_getattribute→rX,typeOf_object_class→sG,slot_zip_next→DG,store_ValueError→pD,type_dict_update→jl,slot_dict_update→kg,args_tuple_add_2→kB,plainAttrs_dict→j6,entry_tuple_add→jD,slot_tuple_add→lb,args_tuple_iterator_next_1→l7,entry_tuple_iterator_next→jS,slot_gs_get→yI
open Bool renaming false_ne_true→qQ,and_eq_true→qe,eq_iff_iff→TH,or_true→Sg,or_eq_true_iff→JD,false_eq_true→Dx,false_or→CP,not_eq_true'→zc,and_self→wm
open Option.some renaming inj→qZ
open PySem.PyData renaming depthAll→qb,canLayAll0→qw,strOk→qz,eqv→Xn
open PySem.PassesOwn renaming never→qh
open PySem.SeqAt renaming shaped→qm,canLay_of_shaped→Ox,eqv_refl→lr
open PySem.Str renaming ofString→Ut
open PySem.Builtin.SmallTypes renaming nextOf→QI
open Int renaming emod_nonneg→Ve,emod_lt_of_pos→Tc,toNat_natCast→Jl,ediv_nonneg→EK,mul_nonneg→t8
open PySem.Obj renaming data_mapFields→QE,isFreed_of_fields→Lk
open Ne renaming symm→Xs
open Array renaming getElem?_eq_some_iff→Lh,mem_of_getElem?→lG,getElem?_toList→lO,mem_toList_iff→jw,toList_append→ml,length_toList→j7
open PyProof.Rows renaming callWith_type1→uk
open PySem.Calls renaming callWith_builtin→tO,Name_function_global→jC,evalArgs_plain→mY,spliced_cons→lQ,Constant_str→kA
open Sum.inr renaming inj→JA
open PySem.Paired renaming length→Dh
open PySem.Code renaming quiet_builtin→u0
open PySem.Heap.SameBut renaming update→kS
open PySem.W.Looks renaming ld→mZ
open List.Sublist renaming refl→mU
open PySem.Heap.IsTuple renaming push→mX
open PySem.SeqAt.EqAt renaming str_int→mP,int_str→mS
open PySem.Heap.IsList renaming push→jO
open PySem.Heap.DictOf renaming new→mq
open PySem.Around renaming under_plainId→jm,frames_deeper→mO
open Function renaming comp_def→ke
open List.Perm renaming refl→jT
open PySem.W (CodeHd FnAt envX exmOne findIn instObj isClsIn isFn kitCls kitOne kla_fn kla_obj lookIn methodObj noTabs plainGet subIn tabIn tabObj typeIn)
namespace L2
open PySem PySem.Spec PyProof.Rows
abbrev Y7:=Sum Int Str
def QM:Y7->Value->Bool
 | .inl k,v=>Value.isInt k v
 | .inr x,v=>Value.isStrOf x v
def oh(w:World):Y7->Int
 | .inl k=>hashInt k
 | .inr x=>hashStr w x
theorem Qc:∀{k:Y7}{v:Value},QM k v=true->(∃i t,k=Sum.inl i/\v=Value.int i t)\/(∃x t,k=Sum.inr x/\v=Value.str x t)
 | .inl i,v,h=>by
  obtain⟨t,e⟩:=Value.isInt_shape (k:=i) (v:=v) h;exact .inl ⟨i,t,rfl,e⟩
 | .inr x,v,h=>by
  obtain⟨t,e⟩:=Value.isStrOf_shape (x:=x) (v:=v) h;exact .inr ⟨x,t,rfl,e⟩
theorem r9(i:Int)(t:Tok):QM (.inl i) (.int i t)=true:=by simp[QM,Value.isInt]
theorem Av(x:Str)(t:Tok):QM (.inr x) (.str x t)=true:=by simp[QM,Value.isStrOf]
theorem yB(a b:Int):decide ((Sum.inl a:Y7)=Sum.inl b)=(a==b):=by
 by_cases e:a=b
 ·subst e;simp
 ·have h:¬(Sum.inl a:Y7)=Sum.inl b:=λq=>e (Sum.inl.inj q);rw[decide_eq_false h];exact(beq_eq_false_iff_ne.mpr e).symm
theorem vm(a b:Str):decide ((Sum.inr a:Y7)=Sum.inr b)=decide (a=b):=by
 by_cases e:a=b
 ·subst e;simp
 ·have h:¬(Sum.inr a:Y7)=Sum.inr b:=λq=>e (JA q);rw[decide_eq_false h,decide_eq_false e]
theorem yt(a:Int)(b:Str):decide ((Sum.inl a:Y7)=Sum.inr b)=false:=decide_eq_false (λq=>nomatch q)
theorem wa(a:Str)(b:Int):decide ((Sum.inr a:Y7)=Sum.inl b)=false:=decide_eq_false (λq=>nomatch q)
def Wv(d:Program)(w:World):PySem.KeyKind d w Y7 where
 is:=QM
 hash:=oh w
 inj:=λv a b l g=>by
  rcases Qc l with⟨i,t,rfl,rfl⟩|⟨x,t,rfl,rfl⟩
  ·rcases Qc g with⟨j,u,rfl,e⟩|⟨y,u,rfl,e⟩
   ·injection e with c _;rw[c]
   ·exact nomatch e
  ·rcases Qc g with⟨j,u,rfl,e⟩|⟨y,u,rfl,e⟩
   ·exact nomatch e
   ·injection e with c _;rw[c]
 byValue:=λk v h=>by
  rcases Qc h with⟨i,t,rfl,rfl⟩|⟨x,t,rfl,rfl⟩<;>rfl
 pyHash:=λf h=>by
  rcases Qc f with⟨i,t,rfl,rfl⟩|⟨x,t,rfl,rfl⟩
  ·exact wpAny_pyHash_int h
  ·exact wpAny_pyHash_str h
 eqBool:=λm f h=>by
  rcases Qc m with⟨i,t,rfl,rfl⟩|⟨x,t,rfl,rfl⟩
  ·rcases Qc f with⟨j,u,rfl,rfl⟩|⟨y,u,rfl,rfl⟩
   ·rw[yB]at h;exact wpAny_eqBool_int h
   ·rw[yt]at h;exact mS i t y u _ _ _ _ h
  ·rcases Qc f with⟨j,u,rfl,rfl⟩|⟨y,u,rfl,rfl⟩
   ·rw[wa]at h;exact mP x t j u _ _ _ _ h
   ·rw[vm]at h;exact wpAny_eqBool_str h
 «strs»:=λk x t v h=>by
  rcases Qc h with⟨i,u,rfl,e⟩|⟨y,u,rfl,e⟩
  ·exact nomatch e
  ·injection e with c _;subst c;cases v<;>rfl
theorem Ad(a:Program)(w:World)(i:Int)(t:Tok):(Wv a w).is (.inl i) (.int i t)=true:=r9 i t
theorem BP(a:Program)(w:World)(x:Str)(t:Tok):(Wv a w).is (.inr x) (.str x t)=true:=Av x t
inductive V where
 | non|bl (b:Bool)|int (i:Int)|str (x:Str)|byt (b:Array UInt8)|flt (b:UInt64)|ref (a:Addr)|ty (n:String)
 deriving DecidableEq
def ZF:V->Value->Prop
 | .non,u=>u=Value.none
 | .bl b,u=>u=Value.bool b
 | .int i,u=>∃t,u=Value.int i t
 | .str x,u=>∃t,u=Value.str x t
 | .byt b,u=>∃t,u=Value.bytes b t
 | .flt b,u=>∃t,u=Value.float b t
 | .ref a,u=>u=Value.ref a
 | .ty n,u=>u=Value.type n
abbrev ZJ:List V->List Value->Prop:=Paired ZF
theorem ZJ.length{xs:List V}{a:List Value}(r:ZJ xs a):xs.length=a.length:=Dh r
theorem ZJ.get:∀{a:List V}{b:List Value}{i:Nat}{x:V},ZJ a b->a[i]?=some x->∃u,b[i]?=some u/\ZF x u
 | _,_,_,_,.nil,e=>by simp at e
 | _,_,0,_,.cons r _,e=>by simp at e;subst e;exact⟨_,rfl,r⟩
 | _,_,i+1,x,.cons _ t,e=>by
  obtain⟨u,d,c⟩:=ZJ.get (i:=i) (x:=x) t (by simpa using e);exact⟨u,by simpa using d,c⟩
theorem ZJ.set(r:ZF x u):∀{a:List V}{b:List Value}(i:Nat),ZJ a b->ZJ (a.set i x) (b.set i u)
 | _,_,_,.nil=>.nil
 | _,_,0,.cons _ t=>.cons r t
 | _,_,i+1,.cons q t=>.cons q (ZJ.set r i t)
theorem ZJ.append:∀{b a:List V}{d c:List Value},ZJ b d->ZJ a c->ZJ (b++a) (d++c)
 | _,_,_,_,.nil,s=>s
 | _,_,_,_,.cons r t,s=>.cons r (ZJ.append t s)
theorem ZJ.take:∀{xs:List V}{a:List Value}(n:Nat),ZJ xs a->ZJ (xs.take n) (a.take n)
 | _,_,0,_=>.nil
 | _,_,_+1,.nil=>.nil
 | _,_,n+1,.cons r t=>.cons r (ZJ.take n t)
theorem ZJ.drop:∀{xs:List V}{a:List Value}(n:Nat),ZJ xs a->ZJ (xs.drop n) (a.drop n)
 | _,_,0,r=>r
 | _,_,_+1,.nil=>.nil
 | _,_,n+1,.cons _ t=>ZJ.drop n t
def WC:Option V->Option Value->Prop
 | some v,some u=>ZF v u
 | none,none=>True
 | _,_=>False
def KV{κ:Type}:List (κ×V)->List (κ×Value)->Prop:=Paired λ(p:κ×V)(q:κ×Value)=>p.1=q.1/\ZF p.2 q.2
def kV:Y7->V
 | .inl i=>.int i
 | .inr x=>.str x
inductive HO where
  | lst (xs:List V)
  | tup (xs:List V)
  | dK (kvs:List (Y7×V))|dT (kvs:List (List Y7×V))
  | set (S:Int->Bool) (n:Nat)
  | ins (C dx:Addr) (fs:List (Str×V))
  | own (x:Addr)
  | xd (fs:List (Str×V))
  | met (f x:Addr)
  | rng (lo hi:Int)
  | frz (o:Obj) (u:HO)
  | tbl (ps:Array Value)
 | tabO (q:Str)
  | ext (φ:Heap->Prop)
abbrev Hp:=Addr->Option HO
def upd(H:Hp)(a:Addr)(o:HO):Hp:=λb=>if b=a then some o else H b
theorem Yr:upd H a o a=some o:=by unfold upd;rw[if_pos rfl]
theorem Y0(h:b≠a):upd H a o b=H b:=by unfold upd;rw[if_neg h]
theorem zf:upd (upd H a o) a u=upd H a u:=by
 funext b;unfold upd;split<;>rfl
theorem xS{H:Hp}{a b:Addr}{o u:HO}(h:H a=some o)(c:H b=some u)(d:o≠u):a≠b:=by
 intro e;subst e;rw[h]at c;exact d (qZ c)
theorem VG{H:Hp}{a b:Addr}{o:HO}(h:H a=some o)(h':H b=none):a≠b:=by
 intro e;subst e;rw[h]at h';cases h'
section
variable(P:Program)(w:World)
def XE(H:Hp)(h:Heap)(a:Addr):HO->Prop
 | .lst e=>e.length<=qa/\∃(b:List Value)(n:Nat),ZJ e b/\h.get? a=some {cls:=.type "list",data:=.seq b.toArray n}
 | .tup e=>e.length<=qa/\∃b:List Value,ZJ e b/\IsTup h a b.toArray
 | .dK d=>d.length<=qa/\(a==sysModules)=false/\∃vs,KV d vs/\h.DictOf (Wv P w) a vs
 | .dT d=>d.length<=qa/\(a==sysModules)=false/\∃e:List (List Y7×Addr×Value),
   Paired (λ(p:List Y7×V)(q:List Y7×Addr×Value)=>p.1=q.1/\H q.2.1=some (.tup (p.1.map kV))/\ZF p.2 q.2.2) d e/\
   ∃o k r,h.get? a=some o/\o.ExactDict/\o.data=.dict k r/\k.toList=e.map (entryOfKey (tupleKind (Wv P w)))/\(e.map (·.1)).Nodup
 | .set S n=>h.SetOf (intKind P w) a S n
 | .ins C dx fs=>H dx=some (.own a)/\fs.length<=1000/\dx≠a/\h.get? a=some (instObj C dx)/\
   ∃g,h.Ns1 dx g/\(∀f,WC (fs.lookup f) (g f))/\PySem.Within g (fs.map (·.1))
 | .own _=>∃o,h.get? a=some o
 | .xd fs=>∃g,h.Ns1 a g/\∀f,WC (fs.lookup f) (g f)
 | .rng lo m=>∃t u v,h.get? a=some {cls:=.type "range",data:=.fields #[.int lo t,.int m u,.int 1 v]}
 | .frz o u=>h.get? a=some o/\XE H h a u
 | .tbl i=>h.get? a=some {cls:=.none,data:=.fields i}
 | .tabO q=>∃i:Array Value,h.get? a=some (tabObj i)/\TriplesOk i.toList/\∀j l,codeAmong j i.toList=some l->∃c o vs t,l=.ref c/\c≠a/\H c=some (.frz o (.own a))/\o.data=.fields vs/\vs[1]?=some (.str q t)
 | .met f x=>h.get? a=some (methodObj (.ref f) (.ref x))
 | .ext φ=>φ h/\(∃o,h.get? a=some o)/\∀h1 h2:Heap,φ h1->(∀o,h1.get? a=some o->h2.get? a=some o)->φ h2
def Yt(H:Hp)(h:Heap):Prop:=∀a o,H a=some o->XE P w H h a o
end
section
variable{P:Program}{w:World}{H H':Hp}{h h':Heap}{a:Addr}{o:HO}
theorem XE.lt(x:XE P w H h a o):a<h.objs.size:=by
 cases o with
 | lst c=>obtain⟨_,_,_,_,e⟩:=x;exact qJ e
 | tup c=>obtain⟨_,_,_,p⟩:=x;exact p.lt
 | dK b=>obtain⟨_,_,_,_,o,_,_,e,_⟩:=x;exact qJ e
 | dT b=>obtain⟨_,_,_,_,o,_,_,e,_⟩:=x;exact qJ e
 | set S n=>obtain⟨o,_,_,_,e,_⟩:=x;exact qJ e
 | ins C dx fs=>obtain⟨_,_,_,e,_⟩:=x;exact qJ e
 | own y=>obtain⟨_,e⟩:=x;exact qJ e
 | xd fs=>obtain⟨_,⟨_,_,_,e,_⟩,_⟩:=x;exact qJ e
 | rng i g=>obtain⟨_,_,_,e⟩:=x;exact qJ e
 | frz d u=>obtain⟨e,_⟩:=x;exact qJ e
 | tbl j=>exact qJ (show h.get? a=some _ from x)
 | tabO q=>obtain⟨_,e,_⟩:=x;exact qJ e
 | met f y=>exact qJ (show h.get? a=some _ from x)
 | ext φ=>obtain⟨_,⟨_,e⟩,_⟩:=x;exact qJ e
theorem Paired.mapP{F G:α->β->Prop}:∀{c:List α}{d:List β},Paired F c d->(∀a b,F a b->G a b)->Paired G c d
 | _,_,.nil,_=>.nil
 | _,_,.cons r t,f=>.cons (f _ _ r) (Paired.mapP t f)
theorem XE.stay(x:XE P w H h a o)(k:∀b u,(b=a\/H b=some (.own a))->h.get? b=some u->h'.get? b=some u)
  (T:∀b,H b=some (.own a)->H' b=some (.own a)) (L:∀b m,H b=some (.tup m)->H' b=some (.tup m)) (O:∀(b:Addr)(s:Obj),H b=some (.frz s (.own a))->H' b=some (.frz s (.own a)):=by first|exact λ_ _ q=>q|(intro b s q;rw[Y0 (VG q (by assumption))];exact q)|(intro b s q;rw[Y0 (λz=>by subst z;simp_all)];exact q)):XE P w H' h' a o:=by
 induction o with
 | lst m=>obtain⟨z,l,n,r,e⟩:=x;exact⟨z,l,n,r,k _ _ (.inl rfl) e⟩
 | tup m=>obtain⟨z,l,r,g,e,c⟩:=x;exact⟨z,l,r,g,k _ _ (.inl rfl) e,c⟩
 | dK G=>obtain⟨z,y,vs,r,g,j,i,e,c⟩:=x;exact⟨z,y,vs,r,g,j,i,k _ _ (.inl rfl) e,c⟩
 | dT G=>
  obtain⟨z,y,m,r,g,j,i,e,c⟩:=x;exact⟨z,y,m,Paired.mapP r λp q z=>⟨z.1,L _ _ z.2.1,z.2.2⟩,g,j,i,k _ _ (.inl rfl) e,c⟩
 | set S n=>obtain⟨g,j,i,t,e,c⟩:=x;exact⟨g,j,i,t,k _ _ (.inl rfl) e,c⟩
 | ins C dx fs=>
  obtain⟨d,z,X,e,E,⟨F,j,i,D,c⟩,r⟩:=x;exact⟨T _ d,z,X,k _ _ (.inl rfl) e,E,⟨F,j,i,k _ _ (.inr d) D,c⟩,r⟩
 | own y=>obtain⟨g,e⟩:=x;exact⟨g,k _ _ (.inl rfl) e⟩
 | xd fs=>obtain⟨E,⟨F,j,i,e,c⟩,r⟩:=x;exact⟨E,⟨F,j,i,k _ _ (.inl rfl) e,c⟩,r⟩
 | rng lo Z=>obtain⟨t,u,v,e⟩:=x;exact⟨t,u,v,k _ _ (.inl rfl) e⟩
 | frz g u U=>obtain⟨e,q⟩:=x;exact⟨k _ _ (.inl rfl) e,U q⟩
 | tabO q=>
  obtain⟨A,e,t,c⟩:=x
  exact⟨A,k _ _ (.inl rfl) e,t,λB W Q=>by
   obtain⟨M,o,vs,Y,N,D,R,J⟩:=c B W Q;exact⟨M,o,vs,Y,N,D,O _ _ R,J⟩⟩
 | tbl A=>
  have e:h.get? a=some {cls:=.none,data:=.fields A}:=x;show h'.get? a=some {cls:=.none,data:=.fields A};exact k a _ (.inl rfl) e
 | met f y=>
  have e:h.get? a=some (methodObj (.ref f) (.ref y)):=x;show h'.get? a=some (methodObj (.ref f) (.ref y));exact k a _ (.inl rfl) e
 | ext φ=>obtain⟨p,⟨o,e⟩,I⟩:=x;exact⟨I _ _ p λo q=>k _ _ (.inl rfl) q,⟨o,k _ _ (.inl rfl) e⟩,I⟩
theorem Yt.lt(x:Yt P w H h)(e:H a=some o):a<h.objs.size:=(x a o e).lt
theorem Yt.fresh(x:Yt P w H h)(e:h.objs.size<=a):H a=none:=by
 cases q:H a with
 | none=>rfl
 | some u=>exact absurd (qi (x.lt q) e) (Ph _)
theorem Yt.kept(x:Yt P w H h)(k:∀b u,h.get? b=some u->h'.get? b=some u):Yt P w H h':=λa o e=>
 (x a o e).stay (λb u _ q=>k b u q) (λ_ q=>q) λ_ _ q=>q
theorem Yt.laid(x:Yt P w H h)(k:∀b u,h.get? b=some u->h'.get? b=some u)(f:h.objs.size<=a)(new:XE P w (upd H a o) h' a o):Yt P w (upd H a o) h':=λb u e=>by
 have d:=x.fresh f;by_cases hb:b=a
 ·subst hb;rw[Yr]at e;cases e;exact new
 ·rw[Y0 hb]at e;exact(x b u e).stay (λc v _ q=>k c v q) (λc q=>by rw[Y0 (VG q d)];exact q) λc g q=>by rw[Y0 (VG q d)];exact q
end
def Rd(H:Hp)(a:Addr)(u:HO):Prop:=H a=some u\/∃o,H a=some (.frz o u)
theorem Rd.ok(r:Rd H a u)(x:Yt P w H h):XE P w H h a u:=by
 rcases r with r|⟨o,r⟩
 ·exact x a u r
 ·obtain⟨_,q⟩:=x a _ r;exact q
def Fc:Option HO->Prop
 | some (.lst _)=>True
 | some (.dK _)=>True
 | some (.dT _)=>True
 | some (.set _ _)=>True
 | some (.ins _ _ _)=>True
 | some (.ext _)=>True
 | _=>False
section
variable{P:Program}{w:World}{H:Hp}{h h':Heap}{x e:Addr}{o':HO}
theorem Yt.write(ok:Yt P w H h)(d:Fc (H x))(n:e=x\/H e=some (.own x))(k:∀b u,b≠e->h.get? b=some u->h'.get? b=some u)(m:∃u,h'.get? e=some u)
  (new:XE P w (upd H x o') h' x o'):Yt P w (upd H x o') h':=λb u q=>by
 have a:∀c y,H c=some (.own y)->c≠x:=λc y r z=>by subst z;rw[r]at d;exact d
 have g:∀c i,H c=some (.tup i)->c≠x:=λc i r z=>by subst z;rw[r]at d;exact d
 have f:∀c j p,H c=some (.frz j p)->c≠x:=λc j p r z=>by subst z;rw[r]at d;exact d
 by_cases hb:b=x
 ·subst hb;rw[Yr]at q;cases q;exact new
 ·rw[Y0 hb]at q;by_cases hbe:b=e
  ·have o:H b=some (.own x):=by
    rcases n with z|z
    ·exact absurd (hbe.trans z) hb
    ·rw[hbe];exact z
   rw[q]at o;cases o;obtain⟨v,s⟩:=m;exact⟨v,by rw[hbe];exact s⟩
  ·refine(ok b u q).stay (λc v l r=>k c v ?_ r) (λc r=>by rw[Y0 (a c b r)];exact r) (λc i r=>by rw[Y0 (g c i r)];exact r) (λc j r=>by rw[Y0 (f c j _ r)];exact r);rcases l with rfl|l
   ·exact hbe
   ·rintro rfl;rcases n with z|z
    ·exact a c b l z
    ·rw[l]at z;cases z;exact hb rfl
end
set_option genInjectivity false in
structure Un(fs ex:List Addr)(H H':Hp)(h h':Heap):Prop where
 keep:∀b o,h.get? b=some o->H b=none->b∉fs->b∉ex->h'.get? b=some o
 slot:∀b o,h.get? b=some o->H b=none->b∈fs->b∉ex->∃sl,h'.get? b=some {o with slots:=sl}
 free:∀b o,h.get? b=some o->H b=none->b∉ex->H' b=none
 there:∀b o,h.get? b=some o->b∉ex->∃o',h'.get? b=some o'
 tups:∀b xs,H b=some (.tup xs)->H' b=some (.tup xs)
 frzs:∀b o u,H b=some (.frz o u)->H' b=some (.frz o u)
 tbls:∀b ps,H b=some (.tbl ps)->∃more,H' b=some (.tbl (ps++more))
section
variable{fs fs' ex ex':List Addr}{H H1 H2:Hp}{h h1 h2 h':Heap}{a x e:Addr}{o:HO}
theorem Un.any(u:Un fs ex H H1 h h1)(q:h.get? b=some c)(n:H b=none)(d:b∉ex):∃f,h1.get? b=some {c with slots:=f}:=by
 by_cases hb:b∈fs
 ·exact u.slot b c q n hb d
 ·exact⟨c.slots,u.keep b c q n hb d⟩
theorem Un.kept(k:∀b u,h.get? b=some u->h'.get? b=some u):Un fs ex H H h h':=
 ⟨λb c q _ _ _=>k b c q,λb c q _ _ _=>⟨c.slots,k b c q⟩,λ_ _ _ n _=>n,λb c q _=>⟨c,k b c q⟩,λ_ _ q=>q,λ_ _ _ q=>q,λ_ d q=>⟨#[],by rw[q];simp⟩⟩
theorem Un.refl:Un fs ex H H h h:=Un.kept λ_ _ q=>q
theorem Un.laid(k:∀b u,h.get? b=some u->h'.get? b=some u)(g:h.objs.size<=a)(c:H a=none):Un fs ex H (upd H a o) h h' where
 keep:=λb u q _ _ _=>k b u q
 slot:=λb u q _ _ _=>⟨u.slots,k b u q⟩
 free:=λb u q n _=>by rw[Y0 (qt (qi (qJ q) g))];exact n
 there:=λb u q _=>⟨u,k b u q⟩
 tups:=λb f q=>by rw[Y0 (VG q c)];exact q
 frzs:=λb u f q=>by rw[Y0 (VG q c)];exact q
 tbls:=λb i q=>⟨#[],by rw[Y0 (VG q c),q];simp⟩
theorem Un.write(c:Fc (H x))(l:e=x\/H e=some (.own x))(k:∀b u,b≠e->h.get? b=some u->h'.get? b=some u)(d:∃u,h'.get? e=some u):Un fs ex H (upd H x o) h h':=by
 have i:∀b,H b=none->b≠x:=λb n z=>by subst z;rw[n]at c;exact c
 have g:∀b,H b=none->b≠e:=λb n z=>by
  subst z;rcases l with r|r
  ·exact i b n r
  ·rw[n]at r;cases r
 have f:∀b u,H b=some u->¬Fc (some u)->b≠x:=λb u q nm z=>by subst z;rw[q]at c;exact nm c
 refine⟨λb u q n _ _=>k b u (g b n) q,λb u q n _ _=>⟨u.slots,k b u (g b n) q⟩,λb u q n _=>by rw[Y0 (i b n)];exact n,λb u q _=>?_,
  λb j q=>by rw[Y0 (f b _ q λz=>z)];exact q,λb u j q=>by rw[Y0 (f b _ q λz=>z)];exact q,λb m q=>⟨#[],by rw[Y0 (f b _ q λz=>z),q];simp⟩⟩
 by_cases hbe:b=e
 ·subst hbe;exact d
 ·exact⟨u,k b u hbe q⟩
end
def DM(h:Heap)(H:Hp):List Addr:=(List.range h.objs.size).filter λa=>(H a).isSome
def V4(h:Heap)(H:Hp):Heap:=PySem.W.hideAll h (DM h H)
theorem zU(h:Heap)(H:Hp):(V4 h H).objs.size=h.objs.size:=PySem.W.hideAll_size _ _
theorem Ck{h:Heap}(e:h.get? b=some o)(n:H b=none):(V4 h H).get? b=some o:=
 PySem.W.hideAll_get _ e λa=>by
  have q:(H b).isSome=true:=(qj.mp a).2;rw[n]at q;simp at q
theorem oY{h:Heap}(e:(V4 h H).get? b=some o):h.get? b=some o/\H b=none:=by
 have a:h.get? b=some o:=PySem.W.of_hideAll (DM h H) e;refine⟨a,?_⟩
 cases q:H b with
 | none=>rfl
 | some x=>
  have c:b∈DM h H:=qj.mpr ⟨TY.mpr (qJ a),by simp[q]⟩;have z:(V4 h H).get? b=none:=PySem.W.hideAll_none (DM h H) c;rw[z]at e;cases e
set_option genInjectivity false in
structure Mod(K:qC)(mg:Str->Option Value)(base:Heap):Prop where
 kin:K.In base
 glob:base.Ns qy mg
 blt:∃mb,base.Ns builtinsNs mb/\∀x:Str,x≠"__name__"->mb x=bootBuiltins x
 nolimit:base.NoLimit
set_option genInjectivity false in
structure Cx where
 prog:Program
 w:World
 K:qC
 mg:Str->Option Value
 base:Heap
 A:Around
 N:List Str
 s₀:Shared
 H₀:Hp
 env:Env
 outer:List Env
 stack:List Env
 ex:List Addr
 fn:Str->Bool
 calm:Bool
 pn:List (Addr×Obj)
 xe:Value->Shared->Prop
def VR(l:List Env):List Addr:=l.filterMap (·.frame)
abbrev Cx.fs(X:Cx):List Addr:=VR X.outer
def C9(a:Scope)(x:Str):Prop:=a.names.lookup x=some .local\/a.names.lookup x=some .cell\/a.names.lookup x=some .free
def WI(a:Scope)(x:Str):Bool:=match a.names.lookup x with
 | some .local=>true
 | some .cell=>true
 | some .free=>true
 | _=>false
theorem WI.of(h:WI a x=true):C9 a x:=by
 unfold WI at h
 cases e:a.names.lookup x with
 | none=>rw[e]at h;cases h
 | some k=>rw[e]at h;cases k<;>first|exact .inl e|exact .inr (.inl e)|exact .inr (.inr e)|cases h
def QN(a:Scope)(x:Str):Prop:=a.names.lookup x=some .local\/a.names.lookup x=some .cell
def ug(a:Env)(h:Heap)(m:Str->Option Value)(x:Str)(u:Value):Prop:=
 (a.kindOf x=some .local/\m x=some u)\/((a.kindOf x=some .cell\/a.kindOf x=some .free)/\∃c,a.cells.lookup x=some c/\h.IsCell c (some u))
set_option genInjectivity false in
structure Cx.Ok(X:Cx):Prop where
 mod:Mod X.K X.mg X.base
 kind:X.env.scope.kind=.function
 glob:X.env.globals=qy
 blt:X.env.builtins=builtinsNs
 above:X.s₀.heap.objs.size<=X.env.locals
 inj:∀x y c,X.env.cells.lookup x=some c->X.env.cells.lookup y=some c->x=y
 has:∀x,(X.env.kindOf x=some .cell\/X.env.kindOf x=some .free)->∃c,X.env.cells.lookup x=some c
 cab:∀x c,X.fn x=true->X.env.cells.lookup x=some c->X.s₀.heap.objs.size<=c
 hd:X.calm=true->X.A.handled=none
 frames:X.A.frames=some X.stack
 stk:X.stack=X.outer\/(X.stack=X.env::X.outer/\X.env.frame=some X.env.locals)
 exf:∀b∈X.ex,b≠X.env.locals/\∀x c,X.env.cells.lookup x=some c->c≠b
 bs:∀b o,X.base.get? b=some o->X.s₀.heap.get? b=some o/\X.H₀ b=none
 bsz:X.base.objs.size<=X.s₀.heap.objs.size
 noex:∀b o,X.base.get? b=some o->b∉X.ex
 exfs:∀b∈X.ex,b∉X.fs
 funs:X.s₀.heap.FunFrames X.base X.outer
 frf:∀b∈X.fs,X.H₀ b=none
set_option genInjectivity false in
structure Inv(X:Cx)(pins:List (Addr×Obj))(σ:List (Option V))(H:Hp)(s:Shared):Prop where
 ok:X.Ok
 os:s.os=X.s₀.os
 bare:AllBare s.gens
 base:Un X.fs X.ex X.H₀ H X.s₀.heap s.heap
 loc:∃m,s.heap.Ns X.env.locals m/\∀(i:Nat)(x:Str)(v:V),X.N[i]?=some x->σ[i]?=some (some v)->C9 X.env.scope x->∃u,ZF v u/\ug X.env s.heap m x u
 cell:∀x c,X.env.cells.lookup x=some c->∃v,s.heap.IsCell c v
 free:H X.env.locals=none
 freeC:∀x c,X.env.cells.lookup x=some c->H c=none
 pin:∀p∈X.pn++pins,s.heap.get? p.1=some p.2/\H p.1=none/\p.1≠X.env.locals/\p.1∉X.fs/\∀v,p.2.data≠.cell v
 hok:Yt X.prog X.w H s.heap
 len:σ.length=X.N.length
section
variable{X:Cx}{pins:List (Addr×Obj)}{σ:List (Option V)}{H H':Hp}{s:Shared}{h':Heap}
theorem Cx.Ok.nofr(ok:X.Ok)(e:X.base.get? b=some o):b∉X.fs:=λa=>by
 have:=(ok.funs.mem a).1;rw[e]at this;cases this
theorem Inv.bs(I:Inv X pins σ H s):∀b o,X.base.get? b=some o->s.heap.get? b=some o/\H b=none:=λb o e=>
 ⟨I.base.keep b o (I.ok.bs b o e).1 (I.ok.bs b o e).2 (I.ok.nofr e) (I.ok.noex b o e),I.base.free b o (I.ok.bs b o e).1 (I.ok.bs b o e).2 (I.ok.noex b o e)⟩
theorem Inv.bk(I:Inv X pins σ H s):∀b o,X.base.get? b=some o->s.heap.get? b=some o:=λb o e=>(I.bs b o e).1
theorem Inv.mod(I:Inv X pins σ H s):Mod X.K X.mg X.base:=I.ok.mod
theorem Inv.kIn(I:Inv X pins σ H s):X.K.In s.heap:=I.ok.mod.kin.keeps I.bk
theorem Inv.fr(I:Inv X pins σ H s):∃m,Fr X.base X.env.locals s.heap m:=
 let⟨m,hn,_⟩:=I.loc
 ⟨m,hn,I.bk,WT I.ok.bsz I.ok.above⟩
theorem Inv.lt(I:Inv X pins σ H s):X.env.locals<s.heap.objs.size:=let⟨_,hn,_⟩:=I.loc;hn.lt
theorem Inv.sz(I:Inv X pins σ H s):X.s₀.heap.objs.size<=s.heap.objs.size:=WT I.ok.above (KB I.lt)
theorem Inv.nofs(I:Inv X pins σ H s)(h:s.heap.objs.size<=a):a∉X.fs:=λb=>by
 obtain⟨_,o,c,_⟩:=I.ok.funs.mem b;exact absurd (qi (qJ c) (WT I.sz h)) (Ph _)
theorem Inv.cne(I:Inv X pins σ H s):∀x c,X.env.cells.lookup x=some c->c≠X.env.locals:=λx c e z=>by
 obtain⟨v,o,d,f⟩:=I.cell x c e;obtain⟨m,⟨g,h,i,b,a,_⟩,_⟩:=I.loc;rw[z,b]at d;cases d;rw[a]at f;cases f
theorem Inv.funs(I:Inv X pins σ H s):s.heap.FunFrames X.base X.outer:=by
 have all:∀(l:List Env),(∀b∈VR l,b∈X.fs)->X.s₀.heap.FunFrames X.base l->s.heap.FunFrames X.base l:=by
  intro l
  induction l with
  | nil=>intro _ _;trivial
  | cons g r k=>
   intro f m;obtain⟨p,⟨L,o,c,i,j,n⟩,h⟩:=m;have a:L∈X.fs:=f L (by unfold VR;rw[Cv,c];exact qX);obtain⟨q,e⟩:=I.base.slot L o j (I.ok.frf L a) a λz=>I.ok.exfs L z a;exact⟨p,⟨L,_,c,i,e,n⟩,k (λb d=>f b (by unfold VR;rw[Cv,c];exact qI _ d)) h⟩
 exact all X.outer (λ_ d=>d) I.ok.funs
theorem Inv.stack(I:Inv X pins σ H s):s.heap.FunFrames X.base X.stack:=by
 rcases I.ok.stk with e|⟨e,a⟩
 ·rw[e];exact I.funs
 ·rw[e];obtain⟨m,b,_⟩:=I.loc;refine .cons (by rw[I.ok.kind];decide) a b ?_ I.funs;exact Ga (WT I.ok.bsz I.ok.above)
theorem Inv.stkSub(I:Inv X pins σ H s):∀b∈VR X.stack,b∈X.env.locals::X.fs:=λb a=>by
 rcases I.ok.stk with e|⟨e,c⟩
 ·rw[e]at a;exact qI _ a
 ·rw[e]at a;unfold VR at a;rw[Cv,c]at a;exact a
theorem Inv.stkFree(I:Inv X pins σ H s):∀b∈VR X.stack,H b=none:=λb a=>by
 rcases qN.mp (I.stkSub b a)with e|a
 ·rw[e];exact I.free
 ·obtain⟨_,o,c,_⟩:=I.ok.funs.mem a;exact I.base.free b o c (I.ok.frf b a) λz=>I.ok.exfs b z a
theorem Inv.step{g':Array GenState}{t':Nat}{d':Drawn}{ch:List Addr}(I:Inv X pins σ H s)
  (h:∀b∈ch,(b∈X.ex\/X.s₀.heap.objs.size<=b)/\b≠X.env.locals/\(∀x c,X.env.cells.lookup x=some c->c≠b)/\∀p∈X.pn++pins,p.1≠b)
  (f:∀b o,b≠X.env.locals->b∉X.fs->b∉ch->s.heap.get? b=some o->H b=none->h'.get? b=some o)
  (B:∀b o,b≠X.env.locals->b∈X.fs->b∉ch->s.heap.get? b=some o->H b=none->∃N,h'.get? b=some {o with slots:=N}) (free:∀b o,b∉ch->s.heap.get? b=some o->H b=none->H' b=none)
  (there:∀b o,b∉ch->s.heap.get? b=some o->∃E,h'.get? b=some E)
  (J:∀b A,H b=some (.tup A)->H' b=some (.tup A))(frzs:∀b o u,H b=some (.frz o u)->H' b=some (.frz o u))(L:∀b M,H b=some (.tbl M)->∃more,H' b=some (.tbl (M++more)))
  (Z:∀m,s.heap.Ns X.env.locals m->h'.Ns X.env.locals m)(O:Yt X.prog X.w H' h')(Y:AllBare g') :
  Inv X pins σ H' {s with heap:=h',gens:=g',drawn:=d',toks:=t'}:=by
 have F:∀b o,X.s₀.heap.get? b=some o->b≠X.env.locals:=λb o e=>qt (qi (qJ e) I.ok.above)
 have t:∀b o,X.s₀.heap.get? b=some o->b∉X.ex->b∉ch:=λb o e a C=>by
  rcases(h b C).1 with z|z
  ·exact a z
  ·exact absurd (qi (qJ e) z) (Ph _)
 have g:∀x c,X.env.cells.lookup x=some c->∀v,s.heap.IsCell c v->h'.IsCell c v:=λx c e v ⟨o,D,Q⟩=>by
  have j:c∉ch:=λz=>(h c z).2.2.1 x c e rfl;by_cases hc:c∈X.fs
  ·obtain⟨N,q⟩:=B c o (I.cne x c e) hc j D (I.freeC x c e);exact⟨_,q,Q⟩
  ·exact⟨o,f c o (I.cne x c e) hc j D (I.freeC x c e),Q⟩
 refine⟨I.ok,I.os,Y,⟨λb o e n C a=>?_,λb o e n C a=>?_,λb o e n a=>?_,λb o e a=>?_,λb A e=>J b A (I.base.tups b A e),λb o A e=>frzs b o A (I.base.frzs b o A e),λb M e=>?_⟩,?_,λx c e=>?_,?_,λx c e=>?_,λp R=>?_,O,I.len⟩
 ·exact f b o (F b o e) C (t b o e a) (I.base.keep b o e n C a) (I.base.free b o e n a)
 ·obtain⟨N,y⟩:=I.base.slot b o e n C a;obtain⟨P,G⟩:=B b _ (F b o e) C (t b o e a) y (I.base.free b o e n a);exact⟨P,G⟩
 ·obtain⟨E,y⟩:=I.base.there b o e a;exact free b E (t b o e a) y (I.base.free b o e n a)
 ·obtain⟨E,y⟩:=I.base.there b o e a;exact there b E (t b o e a) y
 ·obtain⟨m1,y⟩:=I.base.tbls b M e;obtain⟨W,G⟩:=L b _ y;exact⟨m1++W,by rw[G,Array.append_assoc]⟩
 ·obtain⟨m,U,hl⟩:=I.loc;refine⟨m,Z m U,λi x v y G e3=>?_⟩;obtain⟨u,r,l⟩:=hl i x v y G e3;refine⟨u,r,?_⟩;rcases l with l|⟨k,c,e,z⟩
  ·exact .inl l
  ·exact .inr ⟨k,c,e,g x c e _ z⟩
 ·obtain⟨v,z⟩:=I.cell x c e;exact⟨v,g x c e v z⟩
 ·obtain⟨m,⟨o,_,_,D,_⟩,_⟩:=I.loc;exact free _ o (λz=>(h _ z).2.1 rfl) D I.free
 ·obtain⟨v,o,D,Q⟩:=I.cell x c e;exact free c o (λz=>(h c z).2.2.1 x c e rfl) D (I.freeC x c e)
 ·obtain⟨e,n,S,T,d⟩:=I.pin p R;have j:p.1∉ch:=λz=>(h p.1 z).2.2.2 p R rfl;exact⟨f p.1 p.2 S T j e n,free p.1 p.2 j e n,S,T,d⟩
theorem Inv.un{t':Nat}(I:Inv X pins σ H s)(u:Un X.fs [] H H' s.heap h')(f:Yt X.prog X.w H' h'):Inv X pins σ H' {s with heap:=h',toks:=t'}:=by
 obtain⟨m,⟨o,t,v,h,r⟩,_⟩:=id I.loc;obtain⟨p,i⟩:=u.any h I.free (by simp)
 exact I.step (g':=s.gens) (d':=s.drawn) (ch:=[]) (λ_ z=>nomatch z) (λb o _ d _ e n=>u.keep b o e n d (by simp)) (λb o _ d _ e n=>u.slot b o e n d (by simp)) (λb o _ e n=>u.free b o e n (by simp)) (λb o _ e=>u.there b o e (by simp)) u.tups u.frzs u.tbls (λl k=>by
  obtain⟨q,g,c,a,j⟩:=k;rw[h]at a;cases a;exact⟨_,g,c,i,j⟩) f I.bare
theorem Inv.call{g':Array GenState}{t':Nat}{d':Drawn}{ch:List Addr}(I:Inv X pins σ H s)(u:Un (VR X.stack) ch H H' s.heap h')(i:Yt X.prog X.w H' h')(v:AllBare g')
  (d:∀b∈ch,(b∈X.ex\/X.s₀.heap.objs.size<=b)/\b≠X.env.locals/\(∀x c,X.env.cells.lookup x=some c->c≠b)/\∀p∈X.pn++pins,p.1≠b) :
  Inv X pins σ H' {s with heap:=h',gens:=g',drawn:=d',toks:=t'}:=by
 obtain⟨m,⟨o,C,D,k,r⟩,_⟩:=id I.loc;obtain⟨A,g⟩:=u.any k I.free λz=>(d _ z).2.1 rfl
 exact I.step (ch:=ch) d (λb o g t a e n=>u.keep b o e n (λz=>(qN.mp (I.stkSub b z)).elim g t) a) (λb o _ _ a e n=>u.any e n a) (λb o a e n=>u.free b o e n a) (λb o a e=>u.there b o e a) u.tups u.frzs u.tbls (λy q=>by
  obtain⟨B,j,h,f,l⟩:=q;rw[k]at f;cases f;exact⟨_,j,h,g,l⟩) i v
theorem Inv.turned{t':Nat}{a:Addr}(I:Inv X pins σ H s)(k:∀b o,b≠a->s.heap.get? b=some o->h'.get? b=some o)(h:H a=none)(g:a≠X.env.locals)
  (h1:a∈X.ex\/X.s₀.heap.objs.size<=a) (h2:∀x c,X.env.cells.lookup x=some c->c≠a) (h3:∀p∈X.pn++pins,p.1≠a):Inv X pins σ H {s with heap:=h',toks:=t'}:=by
 have f:∀b u,H b=some u->b≠a:=λb u e z=>by rw[z,h]at e;cases e
 refine I.step (g':=s.gens) (d':=s.drawn) (ch:=[a]) (λb j=>?_) (λb o _ _ d e _=>k b o (λz=>d (by simp[z])) e) (λb o _ _ d e _=>⟨o.slots,k b o (λz=>d (by simp[z])) e⟩) (λ_ _ _ _ n=>n)
  (λb o d e=>⟨o,k b o (λz=>d (by simp[z])) e⟩) (λ_ _ e=>e) (λ_ _ _ e=>e) (λb y e=>⟨#[],by rw[e];simp⟩) (λm i=>?_) (λb u e=>?_) I.bare
 ·have e:b=a:=by simpa using j
  subst e;exact⟨h1,g,h2,h3⟩
 ·obtain⟨o,t,w,l,r⟩:=i;exact⟨o,t,w,k _ o (Xs g) l,r⟩
 ·refine(I.hok b u e).stay (λc v d q=>k c v ?_ q) (λ_ q=>q) λ_ _ q=>q;rcases d with z|z
  ·rw[z];exact f b u e
  ·exact f c _ z
theorem Inv.tok(I:Inv X pins σ H s)(t:Nat):Inv X pins σ H {s with toks:=t}:=I.un (h':=s.heap) (t':=t) Un.refl I.hok
theorem Inv.kept(I:Inv X pins σ H s)(k:∀b u,s.heap.get? b=some u->h'.get? b=some u):Inv X pins σ H {s with heap:=h',toks:=t'}:=I.un (Un.kept k) (I.hok.kept k)
theorem Inv.laid(I:Inv X pins σ H s)(k:∀b u,s.heap.get? b=some u->h'.get? b=some u)(c:s.heap.objs.size<=a)(new:XE X.prog X.w (upd H a o) h' a o) :
  Inv X pins σ (upd H a o) {s with heap:=h',toks:=t'}:=I.un (Un.laid k c (I.hok.fresh c)) (I.hok.laid k c new)
theorem Inv.write(I:Inv X pins σ H s)(c:Fc (H x))(d:e=x\/H e=some (.own x))(k:∀b u,b≠e->s.heap.get? b=some u->h'.get? b=some u)(a:∃u,h'.get? e=some u)
  (new:XE X.prog X.w (upd H x o) h' x o):Inv X pins σ (upd H x o) {s with heap:=h',toks:=t'}:=I.un (Un.write c d k a) (I.hok.write c d k a new)
theorem Inv.pins_of(I:Inv X pins σ H s)(h:∀p∈pins',s.heap.get? p.1=some p.2/\H p.1=none/\p.1≠X.env.locals/\p.1∉X.fs/\∀v,p.2.data≠.cell v):Inv X pins' σ H s:=
 ⟨I.ok,I.os,I.bare,I.base,I.loc,I.cell,I.free,I.freeC,λp a=>(qk.mp a).elim (λz=>I.pin p (Uw _ z)) (h p),I.hok,I.len⟩
theorem tR{N:List Str}(c:N.Nodup){i j:Nat}{x:Str}(a:N[i]?=some x)(b:N[j]?=some x):i=j:=by
 obtain⟨f,e⟩:=qK.mp a;obtain⟨g,d⟩:=qK.mp b;exact(List.getElem_inj c).mp (e.trans d.symm)
theorem FW{M:Model}{A:Around}{E:Value->Shared->Prop}{i:Nat}{x:Str}{v:V}{u:Value}{Q:Unit->Shared->Prop}(I:Inv X pins σ H s)(hN:X.N.Nodup)(S:X.N[i]?=some x)(B:QN X.env.scope x)(r:ZF v u)
  (h:∀s',Inv X pins (σ.set i (some v)) H s'->(∃a,Heap.SameBut a s.heap s'.heap/\(a=X.env.locals\/X.env.cells.lookup x=some a))->Q () s') (hf:X.fn x=true\/X.env.scope.names.lookup x=some .local:=by assumption):wpAny M A (storeName X.env x u) Q E s:=by
 obtain⟨m,Z,hl⟩:=id I.loc;have T:(X.env.scope.kind==.class||(X.env.scope.kind==.module&&X.env.locals != X.env.globals))=false:=by rw[I.ok.kind];rfl
 have G:i<σ.length:=by rw[I.len];exact(qK.mp S).1
 have cne:=I.cne
 have g:∀{a:Addr}{h':Heap},(∃o,s.heap.get? a=some o/\H a=none)->Heap.SameBut a s.heap h'->Yt X.prog X.w H h':=λ{a h'} ha f b ob e=>by
  obtain⟨_,_,C⟩:=ha;refine(I.hok b ob e).stay (λc Y t q=>(f.2 c ?_).trans q) (λ_ q=>q) λ_ _ q=>q;rintro rfl;rcases t with rfl|t
  ·rw[C]at e;cases e
  ·rw[C]at t;cases t
 rcases B with F|F
 ·refine wpAny_storeName_local F Z (λh' a0 f=>?_) T;obtain⟨oL,_,_,a1,_⟩:=id Z;refine h _ ⟨I.ok,I.os,I.bare,⟨λb o e n J B=>?_,λb o e n J B=>?_,I.base.free,λb o e B=>?_,I.base.tups,I.base.frzs,I.base.tbls⟩,⟨_,a0,λj y v' l D e3=>?_⟩,λy c e=>?_,I.free,I.freeC,λp hp=>?_,g ⟨oL,a1,I.free⟩ f,by simpa using I.len⟩ ⟨_,f,.inl rfl⟩
  ·exact(f.2 b (qt (qi (qJ e) I.ok.above))).trans (I.base.keep b o e n J B)
  ·obtain⟨sl,l⟩:=I.base.slot b o e n J B;exact⟨sl,(f.2 b (qt (qi (qJ e) I.ok.above))).trans l⟩
  ·obtain⟨o',l⟩:=I.base.there b o e B;exact⟨o',(f.2 b (qt (qi (qJ e) I.ok.above))).trans l⟩
  ·by_cases hj:j=i
   ·subst hj;rw[S]at l;cases l;rw[Te G]at D;cases D;exact⟨u,r,.inl ⟨F,by simp⟩⟩
   ·rw[qY (Xs hj)]at D;obtain⟨u',r',q⟩:=hl j y v' l D e3;refine⟨u',r',?_⟩;rcases q with⟨k,e⟩|⟨k,c,e,z⟩
    ·refine .inl ⟨k,?_⟩;have:y≠x:=λe=>hj (tR hN l (e▸S));simp[this,e]
    ·exact .inr ⟨k,c,e,z.sameBut f (cne y c e)⟩
  ·obtain⟨Y,z⟩:=I.cell y c e;exact⟨Y,z.sameBut f (cne y c e)⟩
  ·obtain⟨e,n,W,nf,d⟩:=I.pin p hp;exact⟨(f.2 p.1 W).trans e,n,W,nf,d⟩
 ·have L:X.fn x=true:=by
   rcases hf with z|z
   ·exact z
   ·rw[z]at F;cases F
  obtain⟨c,t⟩:=I.ok.has x (.inl F);obtain⟨Y,z⟩:=I.cell x c t;refine wpAny_storeName_cell I.ok.kind F t z (λh' O f=>?_);obtain⟨oc,P,R⟩:=id z;refine h {s with heap:=h'} ⟨I.ok,I.os,I.bare,⟨λb o e n J B=>?_,λb o e n J B=>?_,I.base.free,λb o e B=>?_,I.base.tups,I.base.frzs,I.base.tbls⟩,⟨m,Z.sameBut f (Xs (cne x c t)),λj y v' l D e3=>?_⟩,λy U e=>?_,I.free,I.freeC,λp hp=>?_,g ⟨oc,P,I.freeC x c t⟩ f,by simpa using I.len⟩ ⟨c,f,.inr t⟩
  ·exact(f.2 b (qt (qi (qJ e) (I.ok.cab x c L t)))).trans (I.base.keep b o e n J B)
  ·obtain⟨sl,l⟩:=I.base.slot b o e n J B;exact⟨sl,(f.2 b (qt (qi (qJ e) (I.ok.cab x c L t)))).trans l⟩
  ·obtain⟨o',l⟩:=I.base.there b o e B;exact⟨o',(f.2 b (qt (qi (qJ e) (I.ok.cab x c L t)))).trans l⟩
  ·by_cases hj:j=i
   ·subst hj;rw[S]at l;cases l;rw[Te G]at D;cases D;exact⟨u,r,.inr ⟨.inl F,c,t,O⟩⟩
   ·rw[qY (Xs hj)]at D;obtain⟨u',r',q⟩:=hl j y v' l D e3;refine⟨u',r',?_⟩;rcases q with q|⟨k,U,e,z'⟩
    ·exact .inl q
    ·refine .inr ⟨k,U,e,z'.sameBut f ?_⟩;rintro rfl;exact hj (tR hN l (I.ok.inj _ _ _ e t▸S))
  ·by_cases hcc:U=c
   ·subst hcc;exact⟨_,O⟩
   ·obtain⟨w2,z2⟩:=I.cell y U e;exact⟨w2,z2.sameBut f hcc⟩
  ·obtain⟨e,n,W,nf,d⟩:=I.pin p hp;refine⟨(f.2 p.1 ?_).trans e,n,W,nf,d⟩;intro q;rw[q,P]at e;have q':oc=p.2:=qZ e;exact d Y (by rw[<- q'];exact R)
theorem wQ{E:Value->Shared->Prop}{Q:Unit->Shared->Prop}(I:Inv X pins σ H s)(b:X.N.Nodup)(d:X.N[i]?=some x)(e:QN X.env.scope x)(r:ZF v u)
  (h:∀s',Inv X pins (σ.set i (some v)) H s'->Q () s') (c:X.fn x=true\/X.env.scope.names.lookup x=some .local:=by assumption):wpAny M A (storeName X.env x u) Q E s:=
 FW I b d e r (λs' a _=>h s' a) c
theorem Inv.call'{s':Shared}(I:Inv X pins σ H s)(i:s'.os=s.os)(u:Un (VR X.stack) k H H' s.heap s'.heap)(d:Yt X.prog X.w H' s'.heap)(l:AllBare s'.gens)
  (a:∀b∈k,(b∈X.ex\/X.s₀.heap.objs.size<=b)/\b≠X.env.locals/\(∀x c,X.env.cells.lookup x=some c->c≠b)/\∀p∈X.pn++pins,p.1≠b):Inv X pins σ H' s':=by
 obtain⟨h',h,g,f,j⟩:=s';have e:j=s.os:=i;subst e;exact I.call (g':=h) (t':=f) (d':=g) u d l a
end
abbrev XK:=Value->Option Addr->Hp->Prop
abbrev St:=List (Option V)
abbrev VK:=V->Hp->Prop
abbrev TE:=St->Hp->VK->Prop
abbrev TT:=St->Hp->(Bool->Hp->Prop)->Prop
abbrev TA:=St->Hp->(List V->Hp->Prop)->Prop
set_option genInjectivity false in
structure XU where
 nx:St->Hp->Prop
 rt:VK
 bk:St->Hp->Prop:=λ_ _=>False
 ct:St->Hp->Prop:=λ_ _=>False
abbrev TS:=XU->St->Hp->Prop
def EP(X:Cx)(a:List (Addr×Obj))(σ:St)(Q:VK)(u:Value)(c:Shared):Prop:=∃v b,Inv X a σ b c/\ZF v u/\Q v b
def TP(X:Cx)(a:List (Addr×Obj))(σ:St)(Q:Bool->Hp->Prop)(b:Bool)(d:Shared):Prop:=∃c,Inv X a σ c d/\Q b c
def AP(X:Cx)(a:List (Addr×Obj))(σ:St)(Q:List V->Hp->Prop)(d:List Value)(c:Shared):Prop:=∃vs b,Inv X a σ b c/\ZJ vs d/\Q vs b
def SP(X:Cx)(b:List (Addr×Obj))(D:XU)(f:Flow)(s':Shared):Prop:=
 match f with
 | .next=>∃a c,Inv X b a c s'/\D.nx a c
 | .brk=>∃a c,Inv X b a c s'/\D.bk a c
 | .cont=>∃a c,Inv X b a c s'/\D.ct a c
 | .ret u=>∃v a c,Inv X b a c s'/\ZF v u/\D.rt v c
def PE(X:Cx)(e:Expr)(t:TE):Prop:=
 ∀(pins:List (Addr×Obj))(s:Shared)(σ:St)(H:Hp)(Q:VK),Inv X pins σ H s->t σ H Q->wpAny (model X.prog X.w) X.A (eval e X.env) (EP X pins σ Q) X.xe s
def PT(X:Cx)(e:Expr)(t:TT):Prop:=
 ∀(a:List (Addr×Obj))(s:Shared)(σ:St)(H:Hp)(Q:Bool->Hp->Prop),Inv X a σ H s->t σ H Q->wpAny (model X.prog X.w) X.A (isTrue e X.env (eval e X.env)) (TP X a σ Q) X.xe s
def PW(X:Cx)(e:Expr)(t:TT):Prop:=
 ∀(b:Sem Value)(a:List (Addr×Obj))(s:Shared)(σ:St)(H:Hp)(Q:Bool->Hp->Prop),Inv X a σ H s->t σ H Q->wpAny (model X.prog X.w) X.A (isTrue e X.env b) (TP X a σ Q) X.xe s
theorem PW.pt(h:PW X e t):PT X e t:=h _
def PA(X:Cx)(c:List Expr)(t:TA):Prop:=
 ∀(b:Pos)(a:List (Addr×Obj))(s:Shared)(σ:St)(H:Hp)(Q:List V->Hp->Prop),Inv X a σ H s->t σ H Q->wpAny (model X.prog X.w) X.A (spliced (backTo b (starEach c X.env))) (AP X a σ Q) X.xe s
def PS(X:Cx)(b:Stmt)(t:TS):Prop:=
 ∀(a:List (Addr×Obj))(s:Shared)(σ:St)(H:Hp)(D:XU),Inv X a σ H s->t D σ H->wpAny (model X.prog X.w) X.A (exec b X.env) (SP X a D) X.xe s
def W2(X:Cx)(b:List Stmt)(t:TS):Prop:=
 ∀(a:List (Addr×Obj))(s:Shared)(σ:St)(H:Hp)(D:XU),Inv X a σ H s->t D σ H->wpAny (model X.prog X.w) X.A (execs b X.env) (SP X a D) X.xe s
theorem thn{Q b:α->Shared->Prop}{E:Value->Shared->Prop}(h:wpAny M A t Q E s)(c:∀a s,Q a s->b a s):wpAny M A t b E s:=TJ h c λ_ _ x=>x
section
variable{X:Cx}
theorem hD(k:PE X a n)(m:PE X b o){R:V->V->Hp->Prop}(I:Inv X c σ H s)(h:n σ H λx j=>o σ j λy d=>R x y d)
  {Q:α->Shared->Prop}{f:Value->Value->Sem α}
  (l:∀v u i x y d,Inv X c σ d i->ZF x v->ZF y u->R x y d->wpAny (model X.prog X.w) X.A (f v u) Q X.xe i) :
  wpAny (model X.prog X.w) X.A (eval a X.env) (λv g=>wpAny (model X.prog X.w) X.A (eval b X.env) (λu e=>wpAny (model X.prog X.w) X.A (f v u) Q X.xe e) X.xe g) X.xe s:=by
 refine thn (k c s σ H _ I h) λv s1 ⟨x,j,I1,r1,q1⟩=>?_;refine thn (m c s1 σ j _ I1 q1) λu i ⟨y,d,I2,r2,q2⟩=>?_;exact l v u i x y d I2 r1 r2 q2
def YR(i:Nat):TE:=λσ H Q=>∃v,σ[i]?=some (some v)/\Q v H
def tC(v:V):TE:=λ_ H Q=>Q v H
theorem Nt(o:X.N[i]?=some x)(n:C9 X.env.scope x)(j:(x==("__debug__":Str))=false:=by decide)(g:(x==("__classdict__":Str))=false:=by decide):PE X (.Name x p) (YR i):=by
 intro f s σ H Q I h;obtain⟨v,e,h⟩:=h;obtain⟨m,q,w⟩:=I.loc;obtain⟨u,r,l⟩:=w i x v o e n;have b:EP X f σ Q u s:=⟨v,H,I,r,h⟩;rcases l with⟨d,t⟩|⟨d,c,k,a⟩
 ·exact wpAny_Name (wpAny_loadName_local I.ok.kind d q t b) j
 ·rcases d with d|d
  ·exact wpAny_Name (wpAny_loadName_cell I.ok.kind d k a b) j
  ·exact wpAny_Name (wpAny_loadName_free I.ok.kind d k a b g) j
theorem Tq{i j a}:PE X (.Constant (.int i) j a) (tC (.int i)):=λ_ _ _ H _ I h=>wpAny_Constant_int ⟨.int i,H,I.tok _,⟨_,rfl⟩,h⟩
theorem BN{b j a}:PE X (.Constant (.bool b) j a) (tC (.bl b)):=λ_ _ _ H _ I h=>Constant_bool ⟨.bl b,H,I,rfl,h⟩
theorem rh{j a}:PE X (.Constant .none j a) (tC .non):=λ_ _ _ H _ I h=>Constant_none ⟨.non,H,I,rfl,h⟩
theorem wZ{x j a}:PE X (.Constant (.str x) j a) (tC (.str x)):=λ_ _ _ H _ I h=>kA ⟨.str x,H,I.tok _,⟨_,rfl⟩,h⟩
def Gl(X:Cx)(x:Str):Prop:=X.env.kindOf x=some .globalImplicit
theorem E9{E:Value->Shared->Prop}{Q:Value->Shared->Prop}(I:Inv X a σ H s)(d:Gl X x)(c:X.mg x=some u)(h:Q u s)
  (e:(x==("__debug__":Str))=false:=by decide):wpAny (model X.prog X.w) X.A (eval (.Name x b) X.env) Q E s:=
 jC I.ok.kind d (Calls.loadGlobal_global (by rw[I.ok.glob];exact I.mod.glob.keeps I.bk) c h) e
theorem L6{E:Value->Shared->Prop}{Q:Value->Shared->Prop}(I:Inv X a σ H s)(i:Gl X x)(e:X.mg x=none)(j:bootBuiltins x=some u)(h:Q u s)
  (d:x≠"__name__":=by decide) (b:(x==("__debug__":Str))=false:=by decide):wpAny (model X.prog X.w) X.A (eval (.Name x c) X.env) Q E s:=by
 obtain⟨k,f,g⟩:=I.mod.blt;exact jC I.ok.kind i (Calls.loadGlobal_builtin (by rw[I.ok.glob];exact I.mod.glob.keeps I.bk) e (by rw[I.ok.blt];exact f.keeps I.bk) ((g x d).trans j) h) b
theorem BL(e:Gl X x)(d:X.mg x=none)(f:bootBuiltins x=some u)(r:ZF v u)(c:x≠"__name__":=by decide)(a:(x==("__debug__":Str))=false:=by decide):PE X (.Name x b) (tC v):=
 λ_ _ _ H _ I h=>L6 I e d f ⟨v,H,I,r,h⟩ c a
variable{a b:Expr}{ta tb:TE}{pos:Pos}
def PC(X:Cx)(f:CmpOp)(a b:Expr)(t:TE):Prop:=
 ∀(c:List (Addr×Obj))(s:Shared)(σ:St)(H:Hp)(Q:VK),Inv X c σ H s->t σ H Q->
  wpAny (model X.prog X.w) X.A (eval a X.env) (λv e=>wpAny (model X.prog X.w) X.A (eval b X.env) (λu d=>wpAny (model X.prog X.w) X.A (compareOp f v u) (EP X c σ Q) X.xe d) X.xe e) X.xe s
def tB(t:TE):TT:=λσ H Q=>t σ H λx d=>∃c,x=.bl c/\Q c d
theorem uL(h:PC X d a b t)(h1:behindInMarks d b=false:=by rfl):PE X (.Compare a [d] [b] pos) t:=λc s σ H Q I e=>wpAny_Compare1 (h c s σ H Q I e) h1
variable{tA tB':TT}{rest:List Expr}
def Pe(t u:TT):TT:=λσ H Q=>t σ H λc d=>if c=true then u σ d Q else Q false d
def ub(t u:TT):TT:=λσ H Q=>t σ H λc d=>if c=true then Q true d else u σ d Q
def PB(t:TT):TT:=λσ H Q=>t σ H λc d=>Q (!c) d
theorem Ac(f:PT X a tA):PW X (.BoolOp .And [a] pos) tA:=by
 intro i d s σ H Q I h;refine isTrue_and (thn (f d s σ H Q I h) λc g e=>?_)
 cases c with
 | true=>exact isTrue_and_nil e
 | false=>exact e
theorem uT(f:PT X a tA):PW X (.BoolOp .Or [a] pos) tA:=by
 intro i d s σ H Q I h;refine isTrue_or (thn (f d s σ H Q I h) λc g e=>?_)
 cases c with
 | false=>exact isTrue_or_nil e
 | true=>exact e
theorem Br(f:PT X a tA)(e:PW X (.BoolOp .And (b::rest) pos) tB'):PW X (.BoolOp .And (a::b::rest) pos) (Pe tA tB'):=by
 intro g d s σ H Q I h;refine isTrue_and (thn (f d s σ H _ I h) λc s1 ⟨H1,I1,q1⟩=>?_)
 cases c with
 | true=>exact e g d s1 σ H1 Q I1 q1
 | false=>exact⟨H1,I1,q1⟩
theorem sO(f:PT X a tA)(e:PW X (.BoolOp .Or (b::rest) pos) tB'):PW X (.BoolOp .Or (a::b::rest) pos) (ub tA tB'):=by
 intro g d s σ H Q I h;refine isTrue_or (thn (f d s σ H _ I h) λc s1 ⟨H1,I1,q1⟩=>?_)
 cases c with
 | true=>exact⟨H1,I1,q1⟩
 | false=>exact e g d s1 σ H1 Q I1 q1
theorem yf(f:PT X a tA):PT X (.UnaryOp .Not a pos) (PB tA):=by
 intro d s σ H Q I h;exact isTrue_not (f d s σ H (λc e=>Q (!c) e) I h)
def Tr(ta tb:TE):TE:=λσ H Q=>ta σ H λx d=>∃c,x=.bl c/\if c=true then tb σ d Q else Q (.bl false) d
theorem xT{e}(h:PE X a t):PE X (.BoolOp e [a] pos) t:=λc s σ H Q I d=>BoolOp_one (h c s σ H Q I d)
theorem re(g:PE X a ta)(f:PE X (.BoolOp .And (b::rest) pos) tb):PE X (.BoolOp .And (a::b::rest) pos) (Tr ta tb):=by
 intro d s σ H Q I h;refine BoolOp_and (thn (g d s σ H _ I h) λv s1 ⟨x,H1,I1,r1,e⟩=>?_);obtain⟨c,rfl,e⟩:=e;cases r1;refine Fs ?_
 cases c with
 | true=>exact f d s1 σ H1 Q I1 e
 | false=>exact⟨.bl false,H1,I1,rfl,e⟩
end
def YK(K:qC)(H:Hp)(a:Addr)(xs:List V):Prop:=
 Rd H a (.lst xs)\/
  ∃(o:Obj)(b:Array Value)(n:Nat),K.lookup a=some o/\o.cls=.type "list"/\o.dict=none/\o.data=.seq b n/\b.size<=qa/\ZJ xs b.toList
def Yh(K:qC)(H:Hp)(a:Addr)(c:List V):Prop:=
 Rd H a (.tup c)\/
  ∃(o:Obj)(b:Array Value)(n:Nat),K.lookup a=some o/\o.cls=.type "tuple"/\o.data=.seq b n/\b.size<=qa/\ZJ c b.toList
def zE:Value->Option V
 | .none=>some .non
 | .bool b=>some (.bl b)
 | .int i _=>some (.int i)
 | .str x _=>some (.str x)
 | .bytes b _=>some (.byt b)
 | .float b _=>some (.flt b)
 | .ref a=>some (.ref a)
 | .type n=>some (.ty n)
 | _=>none
theorem ZF.abs(r:ZF x u):zE u=some x:=by
 cases x with
 | non=>cases r;rfl
 | bl _=>cases r;rfl
 | int _=>obtain⟨t,rfl⟩:=r;rfl
 | str _=>obtain⟨t,rfl⟩:=r;rfl
 | byt _=>obtain⟨t,rfl⟩:=r;rfl
 | flt _=>obtain⟨t,rfl⟩:=r;rfl
 | ref _=>cases r;rfl
 | ty _=>cases r;rfl
theorem ZF.inj(r:ZF x u)(q:ZF y u):x=y:=qZ (r.abs.symm.trans q.abs)
theorem ZJ.inj:∀{b a:List V}{c:List Value},ZJ b c->ZJ a c->b=a
 | _,_,_,.nil,.nil=>rfl
 | _,_,_,.cons r t,.cons r' t'=>by rw[r.inj r',ZJ.inj t t']
section
variable{X:Cx}{pins:List (Addr×Obj)}{σ:St}{H:Hp}{s:Shared}{a:Addr}{xs ys:List V}
theorem YK.of{K:qC}(h:H a=some (.lst xs)):YK K H a xs:=.inl (.inl h)
theorem Yh.of{K:qC}(h:H a=some (.tup xs)):Yh K H a xs:=.inl (.inl h)
theorem Inv.list(I:Inv X pins σ H s)(h:YK X.K H a xs):∃b:List Value,ZJ xs b/\PlainL s.heap a b.toArray/\xs.length<=qa:=by
 rcases h with h|⟨o,b,n,g,d,f,c,i,r⟩
 ·obtain⟨z,b,n,r,e⟩:=h.ok I.hok;exact⟨b,r,⟨_,n,e,rfl,rfl,rfl⟩,z⟩
 ·refine⟨b.toList,r,⟨o,n,I.kIn a o g,d,f,by simpa using c⟩,?_⟩;have e:=r.length;simp only[j7]at e;omega
theorem Inv.tuple(I:Inv X pins σ H s)(h:Yh X.K H a xs):∃b:List Value,ZJ xs b/\IsTup s.heap a b.toArray/\xs.length<=qa:=by
 rcases h with h|⟨o,b,n,f,d,c,g,r⟩
 ·obtain⟨z,b,r,p⟩:=h.ok I.hok;exact⟨b,r,p,z⟩
 ·refine⟨b.toList,r,⟨o,I.kIn a o f,d,n,by simpa using c⟩,?_⟩;have e:=r.length;simp only[j7]at e;omega
theorem Inv.list_inj(I:Inv X pins σ H s)(h:YK X.K H a xs)(j:YK X.K H a ys):xs=ys:=by
 obtain⟨c,r,⟨o,n,e,_,_,d⟩,_⟩:=I.list h;obtain⟨b,i,⟨k,l,g,_,_,f⟩,_⟩:=I.list j;rw[e]at g;cases g;rw[d]at f;injection f with d1 _;have:c=b:=by simpa using congrArg Array.toList d1
 subst this;exact r.inj i
theorem Inv.tuple_inj(I:Inv X pins σ H s)(h:Yh X.K H a xs)(j:Yh X.K H a ys):xs=ys:=by
 obtain⟨c,r,⟨o,e,_,n,d⟩,_⟩:=I.tuple h;obtain⟨b,i,⟨k,g,_,l,f⟩,_⟩:=I.tuple j;rw[e]at g;cases g;rw[d]at f;injection f with d1 _;have:c=b:=by simpa using congrArg Array.toList d1
 subst this;exact r.inj i
end
abbrev Cx.wish(X:Cx)(E:Value->Shared->Prop):Cx:={X with xe:=E}
abbrev Cx.nox(X:Cx):Cx:=X.wish λ_ _=>False
theorem Cx.Ok.wish{X:Cx}(ok:X.Ok)(E:Value->Shared->Prop):(X.wish E).Ok:=
 ⟨ok.mod,ok.kind,ok.glob,ok.blt,ok.above,ok.inj,ok.has,ok.cab,ok.hd,ok.frames,ok.stk,ok.exf,ok.bs,ok.bsz,ok.noex,ok.exfs,ok.funs,ok.frf⟩
theorem Cx.Ok.unwish{X:Cx}{E:Value->Shared->Prop}(ok:(X.wish E).Ok):X.Ok:=
 ⟨ok.mod,ok.kind,ok.glob,ok.blt,ok.above,ok.inj,ok.has,ok.cab,ok.hd,ok.frames,ok.stk,ok.exf,ok.bs,ok.bsz,ok.noex,ok.exfs,ok.funs,ok.frf⟩
section
variable{X:Cx}{pins:List (Addr×Obj)}{σ:St}{H:Hp}{s:Shared}{E:Value->Shared->Prop}
theorem Inv.wish(I:Inv X pins σ H s)(E:Value->Shared->Prop):Inv (X.wish E) pins σ H s:=⟨I.ok.wish E,I.os,I.bare,I.base,I.loc,I.cell,I.free,I.freeC,I.pin,I.hok,I.len⟩
theorem Inv.unwish(I:Inv (X.wish E) pins σ H s):Inv X pins σ H s:=⟨I.ok.unwish,I.os,I.bare,I.base,I.loc,I.cell,I.free,I.freeC,I.pin,I.hok,I.len⟩
theorem SP.unwish(h:SP (X.wish E) pins D f c):SP X pins D f c:=by
 cases f with
 | next=>obtain⟨a,b,I,q⟩:=h;exact⟨a,b,I.unwish,q⟩
 | brk=>obtain⟨a,b,I,q⟩:=h;exact⟨a,b,I.unwish,q⟩
 | cont=>obtain⟨a,b,I,q⟩:=h;exact⟨a,b,I.unwish,q⟩
 | ret u=>obtain⟨v,a,b,I,r,q⟩:=h;exact⟨v,a,b,I.unwish,r,q⟩
theorem W2.nox{a:List Stmt}{t:TS}(h:W2 X.nox a t):W2 X a t:=λpins s σ H D I b=>
 TJ (h pins s σ H D (I.wish _) b) (λ_ _ q=>q.unwish) λ_ _ z=>False.elim z
end
section
variable{X:Cx}{st:Stmt}{rest:List Stmt}{t u:TS}{e:Expr}{te:TE}{pos:Pos}
def U2:TS:=λD σ H=>D.nx σ H
def WE(t u:TS):TS:=λD σ H=>t {D with nx:=u D} σ H
theorem Be:W2 X [] U2:=λ_ _ σ H _ I h=>Kw ⟨σ,H,I,h⟩
theorem K9(h1:PS X st t)(h2:W2 X rest u):W2 X (st::rest) (WE t u):=by
 intro a s σ H D I h;refine px (thn (h1 a s σ H {D with nx:=u D} I h) λf d q=>?_)
 cases f with
 | next=>
  obtain⟨b,g,c,q⟩:=q;exact h2 a d b g D c q
 | ret v=>exact q
 | brk=>exact q
 | cont=>exact q
theorem Mf(h1:PS X st t):W2 X [st] t:=by
 intro a s σ H D I h;refine px (thn (h1 a s σ H D I h) λf b q=>?_)
 cases f with
 | next=>exact Kw q
 | ret v=>exact q
 | brk=>exact q
 | cont=>exact q
theorem Inv.quiet(I:Inv X a σ H s):interactive X.env=false:=by simp[interactive,I.ok.kind]
def XO(te:TE):TS:=λD σ H=>te σ H λ_ a=>D.nx σ a
theorem B1(c:PE X e te)(b:swapsWith e none pos.line X.env=pure false:=by rfl):PS X (.Expr e pos) (XO te):=by
 intro a s σ H D I h;exact wpAny_Expr_any (thn (c a s σ H _ I h) λv s1 ⟨x,H1,I1,r1,q1⟩=>⟨σ,H1,I1,q1⟩) I.quiet b
def WR(te:TE):TS:=λD σ H=>te σ H D.rt
theorem GS(b:PE X e te):PS X (.Return (some e) pos) (WR te):=by
 intro a s σ H D I h;exact wpAny_Return_some (thn (b a s σ H _ I h) λv s1 ⟨x,H1,I1,r1,q1⟩=>⟨x,σ,H1,I1,r1,q1⟩)
def Uo(c:TT)(t u:TS):TS:=λD σ H=>c σ H λb a=>if b=true then t D σ a else u D σ a
theorem Ey(k:PT X c g)(i:W2 X a t)(j:W2 X b u):PS X (.If c a b pos) (Uo g t u):=by
 intro f s σ H D I h;refine wpAny_If (thn (k f s σ H _ I h) λd s1 ⟨H1,I1,q1⟩=>?_)
 cases d with
 | true=>exact i f s1 σ H1 D I1 q1
 | false=>exact j f s1 σ H1 D I1 q1
def TR:TS:=λ_ _ _=>False
theorem By:PS X st TR:=λ_ _ _ _ _ _ h=>h.elim
end
abbrev TG:=V->St->Hp->(St->Hp->Prop)->Prop
abbrev O3:=List V->St->Hp->(St->Hp->Prop)->Prop
def PG(X:Cx)(a:Expr)(t:TG):Prop:=
 ∀(pins:List (Addr×Obj))(s:Shared)(σ:St)(H:Hp)(v:V)(u:Value)(Q:St->Hp->Prop),Inv X pins σ H s->ZF v u->t v σ H Q->
  wpAny (model X.prog X.w) X.A (assign a X.env u) (λ_ d=>∃b c,Inv X pins b c d/\Q b c) X.xe s
def Pt(X:Cx)(e:List Expr)(t:O3):Prop:=
 ∀(a:List (Addr×Obj))(s:Shared)(σ:St)(H:Hp)(vs:List V)(c:List Value)(Q:St->Hp->Prop),Inv X a σ H s->ZJ vs c->t vs σ H Q->
  wpAny (model X.prog X.w) X.A (assignInOrder ((assignEach e X.env).map (·.2)) c) (λ_ f=>∃b d,Inv X a b d f/\Q b d) X.xe s
abbrev IE:=V->V->V->Hp->(Hp->Prop)->Prop
def EW(X:Cx)(t:IE):Prop:=
 ∀(a:List (Addr×Obj))(s:Shared)(σ:St)(H:Hp)(o i v:V)(b c u:Value)(Q:Hp->Prop),Inv X a σ H s->ZF o b->ZF i c->ZF v u->t o i v H Q->
  wpAny (model X.prog X.w) X.A (setItem b c u) (λ_ e=>∃d,Inv X a σ d e/\Q d) X.xe s
section
variable{X:Cx}{pos:Pos}
def Y6(i:Nat):TG:=λv σ H Q=>Q (σ.set i (some v)) H
theorem Mc(c:X.N.Nodup)(d:X.N[i]?=some x)(e:QN X.env.scope x)(hf:X.fn x=true\/X.env.scope.names.lookup x=some .local:=by assumption):PG X (.Name x pos) (Y6 i):=by
 intro a s σ H v u Q I r h;exact wpAny_assign_Name (wQ I c d e r (λf b=>⟨_,H,b,h⟩) hf)
def SW:O3:=λvs σ H Q=>vs=[]/\Q σ H
def W3(t:TG)(u:O3):O3:=λvs σ H Q=>∃v r,vs=v::r/\t v σ H λa b=>u r a b Q
theorem tj:Pt X [] SW:=by
 intro a s σ H vs b Q I r h;obtain⟨e,h⟩:=h;subst e;cases r;exact assignInOrder_nil ⟨σ,H,I,h⟩
theorem uA(h1:PG X e t)(h2:Pt X b u)
  (f:(assignEach (e::b) X.env).map (·.2)=assign e X.env::(assignEach b X.env).map (·.2):=by rfl):Pt X (e::b) (W3 t u):=by
 intro a s σ H vs i Q I r h;obtain⟨v,g,d,h⟩:=h;subst d
 cases r with
 | cons r c=>
  rw[f];refine assignInOrder_cons (thn (h1 a s σ H _ _ _ I r h) λ_ s1 ⟨σ1,H1,I1,q1⟩=>?_);exact h2 a s1 σ1 H1 _ _ Q I1 c q1
def T4(K:qC)(n:Nat)(t:O3):TG:=λv σ H Q=>∃a b,v=.ref a/\Yh K H a b/\b.length=n/\t b σ H Q
theorem sV(w:X.calm=true)(h:Pt X f t)
  (m:(assignEach f X.env).length=n:=by rfl) (d:(assignEach f X.env).findIdx? (·.1)=none:=by rfl):PG X (.Tuple f k pos) (T4 X.K n t):=by
 intro c s σ H v u Q I r g;obtain⟨a,j,p,y,x,g⟩:=g;subst p;cases r;obtain⟨l,i,q,C⟩:=I.tuple y;refine assign_Tuple_tuple (I.ok.hd w) q (by simp[m,<- x,i.length]) d λz A=>?_;have B:Inv X c σ H {s with heap:=z}:=I.kept (t':=s.toks) λb o e=>A b o (qt (qJ e)) e;exact h c _ σ H j _ Q B (by simpa using i) g
def Lz(d e:TE)(t:IE):TG:=λv σ H Q=>d σ H λo b=>e σ b λi a=>t o i v a λc=>Q σ c
theorem xA(j:PE X o f)(g:PE X i k)(e:EW X t)
  (d:∀v,assign (.Subscript o i pos) X.env v=(do
   let b <- holding [v] (eval o X.env)
   let c <- holding [v,b] (eval i X.env)
   standAt pos
   holding [v,b,c] (setItem b c v)
   release [v,b,c] []):=by intro _;rfl):PG X (.Subscript o i pos) (Lz f k t):=by
 intro a s σ H v u Q I r h;rw[d];refine qF (Mp (thn (j a s σ H _ I h) λb s1 ⟨x,H1,I1,r1,q1⟩=>?_));refine qF (Mp (thn (g a s1 σ H1 _ I1 q1) λc s2 ⟨y,H2,I2,r2,q2⟩=>?_));refine qF (N5 (qF (Mp (thn (e a s2 σ H2 x y v b c u _ I2 r1 r2 r q2) λ_ s3 ⟨H3,I3,q3⟩=>?_))));exact wpAny_release ⟨σ,H3,I3,q3⟩
def Xy(b:TE)(g:TG):TS:=λD σ H=>b σ H λx a=>g x σ a D.nx
theorem FS(f:PE X e c)(i:PG X b g)(d:swapsWithSole [b] e pos.line X.env=pure false:=by rfl)(hw:swappedStores [b] e X.env=pure none:=by rfl)
  (h1:(assignEach [b] X.env).map (·.2)=[assign b X.env]:=by rfl):PS X (.Assign [b] e pos) (Xy c g):=by
 intro a s σ H D I h;refine wpAny_Assign_stores (thn (f a s σ H _ I h) λv s1 ⟨x,H1,I1,r1,q1⟩=>?_) d hw;rw[h1];exact thn (i a s1 σ H1 x v _ I1 r1 q1) λ_ j q=>q
theorem QC(d:X.N.Nodup)(k:X.N[i]?=some x)(l:QN X.env.scope x)(j:PE X e f)(g:swapsWith e (some (.Name x b)) pos.line X.env=pure false:=by rfl)(hf:X.fn x=true\/X.env.scope.names.lookup x=some .local:=by assumption) :
  PS X (.Assign [.Name x b] e pos) (Xy f (Y6 i)):=by
 intro a s σ H D I h;refine wpAny_Assign_Name (thn (j a s σ H _ I h) λv s1 ⟨y,H1,I1,r1,q1⟩=>?_) g;exact wQ I1 d k l r1 (λm c=>⟨_,H1,c,q1⟩) hf
end
section
variable{X:Cx}{pos:Pos}
def Vt(c:TT)(g:TS):TS:=λD σ H=>∃W:Nat->St->Hp->Prop,(∃m,W m σ H)/\∀m σ H,W m σ H->
 c σ H λb d=>if b=true then ∃N:St->Hp->Prop,(∀a f,N a f->∃e,e<m/\W e a f)/\g {D with nx:=N,ct:=N,bk:=D.nx} σ d else D.nx σ d
theorem wK(y:PassesOwn (model X.prog X.w) X.A X.env X.xe)(F:PT X c C)(G:W2 X i B):PS X (.While c i [] pos) (Vt C B):=by
 intro a s σ H D I h;obtain⟨W,⟨J,O⟩,k⟩:=h;refine wpAny_While (codeAny_whileLoop (λn M=>∃j x,Inv X a j x M/\W n j x) ?_ J ⟨σ,H,I,O⟩);rintro n E ⟨e,z,P,L⟩;refine MZ y (thn (F a E e z _ P (k n e z L)) λb s2 ⟨H2,I2,l⟩=>?_)
 cases b with
 | true=>
  obtain⟨N,u,l⟩:=l;rw[if_pos rfl];refine MZ y (thn (G a s2 e H2 _ I2 l) λf Q m=>?_)
  cases f with
  | next=>
   obtain⟨d,g,r,t⟩:=m;obtain⟨p,q,o⟩:=u d g t;exact⟨p,q,d,g,r,o⟩
  | cont=>
   obtain⟨d,g,r,t⟩:=m;obtain⟨p,q,o⟩:=u d g t;exact⟨p,q,d,g,r,o⟩
  | brk=>exact m
  | ret v=>exact m
 | false=>
  rw[if_neg qQ];exact Kw ⟨e,H2,I2,l⟩
end
set_option genInjectivity false in
structure It where
 go:Nat->Hp->Prop
 yld:Nat->Hp->V->Hp->Prop
 stop:Nat->Hp->Prop
def Xt(X:Cx)(pins:List (Addr×Obj))(H:Hp)(b:Addr):Prop:=
 H b=none/\b≠X.env.locals/\b∉X.fs/\(b∈X.ex\/X.s₀.heap.objs.size<=b)/\(∀x c,X.env.cells.lookup x=some c->c≠b)/\∀p∈X.pn++pins,p.1≠b
theorem Inv.fpOk{s:Shared}(I:Inv X pins σ H s)(a:s.heap.objs.size<=b)(g:d b=none):Xt X pins d b:=by
 refine⟨g,O0 (qi I.lt a),I.nofs a,.inr (WT I.sz a),λx c e z=>?_,λp f z=>?_⟩
 ·obtain⟨v,q⟩:=I.cell x c e;exact absurd (qi q.lt (by rw[z];exact a)) (Ph _)
 ·exact absurd (qi (qJ (I.pin p f).1) (by rw[z];exact a)) (Ph _)
set_option genInjectivity false in
structure VC(P:Program)(w:World)(K:qC)(tg:Expr)(J:It)(fp:List Addr)(it:Addr)(tn:Nat->Heap->Prop):Prop where
 mem:it∈fp
 obj:∀i h,tn i h->∀b∈fp,∃o,h.get? b=some o/\∀v,o.data≠.cell v
 keep:∀i h h',tn i h->(∀b∈fp,∀o,h.get? b=some o->h'.get? b=some o)->tn i h'
 item:∀(X:Cx),X.prog=P->X.w=w->X.K=K->X.calm=true->∀(i:Nat)(pins:List (Addr×Obj))(s:Shared)(σ:St)(H:Hp)(E:Value->Shared->Prop),Inv X pins σ H s->(∀b∈fp,Xt X pins H b)->tn i s.heap->J.go i H->
  wpAny (model P w) X.A (pyNext (.ref it)) (λr s1=>∃u,r=some u/\
   wpAny (model P w) X.A (letOwnedTupleGo tg (.ref it) u) (λ_ s2=>∃x H',Inv X pins σ H' s2/\ZF x u/\J.yld i H x H'/\tn (i+1) s2.heap/\∀b∈fp,H' b=none) E s1) E s
 done:∀(X:Cx),X.prog=P->X.w=w->X.K=K->X.calm=true->∀(i:Nat)(pins:List (Addr×Obj))(s:Shared)(σ:St)(H:Hp)(E:Value->Shared->Prop),Inv X pins σ H s->(∀b∈fp,Xt X pins H b)->tn i s.heap->J.stop i H->
  wpAny (model P w) X.A (pyNext (.ref it)) (λr s1=>r=none/\Inv X pins σ H s1) E s
 self:∀(A:Around)(i:Nat)(s:Shared)(Q:Value->Shared->Prop)(E:Value->Shared->Prop),tn i s.heap->Q (.ref it) s->wpAny (model P w) A (pyIter (.ref it)) Q E s
abbrev TI:=St->Hp->(It->Hp->Prop)->Prop
def k8(X:Cx)(a:List (Addr×Obj))(σ:St)(i:Expr)(R:It->Hp->Prop)(c:Value)(e:Shared):Prop:=
 ∃(f:Addr)(g:List Addr)(h:Nat->Heap->Prop)(J:It)(d:Hp),c=.ref f/\Inv X a σ d e/\VC X.prog X.w X.K i J g f h/\h 0 e.heap/\(∀b∈g,Xt X a d b)/\R J d
def PI(X:Cx)(c iter:Expr)(b:TI):Prop:=
 ∀(pins:List (Addr×Obj))(s:Shared)(σ:St)(H:Hp)(R:It->Hp->Prop),Inv X pins σ H s->b σ H R->
  wpAny (model X.prog X.w) X.A (eval iter X.env) (λv a=>wpAny (model X.prog X.w) X.A (pyIter v) (k8 X pins σ c R) X.xe a) X.xe s
theorem Mn{E:Value->Shared->Prop}{s:Shared}{o:Obj}{Q:Unit->Shared->Prop}(d:s.heap.get? f=some o)(e:o.cls=.type n)(g:o.data=.fields vs)
  (c:["enumerate","zip","dict_itemiterator","dict_reverseitemiterator","odict_iterator","itertools.zip_longest","itertools.pairwise"].contains n=false) (a:Q () s):wpAny M A (letOwnedTupleGo b (.ref f) u) Q E s:=by
 unfold letOwnedTupleGo
 cases b<;>first
  | exact qV a
  | (cases u<;>first
    | exact qV a
    | (refine qF (wpAny_load d ?_)
       rw[e,g];show wpAny M A (if(["enumerate","zip","dict_itemiterator","dict_reverseitemiterator","odict_iterator","itertools.zip_longest","itertools.pairwise"].contains n&&vs[0]?==some (rawInt _))=true then _ else _) Q E s;rw[if_neg (by intro h;rw[c,Bool.false_and]at h;cases h)];exact qV a))
def Nx(K:qC)(a:Addr):It:=
 ⟨λi H=>∃b x,YK K H a b/\b[i]?=some x,λi H x c=>c=H/\∀b,YK K H a b->b[i]?=some x,λi H=>∃b,YK K H a b/\b.length<=i⟩
def yd(K:qC)(a:Addr):It:=
 ⟨λi H=>∃b x,Yh K H a b/\b[i]?=some x,λi H x c=>c=H/\∀b,Yh K H a b->b[i]?=some x,λi H=>∃b,Yh K H a b/\b.length<=i⟩
def NA(b:Int)(n:Nat):It:=⟨λi _=>i<n,λi H x a=>a=H/\x=.int (b+i),λi _=>n<=i⟩
theorem F8{P:Program}{w:World}{K:qC}{Y:Expr}(a j:Addr):VC P w K Y (Nx K a) [j] j (λi h=>h.IsListIter j a i) where
 mem:=by simp
 obj:=λi h f b l=>by
  have e:b=j:=by simpa using l
  subst e;obtain⟨o,e,c,d⟩:=f;exact⟨o,e,λv z=>by rw[d]at z;cases z⟩
 keep:=λi h r f k=>f.at λo e=>k j (by simp) o e
 item:=by
  intro X M C A O i g s σ H E I n f J;subst M C A;obtain⟨U,x,q,B⟩:=J;obtain⟨y,t,p,Q⟩:=I.list q;obtain⟨u,R,W⟩:=t.get B;obtain⟨L,F,S,N,D,G⟩:=n j (by simp);refine wpAny_pyNext_list_item f p.isList (x:=u) (by simpa using R) λr m sb=>?_;have I1:Inv X g σ H {s with heap:=r}:=I.turned (t':=s.toks) (λb o l e=>(sb.2 b l).trans e) L F N D G;obtain⟨o,e,c,d⟩:=id m;exact⟨u,rfl,Mn (s:={s with heap:=r}) e c d (by decide) ⟨x,H,I1,W,⟨rfl,λys T=>by rw[I.list_inj T q];exact B⟩,m,λb l=>(n b l).1⟩⟩
 done:=by
  intro X M C A O i g s σ H E I n f J;subst M C A;obtain⟨U,q,B⟩:=J;obtain⟨y,t,p,Q⟩:=I.list q;obtain⟨L,F,S,N,D,G⟩:=n j (by simp);have hl:=t.length;exact wpAny_pyNext_list_end (I.ok.hd O) f p.isList (by simp;omega) λr Z=>⟨rfl,I.turned (t':=s.toks) (λb o l e=>Z b o l e) L F N D G⟩
 self:=λ_ _ _ _ _ f h=>wpAny_pyIter_listiter f h
theorem zz{P:Program}{w:World}{K:qC}{Y:Expr}(a l:Addr):VC P w K Y (yd K a) [l] l (λi h=>h.IsTupleIter l a i) where
 mem:=by simp
 obj:=λi h f b m=>by
  have e:b=l:=by simpa using m
  subst e;obtain⟨o,e,c,d⟩:=f;exact⟨o,e,λv z=>by rw[d]at z;cases z⟩
 keep:=λi h t f k=>f.at λo e=>k l (by simp) o e
 item:=by
  intro X M C A O i g s σ H E I q f J;subst M C A;obtain⟨U,x,r,B⟩:=J;obtain⟨j,y,p,Q⟩:=I.tuple r;obtain⟨u,R,W⟩:=y.get B;obtain⟨L,F,S,N,D,G⟩:=q l (by simp)
  refine wpAny_pyNext_tuple_item f (show s.heap.IsTuple a j.toArray from p) (x:=u) (by simpa using R) λt n sb=>?_;have I1:Inv X g σ H {s with heap:=t}:=I.turned (t':=s.toks) (λb o m e=>(sb.2 b m).trans e) L F N D G;obtain⟨o,e,c,d⟩:=id n;exact⟨u,rfl,Mn (s:={s with heap:=t}) e c d (by decide) ⟨x,H,I1,W,⟨rfl,λys T=>by rw[I.tuple_inj T r];exact B⟩,n,λb m=>(q b m).1⟩⟩
 done:=by
  intro X M C A O i g s σ H E I q f J;subst M C A;obtain⟨U,r,B⟩:=J;obtain⟨j,y,p,Q⟩:=I.tuple r;obtain⟨L,F,S,N,D,G⟩:=q l (by simp);have hl:=y.length
  exact wpAny_pyNext_tuple_end (I.ok.hd O) f (show s.heap.IsTuple a j.toArray from p) (by simp;omega) λt Z=>⟨rfl,I.turned (t':=s.toks) (λb o m e=>Z b o m e) L F N D G⟩
 self:=λ_ _ _ _ _ f h=>wpAny_pyIter_tupleiter f h
theorem xf{P:Program}{w:World}{K:qC}{L:Expr}(c:Addr)(m:Int)(n:Nat):VC P w K L (NA m n) [c] c (λi h=>IsRangeIter h c (m+(i:Nat) * 1) ((n:Int) - (i:Nat)) 1) where
 mem:=by simp
 obj:=λi h a b f=>by
  have e:b=c:=by simpa using f
  subst e
  exact⟨_,a,λv z=>by
   have G:Data.fields _=Data.cell v:=z;cases G⟩
 keep:=λi h l a k=>k c (by simp) _ a
 item:=by
  intro X C q p u i d s σ H E I j a A;subst C q p;obtain⟨B,x,J,D,r,y⟩:=j c (by simp);have W:=Walks.range (prog:=X.prog) (w:=X.w) (I.ok.hd u) c m 1 n;refine W.item i s _ _ A a λv l F Q g N=>?_;obtain⟨t,rfl⟩:=Q;have O:Inv X d σ H {s with heap:=l,toks:=F}:=I.turned (λb o f e=>N b o (by simpa using f) e) B x D r y;refine⟨_,rfl,Mn (s:={s with heap:=l,toks:=F}) (n:="range_iterator") g rfl rfl (by decide) ⟨.int (m+i),H,O,⟨t,?_⟩,⟨rfl,rfl⟩,g,λb f=>(j b f).1⟩⟩;rw[Int.mul_one]
 done:=by
  intro X C q p u i d s σ H E I j a A;subst C q p;obtain⟨B,x,J,D,r,y⟩:=j c (by simp);exact wpAny_pyNext_range_end (I.ok.hd u) a (by have:n<=i:=A;omega) λl M=>⟨rfl,I.turned (t':=s.toks) (λb o f e=>M b o f e) B x D r y⟩
 self:=λ_ _ _ _ _ a h=>wpAny_pyIter_rangeiter a h
section
variable{X:Cx}{tg:Expr}
def ES(K:qC)(c:TE):TI:=λσ H R=>c σ H λx b=>∃a,x=.ref a/\(∃d,YK K b a d)/\R (Nx K a) b
theorem Bf{l:Expr}{d:TE}(i:PE X l d):PI X tg l (ES X.K d):=by
 intro c s σ H R I h;refine thn (i c s σ H _ I h) λv s1 ⟨x,H1,I1,r1,q1⟩=>?_;obtain⟨a,e,⟨k,j⟩,q⟩:=q1;subst e;cases r1;obtain⟨f,m,p,n⟩:=I1.list j;refine Qf p.isList ?_;refine⟨s1.heap.objs.size,[s1.heap.objs.size],_,_,H1,rfl,I1.kept (t':=s1.toks) λb o e=>qE _ e,F8 a _,⟨_,qd _ rfl,rfl,rfl⟩,λb g=>?_,q⟩;have e:b=s1.heap.objs.size:=by simpa using g
 subst e;exact I1.fpOk (qM _) (I1.hok.fresh (qM _))
theorem uP{d:List (Addr×Obj)}{σ:St}{H:Hp}{s:Shared}{R:It->Hp->Prop}{E:Value->Shared->Prop}{a c:Int}{t u v:Tok}{f:Nat}(I:Inv X d σ H s)(h1:-(2 ^ 62)<=a)(h2:a<2 ^ 62)(h3:-(2 ^ 62)<=c)(h4:c<2 ^ 62)
  (q:R (NA a (c - a).toNat) H):wpAny (model X.prog X.w) X.A (pyIter (.ref s.heap.objs.size)) (k8 X d σ tg R) E {s with heap:=s.heap.push {cls:=.type "range",data:=.fields #[.int a t,.int c u,.int 1 v]},toks:=f}:=by
 refine wpAny_pyIter_range (IsRange.new ..) (small_one h1 h2 h3 h4) ?_;have g:Inv X d σ H {s with heap:=s.heap.push {cls:=.type "range",data:=.fields #[.int a t,.int c u,.int 1 v]},toks:=f}:=I.kept λb o e=>qE _ e
 refine⟨(s.heap.push {cls:=.type "range",data:=.fields #[.int a t,.int c u,.int 1 v]}).objs.size,[(s.heap.push {cls:=.type "range",data:=.fields #[.int a t,.int c u,.int 1 v]}).objs.size],_,_,H,rfl,
  g.kept (t':=f) λb o e=>qE _ e,xf _ a (c - a).toNat,?_,λb j=>?_,q⟩
 ·have i:a+((0:Nat):Int) * 1=a:=by simp
  have h:(((c - a).toNat:Nat):Int) - ((0:Nat):Int)=Builtin.Range.rangeSize a c 1:=by rw[rangeSize_one];split<;>omega
  show IsRangeIter _ _ (a+((0:Nat):Int) * 1) ((((c - a).toNat:Nat):Int) - ((0:Nat):Int)) 1;rw[i,h];exact qd _ rfl
 ·have e:b=(s.heap.push {cls:=.type "range",data:=.fields #[.int a t,.int c u,.int 1 v]}).objs.size:=by simpa using j
  subst e;exact g.fpOk (qM _) (g.hok.fresh (qM _))
def S9(a:TA):TI:=λσ H R=>a σ H λvs b=>∃j:Int,vs=[.int j]/\-(2 ^ 62)<=j/\j<2 ^ 62/\R (NA 0 j.toNat) b
theorem Ip{a:Expr}{f:TA}{p b:Pos}(m:Gl X "range")(k:X.mg "range"=none)(i:PA X [a] f)(l:starEach [a] X.env=[(false,eval a X.env)]:=by rfl):PI X tg (.Call (.Name "range" p) [a] [] b) (S9 f):=by
 intro c s σ H R I h;refine Call_ (L6 I m k boot_range (uk (thn (i b c s σ H _ I h) λus s1 ⟨vs,H1,I1,r1,d⟩=>?_) l rfl));obtain⟨j,e,d,n,q⟩:=d;subst e
 cases r1 with
 | cons r g=>
  cases g;obtain⟨t,rfl⟩:=r;exact call_range_1 (uP I1 (by omega) (by omega) d n (by simpa using q))
def RI(h:TI)(g:TG)(j:TS):TS:=λD σ H=>h σ H λJ f=>∃W:Nat->Nat->St->Hp->Prop,(∃m,W 0 m σ f)/\∀i m σ H,W i m σ H->
 (J.stop i H/\D.nx σ H)\/(J.go i H/\∃N:St->Hp->Prop,(∀a b,N a b->∃d,d<m/\W (i+1) d a b)/\∀x b,J.yld i H x b->g x σ b λc e=>j {D with nx:=N,ct:=N,bk:=D.nx} c e)
def Ry(a:List Addr)(h:Heap):List (Addr×Obj):=a.filterMap λb=>(h.get? b).map λo=>(b,o)
theorem Dw{h:Heap}(a:b∈c)(e:h.get? b=some o):(b,o)∈Ry c h:=Fy.mpr ⟨b,a,by rw[e];rfl⟩
theorem xQ{h:Heap}{p:Addr×Obj}(d:p∈Ry a h):p.1∈a/\h.get? p.1=some p.2:=by
 obtain⟨b,c,e⟩:=Fy.mp d
 cases q:h.get? b with
 | none=>rw[q]at e;cases e
 | some o=>
  rw[q]at e;have f:(b,o)=p:=qZ e;subst f;exact⟨c,q⟩
theorem Inv.pinned{s:Shared}(I:Inv X a σ H s)(h:∀b∈g,Xt X a H b)(k:∀b∈g,∃o,s.heap.get? b=some o/\∀v,o.data≠.cell v):Inv X (a++Ry g s.heap) σ H s:=
 I.pins_of λp i=>(qk.mp i).elim (λz=>I.pin p (qf _ z)) λz=>by
  obtain⟨c,e⟩:=xQ z;obtain⟨m,l,j,_⟩:=h p.1 c;obtain⟨o,f,d⟩:=k p.1 c;rw[e]at f;cases f;exact⟨e,m,l,j,d⟩
theorem Inv.unpinned(I:Inv X (a++c) σ H s):Inv X a σ H s:=I.pins_of λp b=>I.pin p (qf _ (Uw _ b))
theorem Mg(E:PassesOwn (model X.prog X.w) X.A X.env X.xe)(Z:X.calm=true)(hi:PI X tg iter wi)(hg:PG X tg g)(p:W2 X C tb)
  (hs:∀x,foldedSetIterable iter X.env x=pure x:=by intro _;rfl):PS X (.For tg iter C [] a1) (RI wi g tb):=by
 intro a s σ H D I h;refine wpAny_For (thn (hi a s σ H _ I h) λv s1 h1=>thn h1 λa0 s2 h2=>?_) hs;obtain⟨it,L,Y,J,H2,e,I2,T,Q,U,W,⟨m0,w0⟩,F⟩:=h2;subst e;have t:∀{y:Hp},(∀b∈L,y b=none)->∀b∈L,Xt X a y b:=λhn b p=>⟨hn b p,(U b p).2⟩;refine codeAny_forLoop_any (λn s'=>∃i k y,Inv X a k y s'/\Y i s'.heap/\(∀b∈L,y b=none)/\W i n k y) ?_ m0 ⟨0,σ,H2,I2,Q,λb p=>(U b p).1,w0⟩;rintro n s3 ⟨i,q,P,I3,O,M,w3⟩;rcases F i n q P w3 with⟨B,qn⟩|⟨go,N,hN,step⟩
 ·refine MZ E (thn (T.done X rfl rfl rfl Z i a s3 q P X.xe I3 (t M) O B) λr s4 ⟨hr,I4⟩=>?_);subst hr;exact Kw ⟨q,P,I4,qn⟩
 ·refine MZ E (thn (T.item X rfl rfl rfl Z i a s3 q P X.xe I3 (t M) O go) λr s4 ⟨u,hr,h4⟩=>?_);subst hr;refine MZ E (thn h4 λ_ s5 ⟨x,H5,I5,r5,y5,st5,fr5⟩=>?_);have R:=I5.pinned (t fr5) (T.obj _ _ st5);refine MZ E (thn (hg _ s5 q H5 x u _ R r5 (step x H5 y5)) λ_ s6 ⟨σ6,H6,I6,q6⟩=>?_);refine MZ E (thn (p _ s6 σ6 H6 _ I6 q6) λf S z=>?_)
  have again:∀{c:St}{l:Hp},Inv X (a++Ry L s5.heap) c l S->N c l->∃m,m<n/\∃i k y,Inv X a k y S/\Y i S.heap/\(∀b∈L,y b=none)/\W i m k y:=λ{c l} j G=>by
   obtain⟨m',hm,w7⟩:=hN c l G;refine⟨m',hm,i+1,c,l,j.unpinned,T.keep _ _ _ st5 λb p o e=>(j.pin (b,o) (qf _ (qf _ (Dw p e)))).1,λb p=>?_,w7⟩;obtain⟨o,e,d⟩:=T.obj _ _ st5 b p;exact(j.pin (b,o) (qf _ (qf _ (Dw p e)))).2.1
  cases f with
  | next=>obtain⟨c,l,j,G⟩:=z;exact again j G
  | cont=>obtain⟨c,l,j,G⟩:=z;exact again j G
  | brk=>obtain⟨c,l,j,z⟩:=z;exact⟨c,l,j.unpinned,z⟩
  | ret v=>obtain⟨x7,c,l,j,r7,z⟩:=z;exact⟨x7,c,l,j.unpinned,r7,z⟩
end
theorem for_list{K:qC}{a:Addr}{xs:List V}{g:TG}{k:TS}{D:XU}{σ:St}{H:Hp}(b:Nat->St->Hp->Prop)(s:b 0 σ H)(r:∀i σ H,i<=xs.length->b i σ H->YK K H a xs)
  (n:∀i x σ H,xs[i]?=some x->b i σ H->g x σ H λd h=>k {D with nx:=b (i+1),ct:=b (i+1),bk:=D.nx} d h) (v:∀σ H,b xs.length σ H->D.nx σ H) :
  ∃W:Nat->Nat->St->Hp->Prop,(∃m,W 0 m σ H)/\∀i m σ H,W i m σ H->
   ((Nx K a).stop i H/\D.nx σ H)\/((Nx K a).go i H/\∃N:St->Hp->Prop,(∀c f,N c f->∃j,j<m/\W (i+1) j c f)/\∀x f,(Nx K a).yld i H x f->g x σ f λd h=>k {D with nx:=N,ct:=N,bk:=D.nx} d h):=by
 refine⟨λi m σ H=>m=xs.length - i/\i<=xs.length/\b i σ H,⟨xs.length,by simp,V5 _,s⟩,?_⟩;rintro i m σ H ⟨rfl,o,p⟩;have q:=r i σ H o p;by_cases hlt:i<xs.length
 ·refine .inr ⟨⟨xs,xs[i],q,by simp[hlt]⟩,b (i+1),λc f t=>⟨xs.length - (i+1),by omega,rfl,hlt,t⟩,λx f y=>?_⟩;obtain⟨e,y⟩:=y;subst e;exact n i x σ _ (y xs q) p
 ·have e:i=xs.length:=by omega
  subst e;exact .inl ⟨⟨xs,q,qM _⟩,v σ H p⟩
theorem S2{f:Int}{n:Nat}{g:TG}{k:TS}{D:XU}{σ:St}{H:Hp}(b:Nat->St->Hp->Prop)(q:b 0 σ H)
  (o:∀i σ H,i<n->b i σ H->g (.int (f+i)) σ H λc h=>k {D with nx:=b (i+1),ct:=b (i+1),bk:=D.nx} c h) (t:∀σ H,b n σ H->D.nx σ H) :
  ∃W:Nat->Nat->St->Hp->Prop,(∃m,W 0 m σ H)/\∀i m σ H,W i m σ H->
   ((NA f n).stop i H/\D.nx σ H)\/((NA f n).go i H/\∃N:St->Hp->Prop,(∀a d,N a d->∃j,j<m/\W (i+1) j a d)/\∀x d,(NA f n).yld i H x d->g x σ d λc h=>k {D with nx:=N,ct:=N,bk:=D.nx} c h):=by
 refine⟨λi m σ H=>m=n - i/\i<=n/\b i σ H,⟨n,by simp,V5 _,q⟩,?_⟩;rintro i m σ H ⟨rfl,u,p⟩;by_cases hlt:i<n
 ·refine .inr ⟨hlt,b (i+1),λa d r=>⟨n - (i+1),by omega,rfl,hlt,r⟩,λx d y=>?_⟩;obtain⟨e,y⟩:=y;subst e y;exact o i σ _ hlt p
 ·have e:i=n:=by omega
  subst e;exact .inl ⟨qM _,t σ H p⟩
abbrev R2:=V->V->Hp->VK->Prop
def X2(X:Cx)(f:Value->Value->Sem Value)(r:R2):Prop:=
 ∀(a:List (Addr×Obj))(s:Shared)(σ:St)(H:Hp)(x y:V)(v u:Value)(Q:VK),Inv X a σ H s->ZF x v->ZF y u->r x y H Q->
  wpAny (model X.prog X.w) X.A (f v u) (EP X a σ Q) X.xe s
def DE(X:Cx)(f:Value->Sem Value)(r:V->Hp->VK->Prop):Prop:=
 ∀(a:List (Addr×Obj))(s:Shared)(σ:St)(H:Hp)(x:V)(v:Value)(Q:VK),Inv X a σ H s->ZF x v->r x H Q->
  wpAny (model X.prog X.w) X.A (f v) (EP X a σ Q) X.xe s
def YQ(X:Cx)(f:Value)(r:List V->Hp->VK->Prop):Prop:=
 ∀(a:List (Addr×Obj))(s:Shared)(σ:St)(H:Hp)(b:List V)(c:List Value)(Q:VK),Inv X a σ H s->ZJ b c->r b H Q->
  wpAny (model X.prog X.w) X.A (call f c) (EP X a σ Q) X.xe s
def uN(X:Cx)(r:V->Hp->(Bool->Hp->Prop)->Prop):Prop:=
 ∀(a:List (Addr×Obj))(s:Shared)(σ:St)(H:Hp)(x:V)(v:Value)(Q:Bool->Hp->Prop),Inv X a σ H s->ZF x v->r x H Q->
  wpAny (model X.prog X.w) X.A (truthy v) (TP X a σ Q) X.xe s
def Ul(r:R2)(a c:TE):TE:=λσ H Q=>a σ H λx d=>c σ d λy b=>r x y b Q
def DF(r:V->Hp->VK->Prop)(a:TE):TE:=λσ H Q=>a σ H λx b=>r x b Q
def rI(C:Int->Int->Prop)(g:Int->Int->V):R2:=λx y H Q=>∃i j,x=.int i/\y=.int j/\C i j/\Q (g i j) H
def SR(g:Int->Int->V):R2:=λx y H Q=>∃i j,x=.int i/\y=.int j/\Q (g i j) H
def rU(g:Int->V):V->Hp->VK->Prop:=λx H Q=>∃i,x=.int i/\Q (g i) H
section
variable{X:Cx}{a b c:Expr}{ta tb tc:TE}{pos:Pos}
theorem NQ(l:PE X a ta)(n:PE X b tb){R:V->V->Hp->Prop}(I:Inv X d σ H s)
  (h:ta σ H λx k=>tb σ k λy e=>R x y e){Q:Value->Shared->Prop}{f:Value->Value->Sem Value}
  (m:∀v u j x y e,Inv X d σ e j->ZF x v->ZF y u->R x y e->wpAny (model X.prog X.w) X.A (f v u) Q X.xe j) :
  wpAny (model X.prog X.w) X.A (eval a X.env) (λv i=>wpAny (model X.prog X.w) X.A (eval b X.env) (λu g=>wpAny (model X.prog X.w) X.A (f v u) Q X.xe g) X.xe i) X.xe s:=by
 refine thn (l d s σ H _ I h) λv s1 ⟨x,k,I1,r1,q1⟩=>?_;refine thn (n d s1 σ k _ I1 q1) λu j ⟨y,e,I2,r2,q2⟩=>?_;exact m v u j x y e I2 r1 r2 q2
theorem Uu(k:X2 X (binaryOp l) r)(g:PE X a ta)(i:PE X b tb):PE X (.BinOp a l b pos) (Ul r ta tb):=by
 intro d s σ H Q I h;exact wpAny_BinOp (NQ g i I h λv u j x y f e n m q=>k d j σ f x y v u Q e n m q)
theorem Bn{r:V->Hp->VK->Prop}(f:DE X (unaryOp e) r)(g:PE X a ta):PE X (.UnaryOp e a pos) (DF r ta):=by
 intro d s σ H Q I h;exact UnaryOp_ (thn (g d s σ H _ I h) λv s1 ⟨x,H1,I1,r1,q1⟩=>f d s1 σ H1 x v Q I1 r1 q1)
theorem Dr{f:Value->Value->Sem Value}{C:Int->Int->Prop}{g:Int->Int->Int}
  (d:∀(i j:Int)(t u:Tok)(s:Shared)(Q:Value->Shared->Prop)(E:Value->Shared->Prop),C i j->Q (.int (g i j) s.toks) {s with toks:=s.toks+1}->wpAny (model X.prog X.w) X.A (f (.int i t) (.int j u)) Q E s) :
  X2 X f (rI C λi j=>.int (g i j)):=by
 intro e s σ H x y v u Q I n m h;obtain⟨i,j,rfl,rfl,l,q⟩:=h;obtain⟨t,rfl⟩:=n;obtain⟨k,rfl⟩:=m;exact d i j t k s _ _ l ⟨.int (g i j),H,I.tok _,⟨_,rfl⟩,q⟩
theorem Ik{f:Value->Value->Sem Value}{g:Int->Int->Int}
  (d:∀(i j:Int)(t u:Tok)(s:Shared)(Q:Value->Shared->Prop)(E:Value->Shared->Prop),Q (.int (g i j) s.toks) {s with toks:=s.toks+1}->wpAny (model X.prog X.w) X.A (f (.int i t) (.int j u)) Q E s) :
  X2 X f (SR λi j=>.int (g i j)):=by
 intro e s σ H x y v u Q I m l h;obtain⟨i,j,rfl,rfl,q⟩:=h;obtain⟨t,rfl⟩:=m;obtain⟨k,rfl⟩:=l;exact d i j t k s _ _ ⟨.int (g i j),H,I.tok _,⟨_,rfl⟩,q⟩
theorem MH{f:Value->Value->Sem Value}{g:Int->Int->Bool}
  (d:∀(i j:Int) (t u:Tok) (s:Shared) (Q:Value->Shared->Prop) (E:Value->Shared->Prop),Q (.bool (g i j)) s->wpAny (model X.prog X.w) X.A (f (.int i t) (.int j u)) Q E s) :
  X2 X f (SR λi j=>.bl (g i j)):=by
 intro e s σ H x y v u Q I m l h;obtain⟨i,j,rfl,rfl,q⟩:=h;obtain⟨t,rfl⟩:=m;obtain⟨k,rfl⟩:=l;exact d i j t k s _ _ ⟨.bl (g i j),H,I,rfl,q⟩
def MR(i j:Int):Prop:=0<j/\j<1073741824
def nR(i j:Int):Prop:=0<=j/\j<=1000000/\i.natAbs<2 ^ 64
def OK(i j:Int):Prop:=(-(2 ^ 64)<i/\i<2 ^ 64)\/(-(2 ^ 64)<j/\j<2 ^ 64)
theorem OK.ok(h:OK i j):IntMulOk i j:=by
 rcases h with⟨e,d⟩|⟨e,d⟩
 ·exact .of_left (intBits_le_64 e d)
 ·exact .of_right (intBits_le_64 e d)
theorem wN:X2 X (binaryOp .Add) (SR λi j=>.int (i+j)):=Ik λ_ _ _ _ _ _ _ q=>add_int q
theorem MN:X2 X (binaryOp .Sub) (SR λi j=>.int (i - j)):=Ik λ_ _ _ _ _ _ _ q=>sub_int q
theorem wV:X2 X (binaryOp .Mult) (rI OK λi j=>.int (i * j)):=Dr λ_ _ _ _ _ _ _ d q=>mul_int q d.ok
theorem UT:X2 X (binaryOp .FloorDiv) (rI MR λi j=>.int (i / j)):=Dr λi j _ _ _ _ _ d q=>by
 have f:(0:Int)<j:=d.1;have e:j<1073741824:=d.2;exact floordiv_int (by omega) (by rw[Int.fdiv_eq_ediv_of_nonneg i (by omega)];exact q) (.inl (PyProof.noPylong_small (by omega)))
theorem Xm:X2 X (binaryOp .Mod) (rI (λ_ j=>0<j) λi j=>.int (i % j)):=Dr λi j _ _ _ _ _ d q=>by
 have e:(0:Int)<j:=d;exact mod_int' (by omega) (by rw[Int.fmod_eq_emod_of_nonneg i (by omega)];exact q)
theorem Jv:X2 X (binaryOp .Pow) (rI nR λi j=>.int (i ^ j.toNat)):=Dr λ_ _ _ _ _ _ _ d q=>pow_int_small d.1 d.2.1 d.2.2 q
theorem iC{f:Value->Sem Value}{g:Int->Int}
  (d:∀(i:Int)(t:Tok)(s:Shared)(Q:Value->Shared->Prop)(E:Value->Shared->Prop),Q (.int (g i) s.toks) {s with toks:=s.toks+1}->wpAny (model X.prog X.w) X.A (f (.int i t)) Q E s) :
  DE X f (rU λi=>.int (g i)):=by
 intro e s σ H x v Q I j h;obtain⟨i,rfl,q⟩:=h;obtain⟨t,rfl⟩:=j;exact d i t s _ _ ⟨.int (g i),H,I.tok _,⟨_,rfl⟩,q⟩
theorem G5:DE X (unaryOp .USub) (rU λi=>.int (-i)):=iC λ_ _ _ _ _ q=>neg_int q
end
def MX:V->V->Bool
 | .non,.non=>true|.non,.int _=>true|.int _,.non=>true|.non,.bl _=>true|.bl _,.non=>true|.non,.str _=>true|.str _,.non=>true
 | .int _,.int _=>true|.bl _,.bl _=>true|.str _,.str _=>true|.byt _,.byt _=>true
 | .int _,.str _=>true|.str _,.int _=>true|.bl _,.str _=>true|.str _,.bl _=>true
 | _,_=>false
def CJ:R2:=λx y H Q=>MX x y=true/\Q (.bl (decide (x=y))) H
def CD:R2:=λx y H Q=>MX x y=true/\Q (.bl (!decide (x=y))) H
theorem L8:decide (V.int i=V.int j)=(i==j):=by
 rw[TH];simp
theorem NI:decide (V.bl i=V.bl j)=(i==j):=by
 rw[TH];simp
theorem NU:decide (V.str i=V.str j)=(i==j):=by
 rw[TH];simp
theorem EM{i j:Array UInt8}:decide (V.byt i=V.byt j)=(i.toList==j.toList):=by
 rw[TH];cases i;cases j;simp
section
variable{X:Cx}{a b c:Expr}{ta tb tc:TE}{pos:Pos}
theorem Xa(I:Inv X d σ H s)(q:Q (.bl k) H)(e:k=f):EP X d σ Q (.bool f) s:=by
 subst e;exact⟨.bl k,H,I,rfl,q⟩
theorem wU:X2 X (compareOp .Eq) CJ:=by
 intro k s σ H x y v u Q I g d h;obtain⟨f,q⟩:=h
 cases x with
 | non=>
  cases g
  cases y with
  | non=>cases d;exact EqNone.eq_none_none (Xa I q (by simp))
  | bl j=>cases d;exact EqNone.eq_none_bool (Xa I q (by simp))
  | int j=>obtain⟨e,rfl⟩:=d;exact EqNone.eq_none_int (Xa I q (by simp))
  | str j=>obtain⟨e,rfl⟩:=d;exact EqNone.eq_none_str (Xa I q (by simp))
  | _=>exact absurd (show false=true from f) qQ
 | bl i=>
  cases g
  cases y with
  | non=>cases d;exact EqNone.eq_bool_none (Xa I q (by simp))
  | bl j=>cases d;exact eq_bool (Xa I q NI)
  | str j=>obtain⟨e,rfl⟩:=d;exact EqMixed.eq_bool_str (Xa I q (by simp))
  | _=>exact absurd (show false=true from f) qQ
 | int i=>
  obtain⟨t,rfl⟩:=g
  cases y with
  | non=>cases d;exact EqNone.eq_int_none (Xa I q (by simp))
  | int j=>obtain⟨e,rfl⟩:=d;exact eq_int (Xa I q L8)
  | str j=>obtain⟨e,rfl⟩:=d;exact EqMixed.eq_int_str (Xa I q (by simp))
  | _=>exact absurd (show false=true from f) qQ
 | str i=>
  obtain⟨t,rfl⟩:=g
  cases y with
  | non=>cases d;exact EqNone.eq_str_none (Xa I q (by simp))
  | bl j=>cases d;exact EqMixed.eq_str_bool (Xa I q (by simp))
  | int j=>obtain⟨e,rfl⟩:=d;exact EqMixed.eq_str_int (Xa I q (by simp))
  | str j=>obtain⟨e,rfl⟩:=d;exact eq_str (Xa I q NU)
  | _=>exact absurd (show false=true from f) qQ
 | byt i=>
  obtain⟨t,rfl⟩:=g
  cases y with
  | byt j=>obtain⟨e,rfl⟩:=d;exact PySem.W.eq_bytes (Xa I q EM)
  | _=>exact absurd (show false=true from f) qQ
 | _=>cases y<;>exact absurd (show false=true from f) qQ
theorem pe:X2 X (compareOp .NotEq) CD:=by
 intro k s σ H x y v u Q I g d h;obtain⟨f,q⟩:=h
 cases x with
 | non=>
  cases g
  cases y with
  | non=>cases d;exact EqNone.ne_none_none (Xa I q (by simp))
  | bl j=>cases d;exact EqNone.ne_none_bool (Xa I q (by simp))
  | int j=>obtain⟨e,rfl⟩:=d;exact EqNone.ne_none_int (Xa I q (by simp))
  | str j=>obtain⟨e,rfl⟩:=d;exact EqNone.ne_none_str (Xa I q (by simp))
  | _=>exact absurd (show false=true from f) qQ
 | bl i=>
  cases g
  cases y with
  | non=>cases d;exact EqNone.ne_bool_none (Xa I q (by simp))
  | bl j=>cases d;exact ne_bool (Xa I q (congrArg not NI))
  | str j=>obtain⟨e,rfl⟩:=d;exact EqMixed.ne_bool_str (Xa I q (by simp))
  | _=>exact absurd (show false=true from f) qQ
 | int i=>
  obtain⟨t,rfl⟩:=g
  cases y with
  | non=>cases d;exact EqNone.ne_int_none (Xa I q (by simp))
  | int j=>obtain⟨e,rfl⟩:=d;exact ne_int (Xa I q (congrArg not L8))
  | str j=>obtain⟨e,rfl⟩:=d;exact EqMixed.ne_int_str (Xa I q (by simp))
  | _=>exact absurd (show false=true from f) qQ
 | str i=>
  obtain⟨t,rfl⟩:=g
  cases y with
  | non=>cases d;exact EqNone.ne_str_none (Xa I q (by simp))
  | bl j=>cases d;exact EqMixed.ne_str_bool (Xa I q (by simp))
  | int j=>obtain⟨e,rfl⟩:=d;exact EqMixed.ne_str_int (Xa I q (by simp))
  | str j=>obtain⟨e,rfl⟩:=d;exact ne_str (Xa I q (congrArg not NU))
  | _=>exact absurd (show false=true from f) qQ
 | byt i=>
  obtain⟨t,rfl⟩:=g
  cases y with
  | byt j=>obtain⟨e,rfl⟩:=d;exact PySem.W.ne_bytes (Xa I q (congrArg not EM))
  | _=>exact absurd (show false=true from f) qQ
 | _=>cases y<;>exact absurd (show false=true from f) qQ
theorem Bg:X2 X (compareOp .Lt) (SR λi j=>.bl (decide (i<j))):=MH λ_ _ _ _ _ _ _ q=>lt_int q
theorem tE:X2 X (compareOp .LtE) (SR λi j=>.bl (decide (i<=j))):=MH λ_ _ _ _ _ _ _ q=>le_int q
theorem PK:X2 X (compareOp .Gt) (SR λi j=>.bl (decide (j<i))):=MH λ_ _ _ _ _ _ _ q=>gt_int q
theorem X2.or{f:Value->Value->Sem Value}(h:X2 X f r)(j:X2 X f i):X2 X f (λx y H Q=>r x y H Q\/i x y H Q):=by
 intro d s σ H x y v u Q I g e q;rcases q with q|q
 ·exact h d s σ H x y v u Q I g e q
 ·exact j d s σ H x y v u Q I g e q
theorem WN(b:Expr)(h:d≠.In:=by decide)(h2:d≠.NotIn:=by decide):behindInMarks d b=false:=by
 have f:(d==CmpOp.In)=false:=by cases d<;>first|rfl|exact absurd rfl h
 have e:(d==CmpOp.NotIn)=false:=by cases d<;>first|rfl|exact absurd rfl h2
 cases b<;>simp[behindInMarks,f,e]
theorem rA(m:X2 X (compareOp e) r)(i:PE X a ta)(k:PE X b tb)(j:behindInMarks e b=false):PE X (.Compare a [e] [b] pos) (Ul r ta tb):=by
 intro d s σ H Q I h;exact wpAny_Compare1 (NQ i k I h λv u l x y g f o n q=>m d l σ g x y v u Q f o n q) j
def UN(t:TE):TT:=λσ H Q=>t σ H λx d=>∃k,x=.bl k/\Q k d
theorem Hc(l:X2 X (compareOp f) r)(g:PE X a ta)(j:PE X b tb)(i:behindInMarks f b=false):PT X (.Compare a [f] [b] pos) (UN (Ul r ta tb)):=by
 intro d s σ H Q I h
 refine wpAny_isTrue_Compare1 (thn (g d s σ H _ I h) λv s1 ⟨x,H1,I1,r1,q1⟩=>thn (j d s1 σ H1 _ I1 q1) λu s2 ⟨y,H2,I2,r2,q2⟩=>
  thn (l d s2 σ H2 x y v u _ I2 r1 r2 q2) λc s3 ⟨z,H3,I3,r3,k,e,q3⟩=>?_) i
 subst e;cases r3;exact Fs ⟨H3,I3,q3⟩
def T6(K:qC)(x:V)(H:Hp)(k:Bool):Prop:=
 match x with
 | .non=>k=false
 | .bl b=>k=b
 | .int i=>k=(i != 0)
 | .str y=>y.length<=qa/\k=((y.length:Int) != 0)
 | .byt y=>y.size<=qa/\k=((y.size:Int) != 0)
 | .ref p=>(∃d,YK K H p d/\k=!d.isEmpty)\/(∃d,Yh K H p d/\k=!d.isEmpty)\/∃e,H p=some (.dK e)/\k=!e.isEmpty
 | _=>False
theorem xa{d:List (κ×V)}{vs:List (κ×Value)}(r:KV d vs):(!vs.isEmpty)=!d.isEmpty:=by
 cases r<;>rfl
theorem la{e:List V}{d:List Value}(r:ZJ e d):(!d.toArray.isEmpty)=!e.isEmpty:=by
 cases r<;>simp
theorem Lc:(qa:Nat)<2 ^ 63:=by rw[QP];decide
theorem yH:uN X (λx H Q=>∃k,T6 X.K x H k/\Q k H):=by
 intro z s σ H x v Q I l h;obtain⟨k,e,q⟩:=h;have C:=Lc;have B:qa=16777216:=QP
 cases x with
 | non=>
  cases l;have d:k=false:=e;subst d;exact truthy_none ⟨H,I,q⟩
 | bl b=>
  cases l;have d:k=b:=e;subst d;exact Fs ⟨H,I,q⟩
 | int i=>
  obtain⟨t,rfl⟩:=l;have d:k=(i != 0):=e;subst d;exact PySem.P.truthy_int ⟨H,I,q⟩
 | str y=>
  obtain⟨t,rfl⟩:=l;obtain⟨hy,d⟩:y.length<=qa/\k=((y.length:Int) != 0):=e;subst d;exact PySem.P.truthy_str (by omega) ⟨H,I.tok _,q⟩
 | byt y=>
  obtain⟨t,rfl⟩:=l;obtain⟨hy,d⟩:y.size<=qa/\k=((y.size:Int) != 0):=e;subst d;exact PySem.W.truthy_bytes (by omega) ⟨H,I.tok _,q⟩
 | ref p=>
  cases l;have d:(∃j,YK X.K H p j/\k=!j.isEmpty)\/(∃j,Yh X.K H p j/\k=!j.isEmpty)\/∃f,H p=some (.dK f)/\k=!f.isEmpty:=e;rcases d with⟨j,n,d⟩|⟨j,n,d⟩|⟨f,n,d⟩
  ·subst d;obtain⟨o,r,u,A⟩:=I.list n;have g:=r.length;exact wpAny_truthy_list u.isList (by simp only[qO];omega) ⟨H,I.tok _,by rw[la r];exact q⟩
  ·subst d;obtain⟨o,r,u,A⟩:=I.tuple n;have g:=r.length;exact truthy_tuple u (by simp only[qO];omega) ⟨H,I.tok _,by rw[la r];exact q⟩
  ·subst d;obtain⟨A,hS,vs,r,m⟩:f.length<=qa/\(p==sysModules)=false/\∃vs,KV f vs/\s.heap.DictOf (Wv X.prog X.w) p vs:=I.hok p _ n;have g:f.length=vs.length:=Dh r;exact wpAny_truthy_dict hS m (by omega) ⟨H,I.tok _,by rw[xa r];exact q⟩
 | _=>exact(show False from e).elim
theorem zm(g:PE X a ta)(i:∀d,isTrue a X.env d=(do let v <- d;standAt a.pos;holding [v] (truthy v))) :
  PT X a (λσ H Q=>ta σ H λx f=>∃k,T6 X.K x f k/\Q k f):=by
 intro e s σ H Q I h;exact isTrue_plain (thn (g e s σ H _ I h) λv s1 ⟨x,H1,I1,r1,q1⟩=>yH e s1 σ H1 x v Q I1 r1 q1) (i _)
theorem uK:X2 X (binaryOp .Add) (λx y H Q=>∃i j,x=.str i/\y=.str j/\i.length+j.length<=qa/\Q (.str (i++j)) H):=by
 intro d s σ H x y v u Q I k g h;obtain⟨i,j,rfl,rfl,e,q⟩:=h;obtain⟨t,rfl⟩:=k;obtain⟨f,rfl⟩:=g;exact add_str (λf l=>⟨.str (i++j),H,I.tok _,⟨_,rfl⟩,q⟩) e
theorem U3(r:ZJ [x] f):∃u,f=[u]/\ZF x u:=by
 cases r with
 | cons e d=>cases d;exact⟨_,rfl,e⟩
theorem UL(r:ZJ [x,y] g):∃u d,g=[u,d]/\ZF x u/\ZF y d:=by
 cases r with
 | cons i h=>
  cases h with
  | cons f e=>cases e;exact⟨_,_,rfl,i,f⟩
theorem vS(f:X.calm=true):YQ X (.builtin "min") (λd H Q=>∃i j,d=[.int i,.int j]/\Q (.int (if j<i then j else i)) H):=by
 intro e s σ H d m Q I r h;obtain⟨i,j,rfl,q⟩:=h;obtain⟨u,o,rfl,⟨t,rfl⟩,⟨g,rfl⟩⟩:=UL r;refine min_two_ints (I.ok.hd f) λn l k=>⟨_,H,I.kept k,?_,q⟩;by_cases hj:j<i
 ·rw[if_pos hj,if_pos hj];exact⟨_,rfl⟩
 ·rw[if_neg hj,if_neg hj];exact⟨_,rfl⟩
def Qe(K:qC)(x:V)(H:Hp)(n:Nat):Prop:=
 match x with
 | .str y=>y.length<=qa/\n=y.length
 | .byt y=>y.size<=qa/\n=y.size
 | .ref p=>(∃d,YK K H p d/\n=d.length)\/∃d,Yh K H p d/\n=d.length
 | _=>False
theorem vZ:YQ X (.builtin "len") (λd H Q=>∃x n,d=[x]/\Qe X.K x H n/\Q (.int n) H):=by
 intro o s σ H d z Q I r h;obtain⟨x,n,rfl,e,q⟩:=h;obtain⟨u,rfl,l⟩:=U3 r;have A:=Lc;have w:qa=16777216:=QP
 cases x with
 | str y=>
  obtain⟨t,rfl⟩:=l;obtain⟨hy,g⟩:y.length<=qa/\n=y.length:=e;subst g;exact len_str (by omega) ⟨.int _,H,I.tok _,⟨_,rfl⟩,q⟩
 | byt y=>
  obtain⟨t,rfl⟩:=l;obtain⟨hy,g⟩:y.size<=qa/\n=y.size:=e;subst g;exact PySem.W.len_bytes (by omega) ⟨.int _,H,I.tok _,⟨_,rfl⟩,q⟩
 | ref p=>
  cases l;have g:(∃d,YK X.K H p d/\n=d.length)\/∃d,Yh X.K H p d/\n=d.length:=e;rcases g with⟨d,k,g⟩|⟨d,k,g⟩
  ·subst g;obtain⟨i,j,m,v⟩:=I.list k;have f:=j.length;exact Calls.call_len_list m.isList (by simp only[qO];omega) ⟨.int d.length,H,I.tok _,⟨_,by simp only[qO];rw[f]⟩,q⟩
  ·subst g;obtain⟨i,j,m,v⟩:=I.tuple k;have f:=j.length;exact len_tuple m (by simp only[qO];omega) ⟨.int d.length,H,I.tok _,⟨_,by simp only[qO];rw[f]⟩,q⟩
 | _=>exact(show False from e).elim
end
set_option genInjectivity false in
structure LB(h:Heap)(x dx C:Addr)(mA:Str->Option Value):Prop where
 obj:h.get? x=some (instObj C dx)
 ns:h.Ns1 dx mA
 ne:dx≠x
theorem AR{h:Heap}{f:Str->Option Value}(n:h.Ns1 dx f):∃d,h.get? dx=some d/\∀b,lookIn b d=some (f b):=by
 obtain⟨o,g,r,l,i,p,_,k⟩:=n;refine⟨o,l,λb=>?_⟩;have e:=k b;unfold nsFind findBy at e;rw[<- Array.find?_toList]at e;unfold lookIn;rw[i];dsimp only;split
 ·rename_i y q;rw[q]at e;exact congrArg some e
 ·rename_i q;rw[q]at e
  have a:g.toList.any (·.refKey)=false:=by
   rw[List.any_eq_false];intro y m;obtain⟨z,t,c⟩:=p y (jw.mp m);simp[DictEntry.refKey,c]
  have j:¬g.toList.any (·.refKey)=true:=by rw[a];exact qQ
  rw[if_neg j];exact congrArg some e
theorem LB.look{c:Str->Option Value}(I:LB h x dx C c):∃b,PySem.W.InstAt h x (instObj C dx) C (some b)/\∀a,lookIn a b=some (c a):=
 let⟨b,ho,hl⟩:=AR I.ns
 ⟨b,⟨I.obj,rfl,rfl,ho⟩,hl⟩
theorem WC.some_of(r:WC (some v) o):∃u,o=some u/\ZF v u:=by
 cases o with
 | none=>exact(show False from r).elim
 | some u=>exact⟨u,rfl,r⟩
theorem sN(r:ZF v u):PySem.W.handedIn u=true:=by
 cases v with
 | non=>cases(show u=Value.none from r);rfl
 | bl b=>cases(show u=Value.bool b from r);rfl
 | int i=>obtain⟨t,e⟩:=(show ∃t,u=Value.int i t from r);cases e;rfl
 | str x=>obtain⟨t,e⟩:=(show ∃t,u=Value.str x t from r);cases e;rfl
 | byt b=>obtain⟨t,e⟩:=(show ∃t,u=Value.bytes b t from r);cases e;rfl
 | flt b=>obtain⟨t,e⟩:=(show ∃t,u=Value.float b t from r);cases e;rfl
 | ref a=>cases(show u=Value.ref a from r);rfl
 | ty n=>cases(show u=Value.type n from r);rfl
section
variable{P:Program}{w:World}{H H':Hp}{h h':Heap}{a C dx:Addr}{fs fs':List (Str×V)}
theorem nY(c:Yt P w H h)(e:H a=some (.ins C dx fs)):∃b,LB h a dx C b/\(∀f,WC (fs.lookup f) (b f))/\PySem.Within b (fs.map (·.1))/\fs.length<=1000/\H dx=some (.own a):=by
 obtain⟨d,z,g,i,b,n,r,q⟩:=(show XE P w H h a (.ins C dx fs)from c a _ e);exact⟨b,⟨i,n,g⟩,r,q,z,d⟩
end
set_option genInjectivity false in
structure Bh(K:qC)(C:Addr):Prop where
 pg:plainGet K C Str.empty=true
 hd:PySem.W.hasDictIn K C=true
 po:PySem.W.plainOver K C=true
 sa:findIn K (.ref C) "__setattr__"=some (some (.builtin "object.__setattr__"))
theorem Bh.get{K:qC}{C:Addr}(c:Bh K C)(f:Str):plainGet K C f=true:=c.pg
set_option genInjectivity false in
set_option genInjectivity false in
section
variable{X:Cx}{pins:List (Addr×Obj)}{σ:St}{H:Hp}{s:Shared}{a C dx:Addr}{fs:List (Str×V)}{f:Str}{v:V}{A:Around}{E:Value->Shared->Prop}
theorem pd{Q:Value->Shared->Prop}(i:attributeBase e f b (eval e b)=eval e b)
  (h:wpAny (model c w) A (eval e b) (λo d=>wpAny (model c w) A (getAttr o f true) Q E d) E s):wpAny (model c w) A (eval (.Attribute e f g) b) Q E s:=
 Attribute_any_ h (by rw[arm_eval_Attribute,i])
end
section
variable{X:Cx}{pins:List (Addr×Obj)}{σ:St}{H:Hp}{s:Shared}{A:Around}{E:Value->Shared->Prop}{Q:Value->Shared->Prop}{c:Value}{b:Bool}
inductive Xo(K:qC)(H:Hp):V->Value->Prop where
 | non:Xo K H .non (.type "NoneType")
 | bl (x:Bool):Xo K H (.bl x) (.type "bool")
 | int (i:Int):Xo K H (.int i) (.type "int")
 | str (x:Str):Xo K H (.str x) (.type "str")
 | flt (x:UInt64):Xo K H (.flt x) (.type "float")
 | lst {a:Addr} {xs:List V} (e:H a=some (.lst xs)):Xo K H (.ref a) (.type "list")
 | frz {a:Addr} {o:Obj} {xs:List V} (e:H a=some (.frz o (.lst xs))):Xo K H (.ref a) (.type "list")
 | tup {a:Addr} {xs:List V} (e:H a=some (.tup xs)):Xo K H (.ref a) (.type "tuple")
 | dK {a:Addr} {kvs:List (Y7×V)} (e:H a=some (.dK kvs)):Xo K H (.ref a) (.type "dict")
 | dT {a:Addr} {kvs:List (List Y7×V)} (e:H a=some (.dT kvs)):Xo K H (.ref a) (.type "dict")
 | ins {a C dx:Addr} {fs:List (Str×V)} (e:H a=some (.ins C dx fs)) (cl:Bh K C) (ha:findIn K (.ref C) "__class__"=some (some (.builtin "object.__class__")))
   (hn:PySem.W.specialIn K (.builtin "object.__class__") "__get__"=some (some (.builtin "getset_descriptor.__get__")))(htk:PySem.W.takesIn K (.builtin "object.__class__")=some true)
   (hm:PySem.W.mroIn K C (.type "object")=some true):Xo K H (.ref a) (.ref C)
theorem pP (I:Inv X pins σ H s) (f:ZF x u) (F:Xo X.K H x t) (e:kitOne X.K t c=some b) (h:∀L,Q (.bool b) {s with toks:=L}) :
  wpAny (model X.prog X.w) A (call (.builtin "isinstance") [u,c]) Q E s:=by
 cases F with
 | non=>cases(show u=Value.none from f);exact Sz PySem.W.kitx_none I.kIn True.intro e (λz=>nomatch z) h
 | bl y=>cases(show u=Value.bool y from f);exact Sz PySem.W.kitx_bool I.kIn True.intro e (λz=>nomatch z) h
 | int i=>obtain⟨t,q⟩:=(show ∃t,u=Value.int i t from f);cases q;exact Sz PySem.W.kitx_int I.kIn True.intro e (λz=>nomatch z) h
 | str y=>obtain⟨t,q⟩:=(show ∃t,u=Value.str y t from f);cases q;exact Sz PySem.W.kitx_str I.kIn True.intro e (λz=>nomatch z) h
 | flt y=>obtain⟨t,q⟩:=(show ∃t,u=Value.float y t from f);cases q;exact Sz PySem.W.kitx_float I.kIn True.intro e (λz=>nomatch z) h
 | @lst a k d=>
  cases(show u=Value.ref a from f)
  obtain⟨_,_,n,_,g⟩:=(show XE X.prog X.w H s.heap a (.lst k)from I.hok a _ d);exact Sz lP I.kIn ⟨_,g,rfl⟩ e (λz=>nomatch z) h
 | @frz a D k d=>
  cases(show u=Value.ref a from f)
  obtain⟨_,_,_,n,_,g⟩:=(show XE X.prog X.w H s.heap a (.frz D (.lst k))from I.hok a _ d);exact Sz lP I.kIn ⟨_,g,rfl⟩ e (λz=>nomatch z) h
 | @tup a k d=>
  cases(show u=Value.ref a from f)
  obtain⟨_,_,_,p⟩:=(show XE X.prog X.w H s.heap a (.tup k)from I.hok a _ d);obtain⟨o,g,l,_⟩:=p;exact Sz PySem.W.kitx_tuple I.kIn ⟨o,g,l⟩ e (λz=>nomatch z) h
 | @dK a j d=>
  cases(show u=Value.ref a from f)
  obtain⟨_,_,vs,_,p⟩:=(show XE X.prog X.w H s.heap a (.dK j)from I.hok a _ d);obtain⟨o,M,N,g,l,_⟩:=p;exact Sz lB I.kIn ⟨o,g,l.1⟩ e (λz=>nomatch z) h
 | @dT a j d=>
  cases(show u=Value.ref a from f)
  obtain⟨_,_,k,_,o,M,N,g,l,_⟩:=(show XE X.prog X.w H s.heap a (.dT j)from I.hok a _ d);exact Sz lB I.kIn ⟨o,g,l.1⟩ e (λz=>nomatch z) h
 | @ins a C dx fs d r v B m G=>
  cases(show u=Value.ref a from f);obtain⟨R,O,_⟩:=nY I.hok d;obtain⟨P,J,_⟩:=O.look;exact Sz (PySem.W.kitx_own (r.get _) r.hd v B m G) I.kIn J e (λz=>nomatch z) h
end
set_option genInjectivity false in
structure Y5(k:Nat)(A:Around):Prop where
 hd:A.handled=none
 dp:A.depth+3 * k+5<recursionLimit
 un:A.units+16 * k+200<cLine
 gd:A.guards=some []
theorem Y5.mono(r:Y5 k A)(h:j<=k):Y5 j A:=⟨r.hd,by have:=r.dp;omega,by have:=r.un;omega,r.gd⟩
theorem Y5.deeper{A:Around}(r:Y5 (k+1) A)(a:Env):Y5 k (A.deeper a):=
 ⟨r.hd,by have:=r.dp;show A.depth+1+3 * k+5<_;omega,by have:=r.un;show A.units+3+16 * k+200<_;omega,r.gd⟩
theorem yx{A:Around}:(A.under (.builtin "type.__call__" ⟨.ref C::b,a⟩)).depth=A.depth+1:=by
 first|rfl|simp[Around.under,Code.weight,Code.isCreation,Code.isGuard,Code.isCaller,Code.frames,Code.isFrame,guardIds]
theorem sR{A:Around}:(A.under (.builtin "type.__call__" ⟨.ref C::b,a⟩)).units=A.units+1:=by
 first|rfl|simp[Around.under,Code.cUnits,Code.frames,Code.isFrame]
theorem Y5.make{A:Around}(r:Y5 (k+1) A)(C:Addr)(b:List Value)(a:List (Str×Value)):Y5 k (A.under (.builtin "type.__call__" ⟨.ref C::b,a⟩)):=
 ⟨r.hd,by have:=r.dp;rw[yx];omega,by have:=r.un;rw[sR];omega,by first|exact r.gd|(simpa [Around.under,Code.isGuard,Code.isFrame,guardIds]using r.gd)⟩
theorem Y5.depth{A:Around}(r:Y5 k A):A.depth<recursionLimit:=by have:=r.dp;omega
theorem Y5.units{A:Around}(r:Y5 k A):A.units+64<cLine:=by have:=r.un;omega
def XI:TA:=λ_ H Q=>Q [] H
def YW(e:TE)(d:TA):TA:=λσ H Q=>e σ H λx c=>d σ c λa b=>Q (x::a) b
section
variable{X:Cx}{e:Expr}{es:List Expr}{te:TE}{t:TA}{pos:Pos}
theorem Oe:PA X [] XI:=λ_ _ _ _ H Q I h=>Calls.spliced_nil ⟨[],H,I,.nil,h⟩
theorem Oy(c:PE X e te)(d:PA X es t)(b:starEach (e::es) X.env=(false,eval e X.env)::starEach es X.env:=by rfl):PA X (e::es) (YW te t):=by
 intro pos a s σ H Q I h;rw[b];show wpAny _ _ (spliced ((false,eval e X.env)::backTo pos (starEach es X.env))) _ _ s;refine lQ (thn (c a s σ H _ I h) λu s1 ⟨x,H1,I1,r1,q1⟩=>?_);exact thn (d pos a s1 σ H1 _ I1 q1) λus s2 ⟨xs,H2,I2,r2,q2⟩=>⟨x::xs,H2,I2,.cons r1 r2,q2⟩
def SY(t:TA):TE:=λσ H Q=>t σ H λa b=>a.length<=qa/\∀p,b p=none->Q (.ref p) (upd b p (.tup a))
def OV(t:TA):TE:=λσ H Q=>t σ H λa b=>a.length<=qa/\∀p,b p=none->Q (.ref p) (upd b p (.lst a))
theorem xJ{d}(h:PA X es t):PE X (.Tuple es d pos) (SY t):=by
 intro a s σ H Q I f;refine wpAny_Tuple_spliced (thn (h pos a s σ H _ I f) λus s1 ⟨xs,H1,I1,r,z,q⟩=>⟨by rw[<- r.length];exact z,?_⟩);have c:H1 s1.heap.objs.size=none:=I1.hok.fresh (qM _);refine⟨.ref s1.heap.objs.size,upd H1 s1.heap.objs.size (.tup xs),I1.laid (t':=s1.toks) (λb u e=>qE _ e) (qM _) ?_,rfl,q _ c⟩;exact⟨z,us,r,⟨_,qd _ rfl,rfl,_,rfl⟩⟩
theorem Hv(h:PA X es t):PE X (.List es pos) (OV t):=by
 intro a s σ H Q I d;refine wpAny_List_spliced (thn (h pos a s σ H _ I d) λus s1 ⟨xs,H1,I1,r,z,q⟩=>⟨by rw[<- r.length];exact z,?_⟩);have c:H1 s1.heap.objs.size=none:=I1.hok.fresh (qM _);refine⟨.ref s1.heap.objs.size,upd H1 s1.heap.objs.size (.lst xs),I1.laid (t':=s1.toks) (λb u e=>qE _ e) (qM _) ?_,rfl,q _ c⟩;exact⟨z,us,0,r,qd _ rfl⟩
end
abbrev Sp:=List V->Hp->VK->XK->Prop
abbrev Uq:=List Env->Hp->Shared->XK->Value->Shared->Prop
set_option genInjectivity false in
structure Wg(P:Program)(w:World)(K:qC)(mg:Str->Option Value)(base:Heap)(A:Around)(outer:List Env)(s:Shared)(H:Hp):Prop where
 frames:A.frames=some outer
 mod:Mod K mg base
 bs:∀b o,base.get? b=some o->s.heap.get? b=some o/\H b=none
 bsz:base.objs.size<=s.heap.objs.size
 funs:s.heap.FunFrames base outer
 frf:∀b∈VR outer,H b=none
 hok:Yt P w H s.heap
 bare:AllBare s.gens
def CE(a:List Env)(P:Program)(w:World)(H:Hp)(s:Shared)(Q:VK)(u:Value)(b:Shared):Prop:=
 ∃v c,b.os=s.os/\AllBare b.gens/\Un (VR a) [] H c s.heap b.heap/\Yt P w c b.heap/\ZF v u/\Q v c
def CR(c:Uq)(a:List Env)(P:Program)(w:World)(H:Hp)(s:Shared)(Q:VK)(E:XK)(r:Result)(b:Shared):Prop:=
 match r with
 | .ok (.ret u)=>CE a P w H s Q u b
 | .ok _=>False
 | .error e=>c a H s E e b
set_option genInjectivity false in
structure Zu(P:Program)(w:World)(K:qC)(mg:Str->Option Value)(base:Heap)(CX:Uq)(k:Nat)(f:Addr)(fd:Xl)(ps:List Str)(sp:Sp):Prop where
 len:∀vs H Q E,sp vs H Q E->vs.length=ps.length
 run:∀(A:Around)(outer:List Env)(s:Shared)(H:Hp)(args:Args)(us:List Value)(vs:List V)(Q:VK)(E:XK),Y5 k A->Wg P w K mg base A outer s H->BindsTo s fd args (ps.zip us)->ZJ vs us->sp vs H Q E->
  codeAny (model P w) A (.call (.ref f) args) (CR CX outer P w H s Q E) s
theorem Wg.make{P:Program}{w:World}{K:qC}{b:Str->Option Value}{base:Heap}{A:Around}{a:List Env}{s:Shared}{H:Hp}(e:Wg P w K b base A a s H)(C:Addr)(d:List Value)(c:List (Str×Value)) :
  Wg P w K b base (A.under (.builtin "type.__call__" ⟨.ref C::d,c⟩)) a s H:=⟨by first|exact e.frames|(simpa [Around.under,Code.envs,Code.isFrame,pushEnvs]using e.frames),e.mod,e.bs,e.bsz,e.funs,e.frf,e.hok,e.bare⟩
section
variable{X:Cx}{pins:List (Addr×Obj)}{σ:St}{H:Hp}{s s':Shared}
theorem Inv.env0(I:Inv X pins σ H s):Wg X.prog X.w X.K X.mg X.base X.A X.stack s H:=
 ⟨I.ok.frames,I.ok.mod,I.bs,WT I.ok.bsz I.sz,I.stack,I.stkFree,I.hok,I.bare⟩
theorem Inv.after(I:Inv X pins σ H s)(h:CE X.stack X.prog X.w H s Q u s'):EP X pins σ Q u s':=by
 obtain⟨v,i,j,a,un,c,r,q⟩:=h;obtain⟨f,g,d,t,e⟩:=s';obtain rfl:e=s.os:=j;exact⟨v,i,I.call (h':=f) (g':=g) (d':=d) (t':=t) (ch:=[]) un c a (λb z=>absurd z (by simp)),r,q⟩
end
def X7(b:Sp)(a:List V)(E:XK)(t:TA):TE:=λσ H Q=>t σ H λvs c=>b (vs++a) c Q E
def Vm(K:qC)(d:Xl)(b:List Str)(c:List Value):Prop:=
 ∀(s:Shared)(a:List Value),K.In s.heap->(a++c).length=b.length->BindsTo s d ⟨a,[]⟩ (b.zip (a++c))
theorem Vm.all{K:qC}{c:Xl}{ps:List Str}(h:∀a:List Value,a.length=ps.length->bindArgs c ⟨a,[]⟩=pure (ps.zip a)):Vm K c ps []:=λs a _ b=>by
 rw[q9]at b ⊢;exact .of_eq (h a b)
def zxj(b:Uq)(X:Cx)(E:XK):Prop:=∀(a:List (Addr×Obj))(σ:St)(H:Hp)(s:Shared)(e:Value)(s':Shared),Inv X a σ H s->b X.stack H s E e s'->X.xe e s'
section
variable{X:Cx}{CX:Uq}{k:Nat}{f C:Addr}{fd:Xl}{ps:List Str}{sp:Sp}{dvs:List V}{ds:List Value}{E:XK}{x m:Str}{p pos apos:Pos}{e o:Expr}{es:List Expr}{ta:TE}{t:TA}
theorem vB(F:Zu X.prog X.w X.K X.mg X.base CX k f fd ps sp)(g:Y5 k X.A)(i:Vm X.K fd ps ds)(v:ZJ dvs ds)(n:zxj CX X E)
  (I:Inv X a σ H s) (r:ZJ vs b) (h:sp (vs++dvs) H Q E):wpAny (model X.prog X.w) X.A (call (.ref f) b) (EP X a σ Q) X.xe s:=by
 have d:ZJ (vs++dvs) (b++ds):=r.append v;have l:(b++ds).length=ps.length:=by rw[<- d.length];exact F.len _ _ _ _ h
 refine Lb (Oh (F.run X.A X.stack s H ⟨b,[]⟩ (b++ds) (vs++dvs) Q E g I.env0 (i s b I.kIn l) d h) λr j c=>?_)
 cases r with
 | error e=>exact n a σ H s e j I c
 | ok q=>
  cases q with
  | ret u=>exact I.after c
  | next=>exact False.elim c
  | brk=>exact False.elim c
  | cont=>exact False.elim c
theorem Fv(F:Zu X.prog X.w X.K X.mg X.base CX k f fd ps sp)(g:Y5 k X.A)(u:Gl X x)(i:X.mg x=some (.ref f))(y:RJ X.K (.ref f)=true)(j:Vm X.K fd ps ds)(v:ZJ dvs ds)(n:zxj CX X E)
  (d:PA X (e::es) t)(c:(x==("__debug__":Str))=false:=by decide)(l:starEach (e::es) X.env=(false,eval e X.env)::starEach es X.env:=by rfl)(b:(backTo pos (starEach es X.env)).any (·.1)=false:=by rfl) :
  PE X (.Call (.Name x p) (e::es) [] pos) (X7 sp dvs E t):=by
 intro a s σ H Q I h;refine Kq (E9 I u i ?_ c);refine sf (h₀:=X.base) I.ok.mod.kin y (thn (d pos a s σ H _ I h) λus s1 ⟨vs,H1,I1,r,q⟩=>⟨I1.kIn,?_⟩) l b;exact vB F g j v n I1 r q
set_option genInjectivity false in
end
section
variable{X:Cx}{CX:Uq}{k:Nat}{f C:Addr}{fd:Xl}{ps ks:List Str}{sp:Sp}{E:XK}{x m:Str}{p pos apos kpos:Pos}{e o:Expr}{es:List Expr}{kws:List Keyword}{te ta:TE}{t tk:TA}{nm:Option Str}
set_option genInjectivity false in
variable{g:List Value->List Value->List Value}{gV:List V->List V->List V}
end
set_option genInjectivity false in
structure ZW(N P:List Str)(sc:Scope):Prop where
 kind:sc.kind=.function
 co:sc.isCoroutine=false
 gen:sc.isGenerator=false
 nd:N.Nodup
 pre:N.take P.length=P
 par:∀x∈P,sc.names.lookup x=some .local\/sc.names.lookup x=some .cell
 nofree:∀y∈sc.names,y.2≠.free
theorem F1{kindOf:Str->Option NameKind}:∀{binds:List (Str×Value)}{m:Str->Option Value},(∀v,(x,v)∉binds)->bindL kindOf binds m x=m x
 | [],_,_=>rfl
 | (n,v)::r,m,h=>by
  unfold bindL;rw[F1 λw a=>h w (qI _ a)];split
  ·have:x≠n:=by rintro rfl;exact h v qX
   simp[this]
  ·rfl
theorem Fn{kindOf:Str->Option NameKind}:∀{binds:List (Str×Value)}{m:Str->Option Value},(∀v,(x,v)∉binds)->bindC kindOf binds m x=m x
 | [],_,_=>rfl
 | (n,v)::r,m,h=>by
  unfold bindC;rw[Fn λw a=>h w (qI _ a)];split
  ·rfl
  ·have:x≠n:=by rintro rfl;exact h v qX
   simp[this]
theorem Ka{kindOf:Str->Option NameKind}:∀{P:List Str}{vs:List Value}{i:Nat}{m:Str->Option Value},P.Nodup->P[i]?=some x->vs[i]?=some v->kindOf x=some .local->
  bindL kindOf (P.zip vs) m x=some v
 | [],_,_,_,_,h,_,_=>by simp at h
 | _::_,[],_,_,_,_,h,_=>by simp at h
 | p::P,w::vs,0,m,nd,h1,h2,hk=>by
  simp at h1 h2;subst h1;subst h2;show bindL kindOf ((p,w)::P.zip vs) m p=_;unfold bindL;rw[F1 λv a=>(Vl.mp nd).1 (Qh a).1,if_pos hk];simp
 | p::P,w::vs,i+1,m,nd,h1,h2,hk=>by
  show bindL kindOf ((p,w)::P.zip vs) m x=_;unfold bindL;exact Ka (i:=i) (Vl.mp nd).2 (by simpa using h1) (by simpa using h2) hk
theorem JY{kindOf:Str->Option NameKind}:∀{P:List Str}{vs:List Value}{i:Nat}{m:Str->Option Value},P.Nodup->P[i]?=some x->vs[i]?=some v->kindOf x≠some .local->
  bindC kindOf (P.zip vs) m x=some v
 | [],_,_,_,_,h,_,_=>by simp at h
 | _::_,[],_,_,_,_,h,_=>by simp at h
 | p::P,w::vs,0,m,nd,h1,h2,hk=>by
  simp at h1 h2;subst h1;subst h2;show bindC kindOf ((p,w)::P.zip vs) m p=_;unfold bindC;rw[Fn λv a=>(Vl.mp nd).1 (Qh a).1,if_neg hk];simp
 | p::P,w::vs,i+1,m,nd,h1,h2,hk=>by
  show bindC kindOf ((p,w)::P.zip vs) m x=_;unfold bindC;exact JY (i:=i) (Vl.mp nd).2 (by simpa using h1) (by simpa using h2) hk
def start(N:List Str)(vs:List V):St:=vs.map some++List.replicate (N.length - vs.length) none
def X0(CX:Uq)(P:Program)(w:World)(K:qC)(j:Str->Option Value)(base:Heap)(N:List Str)(c:Str)(a:Scope)(f:Addr)(g:Value)(A:Around)(b:List Env)(s:Shared)(H:Hp)(E:XK):Cx where
 prog:=P
 w:=w
 K:=K
 mg:=j
 base:=base
 A:=A.deeper (envOfC c a s.heap.objs.size f g)
 N:=N
 s₀:=s
 H₀:=H
 env:=envOfC c a s.heap.objs.size f g
 outer:=b
 stack:=envOfC c a s.heap.objs.size f g::b
 ex:=[]
 calm:=true
 fn:=λ_=>true
 pn:=[]
 xe:=λe s'=>wpAny (model P w) (A.deeper (envOfC c a s.heap.objs.size f g)) (leaving (envOfC c a s.heap.objs.size f g) e) (λ_ d=>CX b H s E e d) (λl d=>CX b H s E l d) s'
theorem xW{a:Scope}(h:a.names.lookup x=some .cell):∃c,(cellsFrom n a.names []).lookup x=some c:=by
 have q:=Hu a.names n [] (.inl h);exact Option.isSome_iff_exists.mp q
theorem Ce{CX:Uq}{P:Program}{w:World}{K:qC}{I:Str->Option Value}{base:Heap}{N t:List Str}{j:Str}{d:Scope}{f:Addr}{G:Value}{A:Around}{g:List Env}{s L:Shared}{H:Hp}{E:XK}{us:List Value}{vs:List V}
  (S:ZW N t d)(R:A.handled=none)(m:Wg P w K I base A g s H)(W:vs.length=t.length)(r:ZJ vs us)
  (x:InCallC s s.heap.objs.size (bindL (envOfC j d s.heap.objs.size f G).kindOf (t.zip us) λ_=>none) (cellsFrom (s.heap.objs.size+1) d.names []) (bindC (envOfC j d s.heap.objs.size f G).kindOf (t.zip us) λ_=>none) L) :
  Inv (X0 CX P w K I base N j d f G A g s H E) [] (start N vs) H L:=by
 have T:t.length<=N.length:=by have:=congrArg List.length S.pre;rw[Pp]at this;omega
 obtain⟨D,X,rfl,M⟩:=x.done
 have noA:∀b:Addr,b∉(X0 CX P w K I base N j d f G A g s H E).ex:=λb z=>absurd (show b∈([]:List Addr)from z) (by simp)
 refine⟨⟨m.mod,S.kind,rfl,rfl,qM _,λy z c D l=>?_,λy o=>?_,λy c _ h=>?_,λ_=>R,mO m.frames,.inr ⟨rfl,rfl⟩,λb z=>absurd z (noA b),m.bs,m.bsz,λb _ _=>noA b,λb z=>absurd z (noA b),m.funs,m.frf⟩,
  rfl,m.bare,Un.kept M,⟨_,x.toInCall.ns,λi y v D l U=>?_⟩,λy c h=>⟨_,x.cell y c h⟩,m.hok.fresh (qM _),λy c h=>?_,λp B=>absurd (show p∈([]:List (Addr×Obj))from B) (by simp),m.hok.kept M,?_⟩
 ·exact name_of_addr x.apart (UI D) (UI l)
 ·have o:d.names.lookup y=some .cell\/d.names.lookup y=some .free:=o;rcases o with o|o
  ·exact xW o
  ·exact absurd rfl (S.nofree _ (UI o))
 ·exact KB (x.above y c (UI h))
 ·have F:i<vs.length:=by
   unfold start at l;by_cases F:i<vs.length
   ·exact F
   ·rw[qg (by simpa using F)]at l;rw[Gx]at l;split at l<;>cases l
  have Q:vs[i]?=some v:=by
   unfold start at l;rw[qc (by simpa using F),qW]at l
   cases e:vs[i]? with
   | none=>rw[e]at l;cases l
   | some a=>rw[e]at l;cases l;rfl
  obtain⟨u,J,O⟩:=r.get Q
  have B:t[i]?=some y:=by
   rw[<- S.pre,List.getElem?_take_of_lt (by omega)];exact D
  have C:t.Nodup:=by rw[<- S.pre];exact S.nd.sublist (sE _ _)
  refine⟨u,O,?_⟩;rcases S.par y (Ub B)with k|k
  ·exact .inl ⟨k,Ka C B J k⟩
  ·obtain⟨c,e⟩:=xW (n:=s.heap.objs.size+1) k;refine .inr ⟨.inl k,c,e,?_⟩;have q:=x.cell y c e;rw[JY C B J (by show d.names.lookup y≠_;rw[k];decide)]at q;exact q
 ·exact m.hok.fresh (KB (x.above y c (UI h)))
 ·unfold start;show _=N.length;rw[qU,qD,Q1];omega
theorem BK{O:Uq}{P:Program}{w:World}{K:qC}{L:Str->Option Value}{base:Heap}{k:Nat}{f:Addr}{m d:Str}{h:Arguments}{i:List Stmt}{a:Scope}{dV kV C pm g Z oc:Value}{an od:Option Addr}
  {W:Array (Option Value)}{N M:List Str}{X:Sp}(lk:K.lookup f=some ⟨oc,od,.func (Ur m d h i a dV kV C pm an g Z),W⟩)(U:EI K g d=true)(S:ZW N M a)
  (len:∀vs H Q E,X vs H Q E->vs.length=M.length)
  (p:∀(A:Around)(c:List Env)(s:Shared)(H:Hp)(vs:List V)(Q:VK)(E:XK),Y5 k (A.deeper (envOfC d a s.heap.objs.size f g))->X vs H Q E->
   ∃t,W2 (X0 O P w K L base N d a f g A c s H E) i t/\t {nx:=λ_ l=>Q .non l,rt:=Q} (start N vs) H) :
  Zu P w K L base O (k+1) f (Ur m d h i a dV kV C pm an g Z) M X:=by
 refine⟨len,λA c s H a0 us vs Q E T G hb r F=>?_⟩;have hl:=len _ _ _ _ F;have KX:K.In s.heap:=G.mod.kin.keeps λb o e=>(G.bs b o e).1;have lim:s.heap.NoLimit:=G.mod.nolimit.keeps λb o e=>(G.bs b o e).1
 have z:∀y∈M.zip us,a.names.lookup y.1=some .local\/(a.names.lookup y.1=some .cell/\((cellsFrom (s.heap.objs.size+1) a.names []).lookup y.1).isSome=true):=λ⟨n,v⟩ hy=>by
  rcases S.par n (Qh hy).1 with q|q
  ·exact .inl q
  ·exact .inr ⟨q,Hu _ _ _ (.inl q)⟩
 refine CQ T.depth (KX _ _ lk) rfl S.co S.gen rfl (Cn KX U) (hb _ _ _ _ ?_);refine Dg S.kind z λa1 he s1 x=>?_;subst he;refine⟨lim.keeps x.toInCall.keep,CG ?_⟩;obtain⟨t,ht,hq⟩:=p A c s H vs Q E (T.deeper _) F;have I:Inv (X0 O P w K L base N d a f g A c s H E) [] (start N vs) H s1:=Ce S T.hd G hl r x;refine TJ (ht [] s1 (start N vs) H _ I hq) (λfl Y B=>?_) λe Y B=>B
 have D:∀{j:St}{l:Hp}{v:V}{u:Value},Inv (X0 O P w K L base N d a f g A c s H E) [] j l Y->ZF v u->Q v l->CE c P w H s Q u Y:=
  λ{j l v u} J R q=>⟨v,l,J.os,J.bare,J.base,J.hok,R,q⟩
 cases fl with
 | ret u=>
  obtain⟨v,j,l,J,R,q⟩:=B;exact D J R q
 | next=>
  obtain⟨j,l,J,q⟩:=B;exact D (v:=V.non) (u:=Value.none) J rfl q
 | brk=>
  obtain⟨_,_,_,q⟩:=B;exact False.elim q
 | cont=>
  obtain⟨_,_,_,q⟩:=B;exact False.elim q
section
variable{X:Cx}{x:Str}{p pos:Pos}{e:Expr}{es:List Expr}{t:TA}{id T:String}{r:List V->Hp->VK->Prop}
def QV(r:List V->Hp->VK->Prop)(t:TA):TE:=λσ H Q=>t σ H λvs a=>r vs a Q
theorem Jt(j:YQ X (.builtin id) r)(k:Gl X x)(g:X.mg x=none)(l:bootBuiltins x=some (.builtin id))(d:PA X (e::es) t)(f:x≠"__name__":=by decide)(c:(x==("__debug__":Str))=false:=by decide)
  (i:starEach (e::es) X.env=(false,eval e X.env)::starEach es X.env:=by rfl) (b:(backTo pos (starEach es X.env)).any (·.1)=false:=by rfl):PE X (.Call (.Name x p) (e::es) [] pos) (QV r t):=by
 intro a s σ H Q I h;refine Kq (L6 I k g l ?_ f c);exact PyProof.Rows.callWith_builtin1 (thn (d pos a s σ H _ I h) λus s1 ⟨vs,H1,I1,r1,q1⟩=>j a s1 σ H1 vs us Q I1 r1 q1) i b
theorem oz(j:YQ X (.type T) r)(k:Gl X x)(g:X.mg x=none)(l:bootBuiltins x=some (.type T))(d:PA X (e::es) t)(f:x≠"__name__":=by decide)(c:(x==("__debug__":Str))=false:=by decide)
  (i:starEach (e::es) X.env=(false,eval e X.env)::starEach es X.env:=by rfl) (b:(backTo pos (starEach es X.env)).any (·.1)=false:=by rfl):PE X (.Call (.Name x p) (e::es) [] pos) (QV r t):=by
 intro a s σ H Q I h;refine Kq (L6 I k g l ?_ f c);exact uk (thn (d pos a s σ H _ I h) λus s1 ⟨vs,H1,I1,r1,q1⟩=>j a s1 σ H1 vs us Q I1 r1 q1) i b
end
end L2
namespace HT
open PySem PyProof.Rows
section
open PySem.SeqAt
open PySem.AutoSeq1 (wpAny_loadPart')
open PySem.MeetsSeq PySem.MeetsSeq2 PySem.MeetsSeq3
end
section
variable{prog:Program}{w:World}{A:Around}{E:Value->Shared->Prop}{s:Shared}
theorem cat_tup{vs a:List Value}{Q:Value->Shared->Prop}(y:IsTup s.heap t vs.toArray)(z:IsTup s.heap b a.toArray)(x:vs≠[])
  (h1:a=[]->Q (.ref t) s) (h2:a≠[]->Q (.ref s.heap.objs.size) {s with heap:=s.heap.push {cls:=.type "tuple",data:=.seq (vs++a).toArray}})
  (l:vs.length+a.length<=qa):wpAny (model prog w) A (binaryOp .Add (.ref t) (.ref b)) Q E s:=by
 obtain⟨⟨k,o,i,q⟩,j,r,n,v⟩:=id y;obtain⟨⟨u,g,m,d⟩,c,h,p,f⟩:=id z;simp only at r v h f;subst r v h f;have e:vs.toArray++a.toArray=(vs++a).toArray:=by simp
 by_cases hw:a=[]
 ·exact concat_meets ⟨_,j,rfl⟩ ⟨_,c,rfl⟩ noFill_tuple_add seq_tuple_add lb jD (kB _ _)
   (tuple_addW1 t b vs.toArray a.toArray n p o g q d (by simpa using x) (by simp[hw])) ⟨j,c,h1 hw⟩
 ·refine concat_meets ⟨_,j,rfl⟩ ⟨_,c,rfl⟩ noFill_tuple_add seq_tuple_add lb jD (kB _ _)
   (tuple_addW2 t b vs.toArray a.toArray n p o g q d (by simpa using x) (by simpa using hw) (by rw[qO,qO];exact l)) ⟨j,c,?_⟩
  rw[e];exact h2 hw
def sIx(n d:Nat):Option Int->Nat
 | none=>d
 | some v=>if v<0 then(v+(n:Int)).toNat else min v.toNat n
theorem sIx_nat(n d k:Nat):sIx n d (some (k:Int))=min k n:=by
 show(if(k:Int)<0 then((k:Int)+(n:Int)).toNat else min (k:Int).toNat n)=min k n;rw[if_neg (by omega),Jl]
end
end HT
namespace L2
open PySem PySem.Spec PyProof.Rows
abbrev TO:=St->Hp->(Option Int->Hp->Prop)->Prop
def PO(X:Cx)(e:Option Expr)(t:TO):Prop:=
 ∀(a:List (Addr×Obj))(s:Shared)(σ:St)(H:Hp)(Q:Option Int->Hp->Prop),Inv X a σ H s->t σ H Q->
  wpAny (model X.prog X.w) X.A (evalPart e X.env) (λu c=>∃o b,Inv X a σ b c/\IsPart u o/\Q o b) X.xe s
def Ww:TO:=λ_ H Q=>Q none H
def Tj(t:TE):TO:=λσ H Q=>t σ H λx a=>∃i,x=.int i/\Q (some i) a
section
variable{X:Cx}{e:Expr}{te:TE}{lo hi:Option Expr}{tl th:TO}{pos p2:Pos}
theorem Hh:PO X none Ww:=by
 intro a s σ H Q I h;rw[evalPart_none];exact qV ⟨none,H,I,.none,h⟩
theorem Hx(h:PE X e te):PO X (some e) (Tj te):=by
 intro a s σ H Q I b;rw[evalPart_some];refine thn (h a s σ H _ I b) λu s1 ⟨x,H1,I1,r1,q1⟩=>?_;obtain⟨i,rfl,q⟩:=q1;obtain⟨t,rfl⟩:=r1;exact⟨some i,H1,I1,.int i t,q⟩
def Li(X:Cx)(r:V->Option Int->Option Int->Hp->VK->Prop):Prop:=
 ∀(a:List (Addr×Obj))(s:Shared)(σ:St)(H:Hp)(x:V)(v d b:Value)(lo hi:Option Int)(c:Addr)(Q:VK),Inv X a σ H s->ZF x v->s.heap.IsSliceOf c d b .none->IsPart d lo->IsPart b hi->r x lo hi H Q->
  ∃T f,typeLookup (.type T) "__getitem__"=pure (some (.builtin f))/\s.TypeIs v T/\wpAny (model X.prog X.w) X.A (getItem v (.ref c)) (EP X a σ Q) X.xe s
def DJ(r:V->Option Int->Option Int->Hp->VK->Prop)(te:TE)(tl th:TO):TE:=λσ H Q=>te σ H λx b=>tl σ b λl a=>th σ a λu c=>r x l u c Q
theorem Ef{r:V->Option Int->Option Int->Hp->VK->Prop}(f:Li X r)(j:PE X e te)(k:PO X lo tl)(g:PO X hi th):PE X (.Subscript e (.Slice lo hi none p2) pos) (DJ r te tl th):=by
 intro a s σ H Q I h;refine Subscript_ (thn (j a s σ H _ I h) λv s1 ⟨x,H1,I1,r1,q1⟩=>?_);refine wpAny_Slice (thn (k a s1 σ H1 _ I1 q1) λvl s2 ⟨l,H2,I2,pl,q2⟩=>thn (g a s2 σ H2 _ I2 q2) λvu s3 ⟨u,H3,I3,pu,q3⟩=>?_);rw[evalPart_none];refine qV ?_;have d:Inv X a σ H3 {s3 with heap:=s3.heap.push {cls:=.type "slice",data:=.fields #[vl,vu,.none]}}:=I3.kept (t':=s3.toks) λb n q=>qE _ q;obtain⟨T,o,c,i,m⟩:=f a {s3 with heap:=s3.heap.push {cls:=.type "slice",data:=.fields #[vl,vu,.none]}} σ H3 x v vl vu l u s3.heap.objs.size Q d r1 (Heap.IsSliceOf.new ..) pl pu q3;show wpAny (model X.prog X.w) X.A (subscriptTail e (.Slice lo hi none p2) v (.ref s3.heap.objs.size)) (EP X a σ Q) X.xe {s3 with heap:=s3.heap.push {cls:=.type "slice",data:=.fields #[vl,vu,.none]}};exact tail_any (ops:=[.ref s3.heap.objs.size,v]) i c m (by with_unfolding_all rfl)
def WL(xs:List V)(lo hi:Option Int):List V:=(xs.drop (HT.sIx xs.length 0 lo)).take (HT.sIx xs.length xs.length hi - HT.sIx xs.length 0 lo)
theorem zb(a:List V)(lo hi:Option Int):(WL a lo hi).length<=a.length:=by
 unfold WL;rw[Pp,Sb];omega
def II(K:qC):R2:=λx y H Q=>∃a b d c,x=.ref a/\y=.ref b/\Yh K H a d/\Yh K H b c/\d≠[]/\d.length+c.length<=qa/\
 (c=[]->Q (.ref a) H)/\(c≠[]->∀p,H p=none->Q (.ref p) (upd H p (.tup (d++c))))
theorem ZJ.nil_iff(r:ZJ a b):b=[]↔a=[]:=by
 cases r with
 | nil=>simp
 | cons _ _=>simp
theorem A8:X2 X (binaryOp .Add) (II X.K):=by
 intro f s σ H x y v u Q I C p h;obtain⟨a,b,j,A,rfl,rfl,l,r,B,g,m,t⟩:=h;cases C;cases p;obtain⟨k,d,n,_⟩:=I.tuple l;obtain⟨i,c,p2,_⟩:=I.tuple r;refine HT.cat_tup n p2 (λz=>B (d.nil_iff.mp z)) (λz=>⟨.ref a,H,I,rfl,m (c.nil_iff.mp z)⟩) (λz=>?_) (by rw[<- d.length,<- c.length];exact g);refine⟨.ref s.heap.objs.size,_,I.laid (t':=s.toks) (o:=.tup (j++A)) (λb D q=>qE _ q) (qM _) ?_,rfl,t (λw=>z (c.nil_iff.mpr w)) _ (I.hok.fresh (qM _))⟩;exact⟨by rw[qU];exact g,_,d.append c,IsTup.new _ _⟩
end
def UM(n:Nat)(i:Int):Option Nat:=if 0<=i then(if i<n then some i.toNat else none)else if -(n:Int)<=i then some (i+n).toNat else none
def atI{α:Type}(xs:List α)(i:Int):Option α:=(UM xs.length i).bind λj=>xs[j]?
theorem G6(h:UM n i=some j):seqIndex? i n=some j/\j<n/\-(n:Int)<=i/\i<n:=by
 unfold UM at h;by_cases h0:0<=i
 ·rw[if_pos h0]at h;by_cases h1:i<n
  ·rw[if_pos h1]at h;have e:i.toNat=j:=qZ h;exact⟨by rw[DL h0 h1,e],by omega,by omega,h1⟩
  ·rw[if_neg h1]at h;cases h
 ·rw[if_neg h0]at h;by_cases h1:-(n:Int)<=i
  ·rw[if_pos h1]at h;have e:(i+n).toNat=j:=qZ h;exact⟨by rw[seqIndex_neg (by omega) h1,e],by omega,h1,by omega⟩
  ·rw[if_neg h1]at h;cases h
theorem L4{a:List α}(h:atI a i=some v):∃j,seqIndex? i a.length=some j/\a[j]?=some v/\j<a.length/\-(a.length:Int)<=i/\i<a.length:=by
 unfold atI at h
 cases e:UM a.length i with
 | none=>rw[e]at h;cases h
 | some j=>
  rw[e]at h;obtain⟨d,f,c,b⟩:=G6 e;exact⟨j,d,h,f,c,b⟩
theorem XW{α:Type}{xs:List α}{j:Nat}{v:α}(h:xs[j]?=some v):atI xs (j:Int)=some v:=by
 have a:j<xs.length:=(qK.mp h).1
 have e:UM xs.length (j:Int)=some j:=by
  unfold UM;rw[if_pos (by omega),if_pos (by omega)];simp
 unfold atI;rw[e];exact h
def VE(b:Expr):Prop:=∀o i,subscripted b false o i=operate [o,i] (getItem o i)
def Ou(X:Cx)(r:R2):Prop:=
 ∀(b slice:Expr)(a:List (Addr×Obj))(s:Shared)(σ:St)(H:Hp)(x y:V)(v u:Value)(Q:VK),Inv X a σ H s->ZF x v->ZF y u->r x y H Q->
  subscripted slice false v u=operate [v,u] (getItem v u)->wpAny (model X.prog X.w) X.A (subscriptTail b slice v u) (EP X a σ Q) X.xe s
def Lf(X:Cx)(d:String)(r:V->List V->Hp->VK->Prop):Prop:=
 ∀(a:List (Addr×Obj))(s:Shared)(σ:St)(H:Hp)(x:V)(b:List V)(v:Value)(c:List Value)(Q:VK),Inv X a σ H s->ZF x v->ZJ b c->r x b H Q->
  wpAny (model X.prog X.w) X.A (call (.builtin d) (v::c)) (EP X a σ Q) X.xe s
section
variable{X:Cx}{a b:Expr}{ta tb:TE}{pos:Pos}
theorem D8(g:Ou X r)(f:PE X a ta)(j:PE X b tb)(i:VE b):PE X (.Subscript a b pos) (Ul r ta tb):=by
 intro c s σ H Q I h;exact Subscript_ (NQ f j I h λv u k x y e d m l q=>g a b c k σ e x y v u Q d m l q (i _ _))
def vE(K:qC):R2:=λx y H Q=>∃p c i v,x=.ref p/\y=.int i/\YK K H p c/\atI c i=some v/\Q v H
def ya(K:qC):R2:=λx y H Q=>∃p c i v,x=.ref p/\y=.int i/\Yh K H p c/\atI c i=some v/\Q v H
def pV:R2:=λx y H Q=>∃z i c,x=.str z/\y=.int i/\z.length<=qa/\atI z.cps.toList i=some c/\Q (.str ⟨#[c]⟩) H
theorem rJ:Ou X (vE X.K):=by
 intro g slice c s σ H x y v u Q I G D h n;obtain⟨p,O,i,z,rfl,rfl,F,A,q⟩:=h;cases G;obtain⟨t,rfl⟩:=D;obtain⟨f,r,k,M⟩:=I.list F;obtain⟨j,e,B,P,C,L⟩:=L4 A;obtain⟨w,o,l⟩:=r.get B;have E:=r.length;have N:=Lc;have d:EP X c σ Q w s:=⟨z,H,I,l,q⟩;by_cases h0:0<=i
 ·have m:i.toNat=j:=by
   rw[DL h0 L]at e;exact qZ e
  exact item_listR k.isList h0 (by omega) (by rw[m];simpa using o) d n
 ·have m:(i+(f.toArray.size:Int)).toNat=j:=by
   rw[seqIndex_neg (by omega) C]at e;rw[qO,<- E];exact qZ e
  exact subscriptTail_builtinR (x:=w) k.isList.typeIs slot_list_getitem.lookup
   (wpAny_getItem_list_neg (Q:=λr J=>r=w/\EP X c σ Q r J) k.isList (by omega) (by rw[qO]<;>omega) (by omega) (by rw[m];simpa using o) ⟨rfl,d⟩) n
theorem A9:Ou X (ya X.K):=by
 intro e slice c s σ H x y v u Q I C o h D;obtain⟨p,L,i,z,rfl,rfl,B,l,q⟩:=h;cases C;obtain⟨t,rfl⟩:=o;obtain⟨k,r,g,G⟩:=I.tuple B;obtain⟨j,m,n,N,M,O⟩:=L4 l;obtain⟨w,F,f⟩:=r.get n;have A:=r.length;have J:=Lc;have d:EP X c σ Q w s:=⟨z,H,I,f,q⟩
 exact subscriptTail_builtinR (x:=w) g.typeIs slot_tuple_getitem.lookup
  (getItem_tuple (j:=j) (Q:=λr E=>r=w/\EP X c σ Q r E) g (by omega) (by omega) (by rw[qO,<- A];exact m) (by simpa using F) ⟨rfl,d⟩) D
theorem xP:Ou X pV:=by
 intro d slice e s σ H x y v u Q I r A h m;obtain⟨z,i,c,rfl,rfl,B,o,q⟩:=h;obtain⟨t,rfl⟩:=r;obtain⟨D,rfl⟩:=A;obtain⟨j,f,w,E,l,n⟩:=L4 o;have p:z.cps.toList.length=z.length:=by simp[Str.length]
 rw[p]at f l n;have C:=Lc
 exact tail_any (typeIs_str s z t) slot_str_getitem.lookup (getItem_str (c:=c) (by
  have g:decide (i < -(2 ^ 63:Int))=false:=decide_eq_false (by omega);have k:decide (i>=2 ^ 63)=false:=decide_eq_false (by omega);rw[g,k,Bool.or_false]) (by rw[f];simpa using w) ⟨.str ⟨#[c]⟩,H,I.tok _,⟨_,rfl⟩,q⟩) m
theorem rC(c:List Value)(n j:Nat)(u:Value):Obj.mapSeq (·.setIfInBounds j u) {cls:=.type "list",data:=.seq c.toArray n}={cls:=.type "list",data:=.seq (c.set j u).toArray n}:=by
 simp[Obj.mapSeq]
theorem Inv.lst{s:Shared}{xs:List V}(I:Inv X pins σ H s)(h:H p=some (.lst xs)) :
  ∃(c:List Value)(n:Nat),ZJ xs c/\s.heap.get? p=some {cls:=.type "list",data:=.seq c.toArray n}/\xs.length<=qa:=by
 obtain⟨z,c,n,r,e⟩:=I.hok p _ h;exact⟨c,n,r,e,z⟩
theorem Inv.lstUpd{s:Shared}{l i:List V}{g c:List Value}{f:Obj->Obj}(I:Inv X d σ H s)(h:H p=some (.lst l))
  (v:s.heap.get? p=some {cls:=.type "list",data:=.seq g.toArray n}) (j:f {cls:=.type "list",data:=.seq g.toArray n}={cls:=.type "list",data:=.seq c.toArray k}) (r:ZJ i c) (m:i.length<=qa) (t:Nat) :
  Inv X d σ (upd H p (.lst i)) {s with heap:=s.heap.update p f,toks:=t}:=by
 have e:(s.heap.update p f).get? p=some {cls:=.type "list",data:=.seq c.toArray k}:=by
  rw[Om f v (by rw[j]<;>rfl),j]
 refine I.write (x:=p) (e:=p) (by rw[h];trivial) (.inl rfl) (λb u o q=>(P5 _ _ (Xs o)).trans q) ⟨_,e⟩ ?_;exact⟨m,c,k,r,e⟩
def MA:V->V->V->Hp->(Hp->Prop)->Prop:=λo i v H Q=>∃p c k j,o=.ref p/\i=.int k/\H p=some (.lst c)/\UM c.length k=some j/\Q (upd H p (.lst (c.set j v)))
theorem zv:EW X MA:=by
 intro d s σ H o i v L G u Q I A E z h;obtain⟨p,C,k,j,rfl,rfl,w,D,q⟩:=h;cases A;obtain⟨t,rfl⟩:=E;obtain⟨c,n,r,g,B⟩:=I.lst w;obtain⟨e,J,x,m⟩:=G6 D;have l:=r.length;have F:=Lc
 have y:Inv X d σ (upd H p (.lst (C.set j v))) {s with heap:=s.heap.update p (Obj.mapSeq (·.setIfInBounds j u))}:=
  I.lstUpd w g (rC c n j u) (r.set z j) (by rw[Wd];exact B) s.toks
 by_cases h0:0<=k
 ·have f:k.toNat=j:=by
   rw[DL h0 m]at e;exact qZ e
  exact PySem.W.ki_setAt g h0 (by omega) (by rw[qO,<- l];exact m) (by rw[f];exact⟨_,y,q⟩)
 ·have f:(k+(c.toArray.size:Int)).toNat=j:=by
   rw[seqIndex_neg (by omega) x]at e;rw[qO,<- l];exact qZ e
  exact PySem.W.ki_setBack g (by omega) (by rw[qO,<- l];exact x) (by omega) (by rw[f];exact⟨_,y,q⟩)
theorem zr(d c:Option Int)(n:Nat):(sliceBounds d c none n).1=((HT.sIx n 0 d:Nat):Int)/\(sliceBounds d c none n).2.1=((HT.sIx n n c:Nat):Int)/\(sliceBounds d c none n).2.2=1:=by
 refine⟨?_,?_,rfl⟩
 ·cases d with
  | none=>simp[sliceBounds,HT.sIx]
  | some i=>
   simp only[sliceBounds,HT.sIx,Option.getD_none,show(1:Int) > 0 by decide,if_true];by_cases h:i<0
   ·simp only[h,if_true]<;>omega
   ·simp only[h,if_false]<;>omega
 ·cases c with
  | none=>simp[sliceBounds,HT.sIx]
  | some i=>
   simp only[sliceBounds,HT.sIx,Option.getD_none,show(1:Int) > 0 by decide,if_true];by_cases h:i<0
   ·simp only[h,if_true]<;>omega
   ·simp only[h,if_false]<;>omega
theorem iA(c:List Value)(d e:Option Int):slicePick c.toArray d e none=((c.drop (HT.sIx c.length 0 d)).take (HT.sIx c.length c.length e - HT.sIx c.length 0 d)).toArray:=by
 obtain⟨g,h,f⟩:=zr d e c.toArray.size;unfold slicePick;rw[g,h,f];simp only[sliceRange_one,pick_run,qO]<;>rfl
def HE(K:qC):V->Option Int->Option Int->Hp->VK->Prop:=λx e d H Q=>∃a c,x=.ref a/\YK K H a c/\∀p,H p=none->Q (.ref p) (upd H p (.lst (WL c e d)))
theorem nI:Li X (HE X.K):=by
 intro g s σ H x v z w e f y Q I p m t l h;obtain⟨a,c,rfl,n,q⟩:=h;cases p;obtain⟨j,r,i,k⟩:=I.list n;have d:=r.length;refine⟨"list",_,slot_list_getitem.lookup,i.isList.typeIs,?_⟩;refine wpAny_getItem_list_slice i.isList m t l .none (by simp) ?_ (by rw[qO]<;>omega);rw[iA,<- d];refine⟨.ref s.heap.objs.size,_,I.laid (t':=s.toks) (o:=.lst (WL c e f)) (λb u q=>qE _ q) (qM _) ?_,rfl,q _ (I.hok.fresh (qM _))⟩;exact⟨WT (zb c e f) k,_,0,(r.drop (HT.sIx c.length 0 e)).take (HT.sIx c.length c.length f - HT.sIx c.length 0 e),qd _ rfl⟩
def QU:V->Bool
 | .non=>true
 | .bl _=>true
 | .int _=>true
 | .str _=>true
 | _=>false
def Qn:V->V->Bool
 | .non,.non=>true
 | .bl a,.bl b=>a==b
 | .bl a,.int b=>(if a then 1 else 0)==b
 | .int a,.bl b=>a==(if b then 1 else 0)
 | .int a,.int b=>a==b
 | .str a,.str b=>a==b
 | _,_=>false
theorem t6(f:ZF y u)(c:ZF x v)(g:QU y=true)(e:QU x=true):SeqAt.EqAt A s u v (Qn y x):=by
 cases y with
 | non=>
  cases f
  cases x with
  | non=>cases c;exact SeqAt.EqAt.same _
  | bl b=>cases c;exact SeqAt.EqAt.none_bool b
  | int b=>obtain⟨t,rfl⟩:=c;exact SeqAt.EqAt.none_int b t
  | str b=>obtain⟨t,rfl⟩:=c;exact SeqAt.EqAt.none_str b t
  | _=>exact absurd (show false=true from e) qQ
 | bl a=>
  cases f
  cases x with
  | non=>cases c;exact SeqAt.EqAt.bool_none a
  | bl b=>cases c;exact SeqAt.EqAt.bool_bool a b
  | int b=>obtain⟨t,rfl⟩:=c;exact SeqAt.EqAt.bool_int a b t
  | str b=>obtain⟨t,rfl⟩:=c;exact SeqAt.EqAt.bool_str a b t
  | _=>exact absurd (show false=true from e) qQ
 | int a=>
  obtain⟨d,rfl⟩:=f
  cases x with
  | non=>cases c;exact SeqAt.EqAt.int_none a d
  | bl b=>cases c;exact SeqAt.EqAt.int_bool a d b
  | int b=>obtain⟨t,rfl⟩:=c;exact SeqAt.EqAt.int_int a d b t
  | str b=>obtain⟨t,rfl⟩:=c;exact mS a d b t
  | _=>exact absurd (show false=true from e) qQ
 | str a=>
  obtain⟨d,rfl⟩:=f
  cases x with
  | non=>cases c;exact SeqAt.EqAt.str_none a d
  | bl b=>cases c;exact SeqAt.EqAt.str_bool a d b
  | int b=>obtain⟨t,rfl⟩:=c;exact mP a d b t
  | str b=>obtain⟨t,rfl⟩:=c;exact SeqAt.EqAt.str_str a d b t
  | _=>exact absurd (show false=true from e) qQ
 | _=>exact absurd (show false=true from g) qQ
def T5(x:V)(u:Value):Bool:=match u with
 | .none=>Qn .non x
 | .bool b=>Qn (.bl b) x
 | .int i _=>Qn (.int i) x
 | .str z _=>Qn (.str z) x
 | _=>false
theorem FB(r:ZF y u)(f:QU y=true):T5 x u=Qn y x:=by
 cases y with
 | non=>cases r;rfl
 | bl b=>cases r;rfl
 | int i=>obtain⟨t,rfl⟩:=r;rfl
 | str z=>obtain⟨t,rfl⟩:=r;rfl
 | _=>exact absurd (show false=true from f) qQ
theorem IG:∀{c:List V}{d:List Value},ZJ c d->c.all QU=true->d.any (T5 x)=c.any λy=>Qn y x
 | _,_,.nil,_=>rfl
 | y::c,u::d,.cons r t,f=>by
  rw[SH,qe]at f;rw[Qx,Qx,FB r f.1,IG t f.2]
theorem F6(h:ZF x v)(g:QU x=true):∀{d:List V}{e:List Value},ZJ d e->d.all QU=true->∀u∈e,SeqAt.EqAt A s u v (T5 x u)
 | _,_,.nil,_=>λu c=>by cases c
 | y::d,u::e,.cons r t,f=>λi c=>by
  rw[SH,qe]at f;rcases qN.mp c with rfl|c
  ·rw[FB r f.1];exact t6 r h f.1 g
  ·exact F6 h g t f.2 i c
def DB(x:V)(c:List V):Bool:=c.any λy=>Qn y x
def Kf(K:qC)(d:Bool):R2:=λx y H Q=>∃p c,y=.ref p/\(YK K H p c\/Yh K H p c)/\QU x=true/\c.all QU=true/\Q (.bl (if d then !DB x c else DB x c)) H
theorem nQ:X2 X (compareOp .In) (Kf X.K false):=by
 intro g s σ H x y v u Q I j l h;obtain⟨p,m,rfl,d,i,fs,q⟩:=h;cases l;rcases d with d|d
 ·obtain⟨c,r,f,k⟩:=I.list d;refine SeqAt.in_listAt (T5 x) f.isList (λw e=>F6 j i r fs w (by simpa using e)) ⟨.bl _,H,I,rfl,?_⟩;rw[show c.toArray.any (T5 x)=c.any (T5 x) by simp,IG r fs];exact q
 ·obtain⟨c,r,f,k⟩:=I.tuple d;refine SeqAt.in_tupleAt (T5 x) f (λw e=>F6 j i r fs w (by simpa using e)) ⟨.bl _,H,I,rfl,?_⟩;rw[show c.toArray.any (T5 x)=c.any (T5 x) by simp,IG r fs];exact q
theorem uC:X2 X (compareOp .NotIn) (Kf X.K true):=by
 intro g s σ H x y v u Q I j l h;obtain⟨p,m,rfl,d,i,fs,q⟩:=h;cases l;rcases d with d|d
 ·obtain⟨c,r,f,k⟩:=I.list d;refine SeqAt.notIn_listAt (T5 x) f.isList (λw e=>F6 j i r fs w (by simpa using e)) ⟨.bl _,H,I,rfl,?_⟩;rw[show c.toArray.any (T5 x)=c.any (T5 x) by simp,IG r fs];exact q
 ·obtain⟨c,r,f,k⟩:=I.tuple d;refine SeqAt.notIn_tupleAt (T5 x) f (λw e=>F6 j i r fs w (by simpa using e)) ⟨.bl _,H,I,rfl,?_⟩;rw[show c.toArray.any (T5 x)=c.any (T5 x) by simp,IG r fs];exact q
theorem w6:YQ X (.type "list") (λC H Q=>∃p f,C=[.ref p]/\(YK X.K H p f\/Yh X.K H p f)/\∀l,H l=none->Q (.ref l) (upd H l (.lst f))):=by
 intro m s σ H C F Q I r h;obtain⟨p,f,rfl,x,q⟩:=h;obtain⟨u,rfl,E⟩:=U3 r;cases E
 have k:∀(c:List Value),ZJ f c->f.length<=qa->∀(d:Heap)(g:Nat),(∀b D,s.heap.get? b=some D->d.get? b=some D)->
   d.get? s.heap.objs.size=some {cls:=.type "list",dict:=none,data:=.seq c.toArray g,slots:=#[]}->EP X m σ Q (.ref s.heap.objs.size) {s with heap:=d}:=λc i j d g v e=>
  ⟨.ref s.heap.objs.size,_,I.laid (t':=s.toks) v (qM _) (show XE X.prog X.w _ d _ (.lst f)from⟨j,c,g,i,e⟩),rfl,q _ (I.hok.fresh (qM _))⟩
 rcases x with x|x
 ·obtain⟨c,i,y,j⟩:=I.list x;have t:=i.length;obtain⟨o,A,z,n,B⟩:=y.isList;exact call_list_seq p (.inl rfl) A z B (λd g v e=>k c i j d g v e) (by simp only[qO]<;>omega)
 ·obtain⟨c,i,y,j⟩:=I.tuple x;have t:=i.length;obtain⟨o,A,z,n,B⟩:=y;exact call_list_seq p (.inr rfl) A z B (λd g v e=>k c i j d g v e) (by simp only[qO]<;>omega)
theorem iM:YQ X (.type "tuple") (λm H Q=>∃p f,m=[.ref p]/\((YK X.K H p f/\∀l,H l=none->Q (.ref l) (upd H l (.tup f)))\/(Yh X.K H p f/\Q (.ref p) H))):=by
 intro c s σ H m A Q I r h;obtain⟨p,f,rfl,h⟩:=h;obtain⟨u,rfl,z⟩:=U3 r;cases z;rcases h with⟨j,q⟩|⟨j,q⟩
 ·obtain⟨d,i,k,n⟩:=I.list j;have t:=i.length;refine call_tuple_list k.isList (λg y=>?_) (by simp only[qO]<;>omega);have v:Inv X c σ H {s with heap:=g}:=I.kept (t':=s.toks) y
  have x:Inv X c σ (upd H g.objs.size (.tup f)) {s with heap:=g.push {cls:=.type "tuple",data:=.seq d.toArray}}:=
   v.laid (t':=s.toks) (λb o e=>qE _ e) (qM _) (show XE X.prog X.w _ _ _ (.tup f)from⟨n,d,i,IsTup.new _ _⟩)
  exact⟨.ref g.objs.size,_,x,rfl,q _ (v.hok.fresh (qM _))⟩
 ·obtain⟨d,i,k,n⟩:=I.tuple j;exact call_tuple_same k ⟨.ref p,H,I,rfl,q⟩
def tL(K:qC)(T:String)(x:V)(H:Hp):Prop:=match x with
 | .str _=>T="str"
 | .int _=>T="int"
 | .ref p=>(T="list"/\∃d,YK K H p d)\/(T="tuple"/\∃o,K.lookup p=some o/\o.cls=.type "tuple"/\o.dict=none)\/
   (T="dict"/\((∃c,H p=some (.dK c))\/∃c,H p=some (.dT c)))\/(T="set"/\∃S n,H p=some (.set S n))
 | _=>False
theorem Gc{s:Shared}(I:Inv X k σ H s)(r:ZF x v)(f:tL X.K T x H) :
  s.TypeIs v T/\∀a,v=.ref a->∃l,s.heap.get? a=some l/\l.dict=none:=by
 cases x with
 | str z=>
  obtain⟨t,rfl⟩:=r;cases(show T="str"from f);exact⟨typeIs_str s z t,λ_ e=>nomatch e⟩
 | int i=>
  obtain⟨t,rfl⟩:=r;cases(show T="int"from f);exact⟨typeIs_int s i t,λ_ e=>nomatch e⟩
 | ref p=>
  cases r;rcases f with⟨rfl,y,w⟩|⟨rfl,o,d,u,j⟩|⟨rfl,d⟩|⟨rfl,S,n,d⟩
  ·obtain⟨q,_,m,_⟩:=I.list w;refine⟨m.isList.typeIs,λa e=>?_⟩;cases e;obtain⟨o,n,e,c,j,_⟩:=m;exact⟨o,e,j⟩
  ·refine⟨⟨o,I.kIn p o d,u⟩,λa e=>?_⟩;cases e;exact⟨o,I.kIn _ o d,j⟩
  ·have z:∃o,s.heap.get? p=some o/\o.ExactDict:=by
    rcases d with⟨g,d⟩|⟨g,d⟩
    ·obtain⟨_,_,_,_,o,_,_,e,ex,_⟩:=I.hok p _ d;exact⟨o,e,ex⟩
    ·obtain⟨_,_,_,_,o,_,_,e,ex,_⟩:=I.hok p _ d;exact⟨o,e,ex⟩
   obtain⟨o,e,ex⟩:=z;refine⟨⟨o,e,ex.1⟩,λa h=>?_⟩;cases h;exact⟨o,e,ex.2.1⟩
  ·obtain⟨o,_,_,_,e,ex,_⟩:=I.hok p _ d;refine⟨⟨o,e,ex.1⟩,λa h=>?_⟩;cases h;exact⟨o,e,ex.2.1⟩
 | _=>exact False.elim f
def Qb(K:qC)(T:String)(r:V->List V->Hp->VK->Prop)(d:TE):TE:=λσ H Q=>d σ H λx c=>tL K T x c/\r x [] c Q
def QD(K:qC)(T:String)(r:V->List V->Hp->VK->Prop)(f:TE)(t:TA):TE:=λσ H Q=>f σ H λx c=>tL K T x c/\t σ c λd e=>r x d e Q
variable{o e:Expr}{es:List Expr}{to:TE}{t:TA}{name:Str}{apos cpos:Pos}{T id:String}{r:V->List V->Hp->VK->Prop}
theorem xY(j:PlainAttrs T)(g:Slot T name id)(i:typeOf (.builtin id)=pure (.type "method_descriptor"))(k:Lf X id r)(l:PE X o to)
  (d:attributeBase o name X.env (eval o X.env)=eval o X.env:=by rfl) (f:(apos.endLine==cpos.line)=true:=by rfl):PE X (.Call (.Attribute o name apos) [] [] cpos) (Qb X.K T r to):=by
 intro c s σ H Q I h;refine wpAny_Call_method0_late d f (thn (l c s σ H _ I h) λv s1 ⟨x,H1,I1,r1,ty,q1⟩=>?_);obtain⟨m,n⟩:=Gc I1 r1 ty;exact⟨T,id,j,g,i,m,n,tO rfl (PySem.evalArgs_none (k c s1 σ H1 x [] v [] Q I1 r1 .nil q1))⟩
theorem vX(n:PlainAttrs T)(j:Slot T name id)(k:typeOf (.builtin id)=pure (.type "method_descriptor"))(p:Lf X id r)(u:PE X o to)(m:PA X (e::es) t)
  (f:attributeBase o name X.env (eval o X.env)=eval o X.env:=by rfl)
  (i:((backTo cpos (starEach (e::es) X.env)).all (λx=>!x.1)&&(backToKw cpos (keywordEach [] X.env)).all (λx=>x.1.isSome)
   && decide ((e::es).length+([]:List Keyword).length+(if([]:List Keyword).isEmpty then 0 else 1)<30))=true:=by rfl)
  (g:(apos.endLine==cpos.line)=true:=by rfl)(q:starEach (e::es) X.env=(false,eval e X.env)::starEach es X.env:=by rfl)(d:(backTo cpos (starEach es X.env)).any (·.1)=false:=by rfl) :
  PE X (.Call (.Attribute o name apos) (e::es) [] cpos) (QD X.K T r to t):=by
 intro c s σ H Q I h;refine wpAny_Call_method_late f i g rfl (thn (u c s σ H _ I h) λv s1 ⟨x,H1,I1,r1,ty,q1⟩=>?_);obtain⟨w,y⟩:=Gc I1 r1 ty;refine⟨T,id,n,j,k,w,y,?_⟩;have l:=m cpos c s1 σ H1 _ I1 q1;rw[q]at l ⊢;refine tO (by show(false||(backTo cpos (starEach es X.env)).any (·.1))=false;rw[d]<;>rfl) (mY ?_);exact thn l λus s2 ⟨vs,H2,I2,r2,q2⟩=>p c s2 σ H2 x vs v us Q I2 r1 r2 q2
end
def KG(X:Cx)(d:String)(r:V->List V->Hp->VK->Prop):Prop:=
 ∀(a:List (Addr×Obj))(s:Shared)(σ:St)(H:Hp)(x:V)(b:List V)(v:Value)(c:List Value)(Q:VK),Inv X a σ H s->ZF x v->ZJ b c->r x b H Q->
  wpAny (model X.prog X.w) X.A (call (.builtin d) (v::c)) (EP X a σ Q) X.xe s
theorem ZJ.one:∀{x:V}{a:List Value},ZJ [x] a->∃u,a=[u]/\ZF x u
 | _,_,.cons r .nil=>⟨_,rfl,r⟩
theorem ZJ.zero:∀{a:List Value},ZJ [] a->a=[]
 | _,.nil=>rfl
theorem ZJ.dropLast{a:List V}{b:List Value}(h:ZJ a b):ZJ a.dropLast b.dropLast:=by
 induction h with
 | nil=>exact .nil
 | cons r t c=>
  cases t with
  | nil=>exact .nil
  | cons q d=>exact .cons r c
theorem ZJ.eraseIdx:∀{a:List V}{b:List Value}(i:Nat),ZJ a b->ZJ (a.eraseIdx i) (b.eraseIdx i)
 | _,_,_,.nil=>.nil
 | _,_,0,.cons _ t=>t
 | _,_,i+1,.cons r t=>.cons r (ZJ.eraseIdx i t)
theorem ZJ.reverse{xs:List V}{a:List Value}(h:ZJ xs a):ZJ xs.reverse a.reverse:=by
 induction h with
 | nil=>exact .nil
 | cons r t b=>rw[CB,CB];exact ZJ.append b (.cons r .nil)
theorem vO(l:List α):l.eraseIdx (l.length - 1)=l.dropLast:=by
 induction l with
 | nil=>rfl
 | cons a r c=>
  cases r with
  | nil=>rfl
  | cons b r=>
   have e:(a::b::r).length - 1=((b::r).length - 1)+1:=by
    have f:(a::b::r).length=r.length+2:=rfl;have d:(b::r).length=r.length+1:=rfl;omega
   rw[e,List.eraseIdx_cons_succ,c]
   all_goals rfl
theorem IJ:∀(l:List α)(i:Nat),(l.eraseIdx i).length<=l.length
 | [],_=>qM _
 | _::_,0=>Cw _
 | _::r,i+1=>Nat.succ_le_succ (IJ r i)
section
variable{X:Cx}{pins:List (Addr×Obj)}{σ:St}{H:Hp}{s:Shared}{l b:Addr}{xs ys zs:List V}
theorem Inv.lset{a its':List Value}{f:Array Value->Array Value}(I:Inv X pins σ H s)(c:H l=some (.lst xs))
  (e:s.heap.get? l=some {cls:=.type "list",data:=.seq a.toArray n}) (h:f a.toArray=its'.toArray) (j:ZJ ys its') (d:ys.length<=qa) :
  Inv X pins σ (upd H l (.lst ys)) {s with heap:=s.heap.update l (Obj.mapSeq f),toks:=k}:=by
 have q:=PySem.IsL.update e f;rw[h]at q;refine I.write (x:=l) (e:=l) (by rw[c];exact trivial) (.inl rfl) (λm u i g=>(P5 s.heap (Obj.mapSeq f) (Xs i)).trans g) ⟨_,q⟩ ?_;exact⟨d,its',_,j,q⟩
theorem Inv.lnew{a:List Value}(I:Inv X pins σ H s)(c:ZJ ys a)(d:ys.length<=qa) :
  Inv X pins σ (upd H s.heap.objs.size (.lst ys)) {s with heap:=s.heap.push {cls:=.type "list",data:=.seq a.toArray},toks:=t'}:=
 I.laid (λ_ _ q=>qE _ q) (qM _) ⟨d,a,0,c,qd _ rfl⟩
theorem Inv.fresh(I:Inv X pins σ H s):H s.heap.objs.size=none:=I.hok.fresh (qM _)
theorem Inv.lstM(I:Inv X pins σ H s)(c:H l=some (.lst xs)):xs.length<=qa/\∃(a:List Value)(n:Nat),ZJ xs a/\xs.length=a.length/\s.heap.get? l=some {cls:=.type "list",data:=.seq a.toArray n}:=by
 obtain⟨z,a,n,r,e⟩:=I.hok l _ c;exact⟨z,a,n,r,r.length,e⟩
theorem rH(h:n<=qa):Builtin.List.listTooLong n=false:=by
 unfold Builtin.List.listTooLong;exact decide_eq_false (by omega)
end
section
variable{X:Cx}
def KI:V->List V->Hp->VK->Prop:=λx vs H Q=>∃l a y,x=.ref l/\vs=[y]/\H l=some (.lst a)/\a.length<qa/\Q .non (upd H l (.lst (a++[y])))
theorem Wa:KG X "list.append" KI:=by
 intro c s σ H x vs v k Q I g d h;obtain⟨l,i,y,rfl,rfl,b,j,q⟩:=h;cases g;obtain⟨u,rfl,f⟩:=d.one;obtain⟨z,a,n,r,m,e⟩:=I.lstM b;refine KZ F.slot_list_append ⟨_,e,rfl⟩ F.entry_list_append (F.args_list_append_2 _ _) (PySem.list_append l a.toArray n u (by rw[qO];omega)) ⟨e,?_⟩;refine⟨.non,_,I.lset (its':=a++[u]) b e (by simp) (r.append (.cons f .nil)) ?_,rfl,q⟩;rw[qU,yR];omega
def tM:V->List V->Hp->VK->Prop:=λx vs H Q=>∃l b a c,x=.ref l/\vs=[.ref b]/\H l=some (.lst a)/\H b=some (.lst c)/\a.length+c.length<=qa/\Q .non (upd H l (.lst (a++c)))
theorem iV:KG X "list.extend" tM:=by
 intro i s σ H x vs v G Q I w j h;obtain⟨l,b,B,D,rfl,rfl,g,m,A,q⟩:=h;cases w;obtain⟨u,rfl,o⟩:=j.one;cases o;obtain⟨z,c,n,r,E,e⟩:=I.lstM g;obtain⟨C,a,k,y,p,t⟩:=I.lstM m;have f:c.toArray.size+a.toArray.size<=qa:=by rw[qO,qO];omega
 have d:¬(!c.toArray.isEmpty&&Builtin.List.listTooLong (c.toArray.size+a.toArray.size))=true:=by
  rw[rH f,Bool.and_false];exact qQ
 refine KZ F.slot_list_extend ⟨_,e,rfl⟩ F.entry_list_extend (F.args_list_extend_2 _ _)
  (AutoSeq1.list_extend_list_list_0 l c.toArray n b a.toArray k d (by rw[qO];omega) (by omega)) ⟨e,t,?_⟩
 refine⟨.non,_,I.lset (its':=c++a) g e (by simp) (r.append y) ?_,rfl,q⟩;rw[qU];omega
def v8:V->List V->Hp->VK->Prop:=λx vs H Q=>∃l a y,x=.ref l/\vs=[]/\H l=some (.lst a)/\a[a.length - 1]?=some y/\Q y (upd H l (.lst a.dropLast))
theorem iD:KG X "list.pop" v8:=by
 intro f s σ H x vs v t Q I m g h;obtain⟨l,p,y,rfl,rfl,d,o,q⟩:=h;cases m;have c:=g.zero;subst c;obtain⟨z,a,n,r,j,e⟩:=I.lstM d;obtain⟨u,i,k⟩:=r.get o
 have b:a.toArray[a.toArray.size - 1]?=some u:=by
  show a.toArray[a.length - 1]?=some u;rw[<- lO,<- j];exact i
 refine KZ F.slot_list_pop ⟨_,e,rfl⟩ F.entry_list_pop (F.args_list_pop_1 _) (MeetsSeq.list_pop_last l a.toArray n u b (by rw[qO];omega)) ⟨e,?_⟩;refine⟨y,_,I.lset (its':=a.dropLast) d e ?_ r.dropLast ?_,k,q⟩
 ·show a.toArray.eraseIdxIfInBounds (a.toArray.size - 1)=a.dropLast.toArray;rw[qO,mN,vO]
 ·rw[lX];omega
def Jq:V->List V->Hp->VK->Prop:=λx vs H Q=>∃l a i k y,x=.ref l/\vs=[.int i]/\H l=some (.lst a)/\-(2 ^ 63)<=i/\i<2 ^ 63/\seqIndex? i a.length=some k/\a[k]?=some y/\Q y (upd H l (.lst (a.eraseIdx k)))
theorem sT:KG X "list.pop" Jq:=by
 intro d s σ H x vs v E Q I p g h;obtain⟨l,f,i,k,y,rfl,rfl,c,o,A,D,C,q⟩:=h;cases p;obtain⟨u,rfl,m⟩:=g.one;obtain⟨t,rfl⟩:=m;obtain⟨z,a,n,r,j,e⟩:=I.lstM c;obtain⟨w,B,b⟩:=r.get C
 refine KZ F.slot_list_pop ⟨_,e,rfl⟩ F.entry_list_pop (F.args_list_pop_2 _ _)
  (MeetsSeq.list_pop_at l a.toArray n i t k w (fitsIndex_both o A) (by rw[qO,<- j];exact D) (by rw[<- lO];exact B) (by rw[qO];omega)) ⟨e,?_⟩
 refine⟨y,_,I.lset (its':=a.eraseIdx k) c e ?_ (r.eraseIdx k) ?_,b,q⟩
 ·show a.toArray.eraseIdxIfInBounds k=(a.eraseIdx k).toArray;rw[mN]
 ·have:=IJ f k;omega
def F5:V->List V->Hp->VK->Prop:=λx vs H Q=>∃l a,x=.ref l/\vs=[]/\H l=some (.lst a)/\Q .non (upd H l (.lst a.reverse))
theorem yM:KG X "list.reverse" F5:=by
 intro d s σ H x vs v j Q I g f h;obtain⟨l,i,rfl,rfl,c,q⟩:=h;cases g;have b:=f.zero;subst b;obtain⟨z,a,n,r,k,e⟩:=I.lstM c;refine KZ F.slot_list_reverse ⟨_,e,rfl⟩ F.entry_list_reverse (F.args_list_reverse_1 _) (AutoSeq1.list_reverse_list_0 l a.toArray n (by rw[qO];omega)) ⟨e,?_⟩;refine⟨.non,_,I.lset (its':=a.reverse) c e (by simp) r.reverse ?_,rfl,q⟩;rw[lc];omega
def IU:R2:=λx y H Q=>∃l b a c,x=.ref l/\y=.ref b/\H l=some (.lst a)/\H b=some (.lst c)/\a.length+c.length<=qa/\∀p,H p=none->Q (.ref p) (upd H p (.lst (a++c)))
theorem ua:X2 X (binaryOp .Add) IU:=by
 intro d s σ H x y v u Q I o m h;obtain⟨l,b,t,D,rfl,rfl,f,g,A,q⟩:=h;cases o;cases m;obtain⟨z,c,n,r,C,e⟩:=I.lstM f;obtain⟨B,a,w,k,p,i⟩:=I.lstM g;refine PySem.P.add_list e i ?_ (by rw[qO,qO];omega);have j:c.toArray++a.toArray=(c++a).toArray:=by simp
 rw[j];exact⟨.ref _,_,I.lnew (t':=s.toks) (r.append k) (by rw[qU];omega),rfl,q _ I.fresh⟩
end
section
variable{prog:Program}{w:World}{A:Around}{E:Value->Shared->Prop}{s:Shared}
set_option maxRecDepth 100000 in
end
section
variable{κ:Type}[DecidableEq κ]
def Xc(a:List (κ×V))(k:κ):Option V:=(a.find? λb=>decide (b.1=k)).map (·.2)
def XR(a:List (κ×V))(k:κ)(v:V):List (κ×V):=
 if(a.any λb=>decide (b.1=k))=true then a.map (λb=>if b.1=k then(b.1,v)else b)else a++[(k,v)]
theorem CU{p:κ×V}(e:p.1=k):Xc (p::r) k=some p.2:=by simp[Xc,N6,e]
theorem DC{p:κ×V}(e:¬p.1=k):Xc (p::r) k=Xc r k:=by simp[Xc,N6,e]
theorem Fg(k:κ):∀a:List (κ×V),(a.any λb=>decide (b.1=k))=(Xc a k).isSome
 | []=>rfl
 | p::r=>by
  rw[Qx];by_cases e:p.1=k
  ·simp only[CU e,decide_eq_true e,Bool.true_or,mG]
  ·rw[DC e,decide_eq_false e,CP];exact Fg k r
theorem oC(a:List (κ×V))(k:κ)(v:V):(XR a k v).length<=a.length+1:=by
 unfold XR;split
 ·rw[qD];omega
 ·rw[qU,qu,N8];omega
theorem WC.isSome_eq{o:Option V}{u:Option Value}(r:WC o u):o.isSome=u.isSome:=by
 cases o with
 | none=>cases u with
  | none=>rfl
  | some _=>exact(show False from r).elim
 | some _=>cases u with
  | none=>exact(show False from r).elim
  | some _=>rfl
theorem KV.val(r:KV a vs)(k:κ):WC (Xc a k) (valueAt vs k):=by
 unfold KV at r
 induction r with
 | nil=>exact True.intro
 | @cons p q j d h t g=>
  obtain⟨f,i⟩:=h;by_cases e:p.1=k
  ·have c:q.1=k:=f.symm.trans e;have b:valueAt (q::d) k=some q.2:=by simp[valueAt,N6,c]
   rw[CU e,b];exact i
  ·have c:¬q.1=k:=λz=>e (f.trans z);have b:valueAt (q::d) k=valueAt d k:=by simp[valueAt,N6,c]
   rw[DC e,b];exact g
theorem KV.any{a:List (κ×V)}{vs:List (κ×Value)}(r:KV a vs)(k:κ):(a.any λb=>decide (b.1=k))=vs.any λb=>decide (b.1=k):=by
 unfold KV at r
 induction r with
 | nil=>rfl
 | cons h t c=>rw[Qx,Qx,c,h.1]
theorem KV.repl{b:List (κ×V)}{vs:List (κ×Value)}(r:KV b vs)(k:κ)(d:ZF y u) :
  KV (b.map λa=>if a.1=k then(a.1,y)else a) (vs.map λa=>if a.1=k then(a.1,u)else a):=by
 unfold KV at r ⊢
 induction r with
 | nil=>exact .nil
 | @cons p q i j h t f=>
  rw[qL,qL];refine .cons ?_ f;obtain⟨c,g⟩:=h;by_cases e:p.1=k
  ·rw[if_pos e,if_pos (c.symm.trans e)];exact⟨c,d⟩
  ·rw[if_neg e,if_neg (λz=>e (c.trans z))];exact⟨c,g⟩
theorem KV.put(r:KV a vs)(k:κ)(b:ZF y u):KV (XR a k y) (stored vs k u):=by
 unfold XR stored;rw[r.any k];by_cases e:(vs.any λc=>decide (c.1=k))=true
 ·rw[if_pos e,if_pos e];exact r.repl k b
 ·rw[if_neg e,if_neg e];exact Paired.snoc r ⟨rfl,b⟩
theorem KV.length{kvs:List (κ×V)}{vs:List (κ×Value)}(r:KV kvs vs):kvs.length=vs.length:=Dh r
end
theorem SK(r:ZF (kV k) u):(Wv P w).is k u=true:=by
 cases k with
 | inl i=>obtain⟨t,e⟩:=(show ∃t,u=Value.int i t from r);subst e;exact Ad P w i t
 | inr x=>obtain⟨t,e⟩:=(show ∃t,u=Value.str x t from r);subst e;exact BP P w x t
theorem Ia:∀{a:List Y7}{b:List Value},ZJ (a.map kV) b->ItemsAre (Wv P w) a b
 | [],_,r=>by rw[Oa]at r;cases r;exact .nil
 | k::a,_,r=>by
  rw[qL]at r
  cases r with
  | cons h t=>exact .cons (SK h) (Ia t)
abbrev KT(H:Hp):List (List Y7×V)->List (List Y7×Addr×Value)->Prop:=Paired λp q=>p.1=q.1/\H q.2.1=some (.tup (p.1.map kV))/\ZF p.2 q.2.2
theorem KT.val(r:KT H a g)(k:List Y7):WC (Xc a k) ((atKey g k).map (·.2)):=by
 induction r with
 | nil=>exact True.intro
 | @cons p q l d h t i=>
  obtain⟨f,_,j⟩:=h;by_cases e:p.1=k
  ·have c:q.1=k:=f.symm.trans e;have b:atKey (q::d) k=some q.2:=by simp[atKey,N6,c]
   rw[CU e,b];exact j
  ·have c:¬q.1=k:=λz=>e (f.trans z);have b:atKey (q::d) k=atKey d k:=by simp[atKey,N6,c]
   rw[DC e,b];exact i
theorem KT.repl{a:List (List Y7×V)}{d:List (List Y7×Addr×Value)}(r:KT H a d)(k:List Y7)(j:ZF y u) :
  KT H (a.map λc=>if c.1=k then(c.1,y)else c) (d.map (putAt k u)):=by
 induction r with
 | nil=>exact .nil
 | @cons p q m l h t g=>
  rw[qL,qL];refine .cons ?_ g;obtain⟨b,f,i⟩:=h;unfold putAt;by_cases e:p.1=k
  ·rw[if_pos e,if_pos (b.symm.trans e)];exact⟨b,f,j⟩
  ·rw[if_neg e,if_neg (λz=>e (b.trans z))];exact⟨b,f,i⟩
theorem KT.put(r:KT H a c)(k:List Y7)(g:H b=some (.tup (k.map kV)))(d:ZF y u) :
  KT H (XR a k y) (storedH c k b u):=by
 have e:(a.any λf=>decide (f.1=k))=(atKey c k).isSome:=by
  rw[Fg,(r.val k).isSome_eq,kt]
 unfold XR storedH;rw[e];by_cases q:(atKey c k).isSome=true
 ·rw[if_pos q,if_pos q];exact r.repl k d
 ·rw[if_neg q,if_neg q];exact Paired.snoc r ⟨rfl,g,d⟩
theorem KT.keeps(r:KT H a d)(f:∀b c,H b=some (.tup c)->e b=some (.tup c)):KT e a d:=
 Paired.mapP r λ_ _ z=>⟨z.1,f _ _ z.2.1,z.2.2⟩
section
variable{P:Program}{w:World}{H:Hp}{h:Heap}{a:Addr}
theorem EO(ok:Yt P w H h)(e:Rd H a u):XE P w H h a u:=e.ok ok
theorem Pw{b:List (Y7×V)}(ok:Yt P w H h)(e:Rd H a (.dK b)):b.length<=qa/\(a==sysModules)=false/\∃vs,KV b vs/\h.DictOf (Wv P w) a vs:=
 show XE P w H h a (.dK b)from EO ok e
theorem Qq{b:List (Y7×V)}(ok:Yt P w H h)(e:H a=some (.dK b)):b.length<=qa/\(a==sysModules)=false/\∃vs,KV b vs/\h.DictOf (Wv P w) a vs:=Pw ok (.inl e)
theorem PU{c:List Y7}(ok:Yt P w H h)(e:H a=some (.tup (c.map kV))):(tupleKind (Wv P w)).is h c a:=by
 obtain⟨_,b,r,o,f,g,n,d⟩:=(show XE P w H h a (.tup (c.map kV))from ok a _ e);exact⟨o,b.toArray,n,f,g,d,by simpa using Ia r⟩
theorem Qp{b:List (List Y7×V)}(ok:Yt P w H h)(e:Rd H a (.dT b)):b.length<=qa/\(a==sysModules)=false/\
  ∃d,KT H b d/\h.DictOfH (tupleKind (Wv P w)) a d:=by
 obtain⟨z,y,d,r,o,n,v,s,u,k,g,i⟩:=(show XE P w H h a (.dT b)from EO ok e);refine⟨z,y,d,r,o,n,v,s,u,k,g,λx c=>?_,i⟩
 have all:∀{l:List (List Y7×V)}{m:List (List Y7×Addr×Value)},KT H l m->∀x∈m,(tupleKind (Wv P w)).is h x.1 x.2.1:=by
  intro l m q
  induction q with
  | nil=>intro x c;exact nomatch c
  | @cons p q B A f t j=>
   intro x c;rcases qN.mp c with e|c
   ·subst e;exact PU ok (by rw[<- f.1];exact f.2.1)
   ·exact j x c
 exact all r x c
theorem BQ{b:List (List Y7×V)}(ok:Yt P w H h)(e:H a=some (.dT b)):b.length<=qa/\(a==sysModules)=false/\
  ∃c,KT H b c/\h.DictOfH (tupleKind (Wv P w)) a c:=Qp ok (.inl e)
end
def VW(H:Hp)(a:Addr)(y:V)(r:Option V):Prop:=
 (∃c k,Rd H a (.dK c)/\y=kV k/\r=Xc c k)\/∃c k b,Rd H a (.dT c)/\y=.ref b/\H b=some (.tup (k.map kV))/\r=Xc c k
def RH(H:Hp)(a:Addr)(y v:V)(d:Hp):Prop:=
 (∃c k,H a=some (.dK c)/\y=kV k/\c.length<qa/\d=upd H a (.dK (XR c k v)))\/
 ∃c k b,H a=some (.dT c)/\y=.ref b/\H b=some (.tup (k.map kV))/\c.length<qa/\d=upd H a (.dT (XR c k v))
theorem VW.k{H:Hp}{a:Addr}{kvs:List (Y7×V)}{k:Y7}(e:H a=some (.dK kvs)):VW H a (kV k) (Xc kvs k):=.inl ⟨kvs,k,.inl e,rfl,rfl⟩
theorem RH.k{H:Hp}{a:Addr}{kvs:List (Y7×V)}{k:Y7}{v:V}(e:H a=some (.dK kvs))(b:kvs.length<qa):RH H a (kV k) v (upd H a (.dK (XR kvs k v))):=.inl ⟨kvs,k,e,rfl,b,rfl⟩
section
variable{X:Cx}{pins:List (Addr×Obj)}{σ:St}{H:Hp}{s:Shared}{a:Addr}{y v:V}{u r:Value}{o:Option V}{A:Around}{E:Value->Shared->Prop}
theorem Inv.big(I:Inv X pins σ H s):sysModules<s.heap.objs.size:=by
 have h:qy<s.heap.objs.size:=(I.mod.glob.keeps I.bk).lt;exact CL (by decide) h
theorem nD{Q:Value->Shared->Prop}(D:A.units+1<cLine)(I:Inv X pins σ H s)(g:VW H a y (some v))(x:ZF y u)(h:∀f t,Inv X pins σ H t->ZF v f->Q f t) :
  wpAny (model X.prog X.w) A (getItem (.ref a) u) Q E s:=by
 rcases g with⟨i,k,e,m,l⟩|⟨i,k,b,e,m,G,l⟩
 ·subst m;obtain⟨z,C,vs,d,j⟩:=Pw I.hok e;obtain⟨f,q,c⟩:=WC.some_of (v:=v) (o:=valueAt vs k) (by rw[l];exact d.val k);exact wpAny_getItem_of (SK x) j.mapOf q (h f _ (I.tok _) c)
 ·subst m;cases(show u=Value.ref b from x);obtain⟨z,C,B,d,j⟩:=Qp I.hok e;obtain⟨f,q,c⟩:=WC.some_of (v:=v) (o:=(atKey B k).map (·.2)) (by rw[l];exact d.val k);obtain⟨p,F,n⟩:=qG.mp q;refine wpAny_getItem_heap (tP D) (PU I.hok G) j F ?_;rw[n];exact h f _ (I.tok _) c
theorem Bi{Q:Value->Shared->Prop}(p:A.units+1<cLine)(I:Inv X pins σ H s)(g:VW H a y o)(n:ZF y u)(h:∀m,Inv X pins σ H m->Q (.bool o.isSome) m) :
  wpAny (model X.prog X.w) A (compareOp .In u (.ref a)) Q E s:=by
 rcases g with⟨f,k,e,j,l⟩|⟨f,k,b,e,j,t,l⟩
 ·subst j;obtain⟨z,d,vs,c,i⟩:=Pw I.hok e;refine wpAny_in_of (SK n) d i.mapOf ?_;rw[<- (c.val k).isSome_eq,<- l];exact h _ (I.tok _)
 ·subst j;cases(show u=Value.ref b from n);obtain⟨z,d,x,c,i⟩:=Qp I.hok e;refine wpAny_in_heap (tP p) (PU I.hok t) d i ?_;have q:=(c.val k).isSome_eq;rw[kt]at q;rw[<- q,<- l];exact h _ (I.tok _)
theorem DR{h':Heap}(I:Inv X pins σ H s)(h:Fc (H a))(d:Heap.SameBut a s.heap h')(g:∃q,h'.get? a=some q)(new:XE X.prog X.w (upd H a c) h' a c) :
  Inv X pins σ (upd H a c) {s with heap:=h',toks:=t'}:=
 I.write (x:=a) (e:=a) h (.inl rfl) (λb q f z=>(d.2 b f).trans z) g new
theorem OW{h':Heap}{b:List (Y7×V)}(z:b.length<=qa)(e:(a==sysModules)=false)(c:KV b vs)(d:h'.DictOf (Wv P w) a vs) :
  XE P w f h' a (.dK b):=⟨z,e,vs,c,d⟩
theorem ud{Q:Unit->Shared->Prop}(N:A.units+1<cLine)(I:Inv X pins σ H s)(g:RH H a y v P)(F:ZF y u)(D:ZF v r)(h:∀L,Inv X pins σ P L->Q () L) :
  wpAny (model X.prog X.w) A (setItem (.ref a) u r) Q E s:=by
 rcases g with⟨f,k,e,t,l,p⟩|⟨f,k,b,e,t,J,l,p⟩
 ·subst t p;obtain⟨z,B,vs,d,m⟩:=Qq I.hok e;have n:vs.length<=qa:=by rw[<- d.length];exact z
  have x:(XR f k v).length<=qa:=by have:=oC f k v;omega
  refine wpAny_setItem_pairs (hsz:=n) (SK F) m λG i C=>h _ ?_;have O:∃q,G.get? a=some q:=let⟨q,_,_,j,_⟩:=i;⟨q,j⟩;exact DR I (by rw[e];exact True.intro) C O (OW x B (d.put k D) i)
 ·subst t p;cases(show u=Value.ref b from F);obtain⟨z,B,T,d,m⟩:=BQ I.hok e;have n:T.length<=qa:=by rw[<- Dh d];exact z
  have x:(XR f k v).length<=qa:=by have:=oC f k v;omega
  refine wpAny_setItem_heap (hsz:=n) (tP N) (PU I.hok J) m λG i C=>h _ ?_;obtain⟨q,Y,S,j,R,W,U,_,Z⟩:=i;refine DR I (by rw[e];exact True.intro) C ⟨q,j⟩ ⟨x,B,_,(d.put k J D).keeps λc ys M=>?_,q,Y,S,j,R,W,U,Z⟩;rw[Y0 (xS M e (λz=>nomatch z))];exact M
end
def LP(i:Expr):Prop:=∀a b,subscripted i false a b=operate [a,b] (getItem a b)
theorem pA{a:Program}{w:World}{A:Around}{E:Value->Shared->Prop}{s:Shared}{g:Env}{b slice:Expr}{m:Pos}{T t:String}{Q:Value->Shared->Prop}
  (q:typeLookup (.type T) "__getitem__"=pure (some (.builtin t)))(p:LP slice)
  (h:wpAny (model a w) A (eval b g) (λo f=>wpAny (model a w) A (eval slice g) (λi c=>c.TypeIs o T/\wpAny (model a w) A (getItem o i) Q E c) E f) E s) :
  wpAny (model a w) A (eval (.Subscript b slice m) g) Q E s:=by
 refine Subscript_ (TJ h (λo f l=>TJ l (λi c d=>?_) λ_ _ x=>x) λ_ _ x=>x);obtain⟨n,d⟩:=d;unfold subscriptTail;refine qF ?_;rw[getitemInPython_of_ne n.not_modules];refine qF (wpAny_specialOf n q ?_)
 have j:wpAny (model a w) A (subscripted slice false o i) (λr e=>wpAny (model a w) A (letTemporaryGo b o r >>=λ_=>pure r) Q E e) E c:=by
  rw[p o i];exact wpAny_operating (TJ d (λr e k=>qF (wpAny_letTemporaryGo (qV k))) λ_ _ x=>x)
 first
  | exact qV (qF j)
  | exact qF (qV (qF j))
  | exact qF j
theorem wM{s:Shared}(I:Inv X f σ H s)(g:VW H a y o):s.TypeIs (.ref a) "dict":=by
 rcases g with⟨d,k,e,_,_⟩|⟨d,k,b,e,_,_,_⟩
 ·obtain⟨_,_,vs,_,c⟩:=Pw I.hok e;exact c.typeIs
 ·obtain⟨_,_,h,_,c⟩:=Qp I.hok e;exact c.typeIs
def VN(d e:TE):TE:=λσ H Q=>d σ H λx c=>e σ c λy b=>∃a v,x=.ref a/\VW b a y (some v)/\Q v b
def PR(e d:TE):TE:=λσ H Q=>e σ H λy c=>d σ c λx b=>∃a o,x=.ref a/\VW b a y o/\Q (.bl o.isSome) b
def RW(g f h:TE):TS:=λD σ H=>h σ H λv d=>g σ d λx c=>f σ c λy e=>∃a b,x=.ref a/\RH e a y v b/\D.nx σ b
section
variable{X:Cx}{o i e value:Expr}{pos pos' tpos:Pos}{td ty tv:TE}
theorem AU(f:X.A.units+1<cLine)(k:PE X o td)(l:PE X i ty)(j:LP i):PE X (.Subscript o i pos) (VN td ty):=by
 intro b s σ H Q I h;refine pA PySem.F.slot_dict_getitem.lookup j (thn (k b s σ H _ I h) λu s1 ⟨x,H1,I1,rx,q1⟩=>thn (l b s1 σ H1 _ I1 q1) λiv s2 ⟨y,H2,I2,ry,a,v,ex,g,q2⟩=>?_);subst ex;obtain rfl:u=Value.ref a:=rx;exact⟨wM I2 g,nD f I2 g ry λn m d c=>⟨v,H2,d,c,q2⟩⟩
theorem sj(d:X.A.units+1<cLine)(f:PE X i ty)(j:PE X o td):PC X .In i o (PR ty td):=by
 intro b s σ H Q I h;refine thn (f b s σ H _ I h) λiv s1 ⟨y,H1,I1,ry,q1⟩=>thn (j b s1 σ H1 _ I1 q1) λu s2 ⟨x,H2,I2,rx,a,ov,ex,g,q2⟩=>?_;subst ex;obtain rfl:u=Value.ref a:=rx;exact Bi d I2 g ry λk c=>⟨.bl ov.isSome,H2,c,rfl,q2⟩
theorem uz(d:X.A.units+1<cLine)(j:PE X o td)(k:PE X i ty)(l:PE X value tv)(f:swapsWith value (some (.Subscript o i pos')) pos.line X.env=pure false) :
  PS X (.Assign [.Subscript o i pos'] value pos) (RW td ty tv):=by
 intro b s σ H D I h;refine wpAny_Assign_Subscript (thn (l b s σ H _ I h) λr s1 ⟨v,H1,I1,rv,q1⟩=>thn (j b s1 σ H1 _ I1 q1) λu s2 ⟨x,H2,I2,rx,q2⟩=>thn (k b s2 σ H2 _ I2 q2) λiv s3 ⟨y,H3,I3,ry,a,H4,ex,g,q3⟩=>?_) f;subst ex;obtain rfl:u=Value.ref a:=rx;exact ud d I3 g ry rv λm c=>⟨σ,H4,c,q3⟩
end
theorem GL(h:Heap)(a:sysModules<h.objs.size):XE P w H (h.push {cls:=.type "dict",data:=.dict #[]}) h.objs.size (.dK []):=
 ⟨V5 _,beq_eq_false_iff_ne.mpr (Xs (qt a)),[],.nil,mq h⟩
def Vp:TE:=λ_ H Q=>∀p,H p=none->Q (.ref p) (upd H p (.dK []))
section
variable{X:Cx}{pos:Pos}
theorem AB:PE X (.Dict [] [] pos) Vp:=λb s σ H Q I h=>
 wpAny_Dict_empty ⟨.ref s.heap.objs.size,_,I.laid (a:=s.heap.objs.size) (o:=.dK []) (t':=s.toks) (λ_ _ q=>qE _ q) (qM _) (GL s.heap I.big),rfl,h _ (I.hok.fresh (qM _))⟩
end
def LS:List (TE×TE)->St->Hp->(List (V×V)->Hp->Prop)->Prop
 | [],_,H,Q=>Q [] H
 | (d,e)::r,σ,H,Q=>d σ H λx b=>e σ b λy a=>LS r σ a λf c=>Q ((x,y)::f) c
abbrev VV:List (V×V)->List (Value×Value)->Prop:=Paired λp q=>ZF p.1 q.1/\ZF p.2 q.2
def N2(X:Cx)(d:Pos)(c:List (Option Expr))(a:List Expr)(e:List (TE×TE)):Prop:=
 ∀(b:List (Addr×Obj))(s:Shared)(σ:St)(H:Hp)(Q:List (V×V)->Hp->Prop),Inv X b σ H s->LS e σ H Q->
  wpAny (model X.prog X.w) X.A (evalPairs (pairTrees c a X.env d)) (λvs h=>∃g f,Inv X b σ f h/\VV g vs/\Q g f) X.xe s
theorem sL:N2 X b [] [] []:=λa s σ H Q I h=>pairTrees_nil_walk ⟨[],H,I,.nil,h⟩
theorem vK(j:PE X k e)(i:PE X v g)(d:N2 X b f vs c) :
  N2 X b (some k::f) (v::vs) ((e,g)::c):=λa s σ H Q I h=>
 pairTrees_cons_walk (thn (j a s σ H _ I h) λu s1 ⟨x,H1,I1,rx,q1⟩=>thn (i a s1 σ H1 _ I1 q1) λw2 s2 ⟨y,H2,I2,ry,q2⟩=>
  thn (d a s2 σ H2 _ I2 q2) λws s3 ⟨ps,H3,I3,rel,q3⟩=>⟨(x,y)::ps,H3,I3,.cons ⟨rx,ry⟩ rel,q3⟩)
def Tx(b more:List (Y7×V)):List (Y7×V):=more.foldl (λa c=>XR a c.1 c.2) b
theorem KV.merge:∀{more:List (Y7×V)}{b:List (Y7×Value)}{a:List (Y7×V)}{vs:List (Y7×Value)},KV more b->KV a vs->KV (Tx a more) (merged vs b):=by
 intro more b a vs r;unfold KV at r
 induction r generalizing a vs with
 | nil=>intro q;exact q
 | @cons p q g f h t d=>
  intro c
  have e:KV (XR a p.1 p.2) (stored vs q.1 q.2):=by
   have:=c.put p.1 h.2;rw[<- h.1];exact this
  exact d e
theorem B4:∀(more a:List (Y7×V)),(Tx a more).length<=a.length+more.length
 | [],a=>by show a.length<=a.length+0;omega
 | p::r,a=>by
  have c:=B4 r (XR a p.1 p.2);have b:=oC a p.1 p.2;show(Tx (XR a p.1 p.2) r).length<=_;rw[qu];omega
theorem jZ:∀{d:List (Y7×V)}{f:List (Value×Value)},VV (d.map λg=>(kV g.1,g.2)) f->∃e,Carries (Wv P w) f e/\KV d e
 | [],_,r=>by rw[Oa]at r;cases r;exact⟨[],True.intro,.nil⟩
 | p::d,_,r=>by
  rw[qL]at r
  cases r with
  | @cons a b i bs h t=>
   obtain⟨e,c,q⟩:=jZ (P:=P) (w:=w) t;obtain⟨b1,b2⟩:=b;exact⟨(p.1,b2)::e,⟨SK h.1,rfl,c⟩,.cons ⟨rfl,h.2⟩ q⟩
def RB(b:List (TE×TE)):TE:=λσ H Q=>∀p,H p=none->LS b σ (upd H p (.dK [])) λe c=>c p=some (.dK [])/\∃a:List (Y7×V),e=a.map (λd=>(kV d.1,d.2))/\a.length<=15/\Q (.ref p) (upd c p (.dK (Tx [] a)))
theorem yv{b:List (Option Expr)}{d:List Expr}(h:N2 X j b d k)(i:b.all (·.isSome)=true)(B:b.length=d.length)(v:b≠[])
  (l:b.length<=15):PE X (.Dict b d j) (RB k):=by
 intro g s σ H Q I q;have t:=I.hok.fresh (qM s.heap.objs.size);have F:=I.laid (a:=s.heap.objs.size) (o:=.dK []) (h':=s.heap.push {cls:=.type "dict",data:=.dict #[]}) (t':=s.toks) (λ_ _ q=>qE _ q) (qM _) (GL s.heap I.big);refine wpAny_Dict_walk (knd:=Wv X.prog X.w) i B v l (thn (h g _ σ _ _ F (q _ t)) λws s2 ⟨ps,H2,I2,rel,e,kvs,ep,lk,q2⟩=>?_);subst ep;obtain⟨C,c,A⟩:=jZ (P:=X.prog) (w:=X.w) rel;obtain⟨z,D,y,n,p⟩:=Qq I2.hok e;cases n;refine⟨C,c,p,λm f E=>⟨.ref s.heap.objs.size,_,?_,rfl,q2⟩⟩
 have r:(Tx [] kvs).length<=qa:=by
  have x:=B4 kvs [];rw[N8]at x;rw[QP];omega
 have u:∃q,m.get? s.heap.objs.size=some q:=let⟨q,_,_,hq,_⟩:=f;⟨q,hq⟩;exact DR I2 (by rw[e];exact True.intro) E u (OW r D (A.merge .nil) f)
set_option genInjectivity false in
set_option genInjectivity false in
section
variable{X:Cx}{pins:List (Addr×Obj)}{σ:St}{H:Hp}{s:Shared}{a:Addr}{y d:V}{u r:Value}{o:Option V}{A:Around}{E:Value->Shared->Prop}
end
end L2
namespace Att
open PySem PySem.W PySem.Calls PyProof.Rows
theorem hJ:∀(c:List Int)(vs:List Value),WellAll P h vs (c.map WData.int)->IntsAre vs c:=by
 intro c
 induction c with
 | nil=>
  intro vs w;rw[Oa]at w;cases w;exact .nil
 | cons n c d=>
  intro vs w;rw[qL]at w
  cases w with
  | cons a b=>
   cases a;exact .cons _ _ (d _ b)
theorem r4{l:OpenLaw}(p:l.most=some n){h:Heap}
  (e:l.row.toRowW.claim.pre b=true)(k:WellAll P h vals b) :
  ∃a vs c,vals=[Value.ref a]/\b=[WData.list (c.map WData.int)]/\h.get? a=some {cls:=.type "list",data:=.seq vs.toArray}/\IntsAre vs c/\c.length<=n:=by
 have m:WShape.hasAll [] b [.list .int]=true:=(pre_splitW e).1;have o:l.pre.holds [] {args:=b}=true:=(pre_splitW e).2;obtain⟨d,r,rfl,s,t⟩:=hasAllW_cons m;obtain rfl:=hasAllW_nil t;obtain⟨z,rfl,u⟩:=hasW_list s;obtain⟨c,rfl⟩:=items_int u
 have g:c.length<=n:=by
  unfold OpenLaw.pre at o
  have i:(WTm.not (.lt (.lit (.int (n:Int))) (.len (.arg 0)))).holds [] {args:=[.list (c.map .int)]}=true:=by
   have i:=(holds_andW o).1;rw[p]at i;exact i
  have j:=condW_of i (w_not (w_lt w_lit (w_len_list (w_arg rfl))));rw[qD]at j;refine Nat.le_of_not_lt λq=>?_;have y:(n:Int)<((c.length:Nat):Int):=by omega
  first
   | (rw[decide_eq_true y]at j;exact absurd j (by decide))
   | (simp at j;omega)
 cases k with
 | cons w x=>
  cases x
  cases w with
  | list v f=>exact⟨_,_,c,rfl,rfl,v,hJ c _ f,g⟩
theorem BB(l:OpenLaw)(a:List WData):l.row.toRowW.claim.post a (.bool true) a=true:=
 postW_of (r:=l.row.toRowW) (X:=(true==true))
  (show WShape.has [] (.bool true) .bool=true by first|rfl|decide|simp[WShape.has,WShape.arms,WShape.armsAll])
  (show(WTm.eq .res (.lit (.bool true))).value [] {args:=a,res:=some (.bool true),after:=a}=some (.bool (true==true))from w_eq_bool (w_res rfl) w_lit) rfl
theorem attach_call{l:OpenLaw}{E:(Str->Option Value)->Heap->Prop}{I:World->Heap->Prop}{d:DefRec}
  (J:l.most=some n)(z:d.params.defaults=[])
  (call:∀(w:World)(c b:Shared)(p x:Str->Option Value)(j:Addr)(o:Obj)(B u e:Value)(a:Addr)(vs:List Value)(s:List Int),
   Ground q g [] E w c p x b.heap->I w b.heap->
   b.heap.get? j=some o->o.data=.func (docDef d.name d.params d.body d.scope B u e)->b.heap.CodeRec u d.name->p d.name=some (.ref j)->
   b.heap.get? a=some {cls:=.type "list",data:=.seq vs.toArray}->IntsAre vs s->s.length<=n->b.gens=#[]->
   codeAny (model l.prog w) callerA (.call (.ref j) ⟨[.ref a],[]⟩) (λr t=>r=.ok (.ret (.bool true))/\OldK b.heap t.heap/\t.os=b.os/\AllBare t.gens) b) :
  WalkO q g E I l.row.toRowW d [] (λf vs=>PySem.call f vs):=by
 intro w c b p x G Y j o B u e N kV S U y H A Q D C X i F W v M;obtain rfl:N=.none:=Dflts.none H z;obtain rfl:kV=.none:=Dflts.noKw H;obtain⟨a,vs,s,rfl,rfl,m,h,k⟩:=r4 J i v;refine enter_call (Oh (call w c b p x j o B u e a vs s G Y S (fd_plain U) y A m h k Q) λr t T=>?_);obtain⟨rfl,L,P,O⟩:=T;exact⟨.inl ⟨.bool true,.bool true,[],rfl,λ_=>rfl,.bool true,BB l _,λ_=>⟨List.Pairwise.nil,λ_ R=>(nomatch R)⟩⟩,L,P,O⟩
end Att
namespace L2
open PySem PySem.Spec PyProof.Rows
theorem J6:∀{vs:List Value}{a:List Int},IntsAre vs a->ZJ (a.map V.int) vs
 | _,_,.nil=>.nil
 | _,_,.cons n t h=>.cons ⟨t,rfl⟩ (J6 h)
end L2
namespace L2
open PySem PySem.Spec PyProof.Rows
def sI(s:Stmt)(j:Nat):Stmt:=match s with
 | .ClassDef _ _ _ a _ _ _ _ _ _ _=>a.getD j (.Pass ⟨0,0,0,0⟩)
 | _=>.Pass ⟨0,0,0,0⟩
def Sn(s:Stmt):Arguments:=match s with
 | .FunctionDef _ a _ _ _ _ _ _ _ _=>a
 | _=>{posonlyargs:=[],args:=[],vararg:=none,kwonlyargs:=[],kw_defaults:=[],kwarg:=none,defaults:=[]}
def Vi(s:Stmt):List Stmt:=match s with
 | .FunctionDef _ _ b _ _ _ _ _ _ _=>b
 | _=>[]
def YU(s:Stmt):Scope:=match s with
 | .FunctionDef _ _ _ _ _ _ b _ _ _=>b
 | _=>{kind:=.function,names:=[],isGenerator:=false,isCoroutine:=false}
abbrev Yz:Uq:=λ_ _ _ _ _ _=>False
abbrev E0:XK:=λ_ _ _=>False
theorem An:zxj Yz X E0:=λ_ _ _ _ _ _ _ h=>h.elim
set_option genInjectivity false in
structure Yw(K:qC)(x qual:Str)(st:Stmt)(f:Addr)(fd:Xl):Prop where
 ex:∃(oc:Value)(od:Option Addr)(kV doc pm:Value)(an:Option Addr)(cdv ct:Value)(osl:Array (Option Value)),
  fd=Ur x qual (Sn st) (Vi st) (YU st) .none kV doc pm an cdv ct/\K.lookup f=some ⟨oc,od,.func fd,osl⟩/\EI K cdv qual=true
 kp:RJ K (.ref f)=true
section
variable{P:Program}{w:World}{K:qC}{mg:Str->Option Value}{base:Heap}
theorem Yw.ok{x b:Str}{e:Stmt}{f:Addr}{m:Xl}{N l:List Str}{k:Nat}{j:Sp}(F:Yw K x b e f m)(S:ZW N l (YU e))(len:∀vs H Q E,j vs H Q E->vs.length=l.length)
  (d:∀(c:Value)(A:Around)(a:List Env)(s:Shared)(H:Hp)(vs:List V)(Q:VK)(E:XK),Y5 k (A.deeper (envOfC b (YU e) s.heap.objs.size f c))->j vs H Q E->
   ∃t,W2 (X0 Yz P w K mg base N b (YU e) f c A a s H E).nox (Vi e) t/\t {nx:=λ_ p=>Q .non p,rt:=Q} (start N vs) H):Zu P w K mg base Yz (k+1) f m l j:=by
 obtain⟨B,D,kV,o,C,y,c,v,u,rfl,n,g⟩:=F.ex;refine BK n g S len λA a s H vs Q E r i=>?_;obtain⟨t,h,q⟩:=d c A a s H vs Q E r i;exact⟨t,h.nox,q⟩
theorem Yw.binds{x a:Str}{d:Stmt}{f:Addr}{k:Xl}{ps:List Str}(F:Yw K x a d f k)
  (h:∀(kV b i:Value) (j:Option Addr) (c g:Value) (e:List Value),e.length=ps.length->bindArgs (Ur x a (Sn d) (Vi d) (YU d) .none kV b i j c g) ⟨e,[]⟩=pure (ps.zip e)):Vm K k ps []:=by
 obtain⟨o,p,kV,b,i,j,c,g,l,rfl,n,m⟩:=F.ex;exact .all (h kV b i j c g)
theorem DW{x a:Str}{e:Stmt}{f:Addr}{m:Value}{n j:Option Addr}{g:Array (Option Value)}{kV d i b h:Value}(l:K.lookup f=some ⟨m,n,.func (Ur x a (Sn e) (Vi e) (YU e) .none kV d i j b h),g⟩)
  (c:EI K b a=true) (k:RJ K (.ref f)=true):Yw K x a e f (Ur x a (Sn e) (Vi e) (YU e) .none kV d i j b h):=⟨⟨m,n,kV,d,i,j,b,h,g,rfl,l,c⟩,k⟩
end
theorem RP{A:Around}(a:Y5 k A):A.units+1<cLine:=LM (Nat.add_le_add_left (by decide:1<=64) _) a.units
section
variable{X:Cx}
theorem pv(i:Nat)(c:X.N[i]?=some x:=by rfl)(b:WI X.env.scope x=true:=by rfl)(e:(x==("__debug__":Str))=false:=by decide)
  (a:(x==("__classdict__":Str))=false:=by decide):PE X (.Name x d) (YR i):=Nt c (WI.of b) e a
end
theorem WB{A B:Prop}(h:B):if false=true then A else B:=by
 rw[if_neg qQ];exact h
theorem WA{A B:Prop}(h:A):if true=true then A else B:=by
 rw[if_pos rfl];exact h
theorem vv{c A B:Prop}[Decidable c](h1:c->A)(h2:¬c->B):if c then A else B:=by
 by_cases h:c
 ·rw[if_pos h];exact h1 h
 ·rw[if_neg h];exact h2 h
def Z3(H a:Hp):Prop:=∀b o,H b=some o->a b=some o
theorem Z3.refl(H:Hp):Z3 H H:=λ_ _ h=>h
theorem Z3.trans(a:Z3 H e)(b:Z3 e d):Z3 H d:=λc o h=>b c o (a c o h)
theorem Z3.free(e:Z3 H a)(h:a l=none):H l=none:=by
 cases q:H l with
 | none=>rfl
 | some o=>
  rw[e l o q]at h;cases h
theorem Z3.seq{K:qC}{H b:Hp}{a:Addr}{xs:List V}(e:Z3 H b)(h:YK K H a xs):YK K b a xs:=by
 rcases h with(h|⟨o,h⟩)|h
 ·exact .inl (.inl (e _ _ h))
 ·exact .inl (.inr ⟨o,e _ _ h⟩)
 ·exact .inr h
section
variable{κ:Type}[DecidableEq κ]
theorem M7:∀{l:List κ}{k:κ},l.Nodup->¬k∈l->(l++[k]).Nodup
 | [],k,_,_=>by simp
 | a::r,k,h,hk=>by
  obtain⟨c,b⟩:=Vl.mp h;show(a::(r++[k])).Nodup;refine Vl.mpr ⟨λm=>?_,M7 b λm=>hk (qN.mpr (Or.inr m))⟩;rcases qk.mp m with q|q
  ·exact c q
  ·exact hk (qN.mpr (Or.inl (Tn.mp q).symm))
end
end L2
set_option maxHeartbeats 4000000
namespace L2
open PySem PySem.Spec PyProof.Rows
def clos(cells:List (Str×Addr)):List (Str×NameKind)->List (Str×Addr)->List (Str×Addr)
 | [],acc=>acc
 | (n,k)::r,acc=>if k==.free then clos cells r ((n,(cells.lookup n).getD 0)::acc)else clos cells r acc
theorem Ag{cells:List (Str×Addr)}:∀{names:List (Str×NameKind)}{acc:List (Str×Addr)},(∀y∈names,y.2=.free->∃c,cells.lookup y.1=some c)->∀p∈clos cells names acc,p∈acc\/((p.1,NameKind.free)∈names/\cells.lookup p.1=some p.2)
 | [],acc,_,p,hp=>.inl hp
 | (n,k)::r,acc,h,p,hp=>by
  unfold clos at hp;have b:∀y∈r,y.2=.free->∃c,cells.lookup y.1=some c:=λy e=>h y (qI _ e);split at hp
  ·rename_i f;rcases Ag b p hp with q|q
   ·rcases qN.mp q with q|q
    ·subst q;have a:k=.free:=by simpa using f
     subst a;obtain⟨c,d⟩:=h (n,.free) qX rfl;exact .inr ⟨qX,by show cells.lookup n=some ((cells.lookup n).getD 0);rw[d];rfl⟩
    ·exact .inl q
   ·exact .inr ⟨qI _ q.1,q.2⟩
  ·rcases Ag b p hp with q|q
   ·exact .inl q
   ·exact .inr ⟨qI _ q.1,q.2⟩
theorem oI:∀{b:List (Str×NameKind)}{a:List (Str×Addr)},∀p∈a,p∈clos c b a
 | [],a,p,hp=>hp
 | (n,k)::r,a,p,hp=>by
  unfold clos;split
  ·exact oI p (qI _ hp)
  ·exact oI p hp
theorem vI:∀{names:List (Str×NameKind)}{acc:List (Str×Addr)},(x,NameKind.free)∈names->∃c,(x,c)∈clos cells names acc
 | [],_,h=>by simp at h
 | (n,k)::r,acc,h=>by
  unfold clos;rcases qN.mp h with e|h
  ·cases e;rw[if_pos (show(NameKind.free==NameKind.free)=true by decide)];exact⟨_,oI _ qX⟩
  ·split
   ·exact vI h
   ·exact vI h
theorem mM:∀{l:List (Str×α)},(x,c)∈l->∃a,l.lookup x=some a
 | [],h=>by simp at h
 | (k,v)::r,h=>by
  rw[U9]
  cases hb:x==k with
  | true=>exact⟨v,rfl⟩
  | false=>
   rcases qN.mp h with e|h
   ·cases e;simp at hb
   ·exact mM h
theorem kD{d:Scope}{e:Env}(h:∀y∈d.names,y.2=.free->∃c,e.cells.lookup y.1=some c):closureFor d e=pure (clos e.cells d.names []):=by
 unfold closureFor
 have j:∀(b:List (Str×NameKind))(f:List (Str×Addr)),(∀y∈b,y.2=.free->∃c,e.cells.lookup y.1=some c)->
   (forIn b f (λ(x:Str×NameKind) (r:List (Str×Addr))=>(if(x.2==.free)=true then(do let a <- cellOf e x.1;pure (ForInStep.yield ((x.1,a)::r)))else pure (ForInStep.yield r):Sem (ForInStep (List (Str×Addr))))))=pure (clos e.cells b f):=by
  intro b
  induction b with
  | nil=>intro f _;rfl
  | cons y r m=>
   intro f p;obtain⟨n,k⟩:=y;have l:=λy (s:y∈r)=>p y (qI _ s);rw[DQ];unfold clos
   cases hk:(k==NameKind.free)with
   | true=>
    have i:k=.free:=by simpa using hk
    subst i;obtain⟨c,o⟩:=p (n,.free) qX rfl;have q:cellOf e n=pure c:=by unfold cellOf;rw[o]
    simp only[if_true];have g:e.cells.lookup n=some c:=o;rw[q,g];simp only[pure_bind,Option.getD_some];exact m _ l
   | false=>
    simp only[Dx,if_false,pure_bind];exact m _ l
 simpa using j d.names [] h
theorem Cr:∀(a:List (Str×NameKind))(n:Nat)(b:List (Str×Addr)),cellsFrom n a b=cellsFrom n a []++b
 | [],_,_=>rfl
 | (name,kind)::r,n,b=>by
  unfold cellsFrom;split
  ·rw[Cr r (n+1) ((name,n)::b),Cr r (n+1) [(name,n)],C7];rfl
  ·exact Cr r n b
theorem DU:∀(names:List (Str×NameKind))(n:Nat)(acc:List (Str×Addr)),(x,c)∈cellsFrom n names acc->(x,c)∈acc\/(x,NameKind.cell)∈names
 | [],_,_,h=>.inl h
 | (name,kind)::r,n,acc,h=>by
  unfold cellsFrom at h;split at h
  ·rename_i b;have a:kind=.cell:=by simpa using b
   subst a;rcases DU r _ _ h with q|q
   ·rcases qN.mp q with q|q
    ·cases q;exact .inr qX
    ·exact .inl q
   ·exact .inr (qI _ q)
  ·rcases DU r _ _ h with q|q
   ·exact .inl q
   ·exact .inr (qI _ q)
theorem Ca:∀{l r:List (Str×α)},(l++r).lookup x=(l.lookup x).or (r.lookup x)
 | [],_=>by simp
 | (k,v)::l,r=>by
  rw[B9,U9,U9]
  cases x==k with
  | true=>rfl
  | false=>exact Ca
theorem Da{env:Env}:∀{names:List (Str×NameKind)},
  (names.map λ(n,k)=>if(k==NameKind.free&&env.scope.kind==.function&&env.kindOf n==some .cell)then(n,NameKind.cell)else(n,k)).lookup x=some a->
  ∃k,names.lookup x=some k/\(a=k\/(k=.free/\a=.cell))
 | [],h=>by simp at h
 | (n,k)::r,h=>by
  rw[qL]at h;by_cases hc:(k==NameKind.free&&env.scope.kind==.function&&env.kindOf n==some .cell)=true
  ·simp only[hc,if_true]at h;rw[U9]at h ⊢
   cases hx:x==n with
   | true=>
    rw[hx]at h;have b:k=.free:=by simp at hc;exact hc.1.1
    exact⟨k,rfl,.inr ⟨b,(qZ h).symm⟩⟩
   | false=>rw[hx]at h;exact Da h
  ·simp only[hc,Dx,if_false]at h;rw[U9]at h ⊢
   cases hx:x==n with
   | true=>rw[hx]at h;exact⟨k,rfl,.inl (qZ h).symm⟩
   | false=>rw[hx]at h;exact Da h
theorem yn{env:Env}:∀{names:List (Str×NameKind)},names.lookup x=some .free->
  ((names.map λ(n,k)=>if(k==NameKind.free&&env.scope.kind==.function&&env.kindOf n==some .cell)then(n,NameKind.cell)else(n,k)).lookup x=some .free\/
   (names.map λ(n,k)=>if(k==NameKind.free&&env.scope.kind==.function&&env.kindOf n==some .cell)then(n,NameKind.cell)else(n,k)).lookup x=some .cell)
 | [],h=>by simp at h
 | (n,k)::r,h=>by
  rw[qL];rw[U9]at h;by_cases hc:(k==NameKind.free&&env.scope.kind==.function&&env.kindOf n==some .cell)=true
  ·simp only[hc,if_true];rw[U9]
   cases hx:x==n with
   | true=>exact .inr rfl
   | false=>rw[hx]at h;exact yn h
  ·simp only[hc,Dx,if_false];rw[U9]
   cases hx:x==n with
   | true=>rw[hx]at h;exact .inl h
   | false=>rw[hx]at h;exact yn h
theorem zj{E:Value->Shared->Prop}{s:Shared}{a:Scope}{d:Env}{Q:Env->Shared->Prop}
  (l:∀i,(∀b o,s.heap.get? b=some o->i.get? b=some o)->i.Ns s.heap.objs.size (λ_=>none)->(∀n c,(n,c)∈cellsFrom (s.heap.objs.size+1) a.names []->i.IsCell c none/\s.heap.objs.size+1<=c)->
   ((cellsFrom (s.heap.objs.size+1) a.names []).Pairwise λx y=>x.2≠y.2)->
   Q {scope:=a,locals:=s.heap.objs.size,globals:=globals,cells:=cellsFrom (s.heap.objs.size+1) a.names []++k,qual:=f,func:=none,code:=d.code,frame:=d.frame,builtins:=d.builtins} {s with heap:=i}) :
  wpAny M A (newFunctionEnv a globals k [] f none .none (some d)) Q E s:=by
 simp only[newFunctionEnv,mG,if_true];refine qF (wpAny_alloc ?_);refine qF (wpAny_layCells _ (λj h g=>by cases hkc:h==NameKind.cell<;>simp[hkc]) _ _ _ _ ?_);have ok:=cellsFrom_ok a.names (s.heap.push {cls:=.type "dict",data:=.dict #[]}) (s.heap.objs.size+1) [] ⟨λ_ _ m=>(nomatch m),List.Pairwise.nil⟩ (by rw[QO];exact qM _);rw[QO]at ok;rw[show({s with heap:=s.heap.push {cls:=.type "dict",data:=.dict #[]}}:Shared).heap.objs.size=s.heap.objs.size+1 from QO ..];rw[Cr];refine qF ?_;refine qV (qV ?_);exact l _ (λb o e=>pushCells_keeps _ _ b o (qE _ e)) ((Heap.Ns.new s.heap (.type "dict")).keeps (pushCells_keeps _ _)) ok.empty ok.apart
def ZL(X:Cx)(a:Scope)(f own:List Str)(d:List (Str×Addr))(C:Addr)(s:Shared)(H:Hp)(e:List Addr):Cx:=
 {X with N:=f,s₀:=s,H₀:=H,env:=compEnvC a d C X.env,outer:=X.stack,stack:=X.stack,ex:=e,fn:=λx=>own.contains x,pn:=[],xe:=λ_ _=>False}
structure Yv(X:Cx)(scope:Scope)(N' own:List Str)(fr:List Nat):Prop where
 kind:scope.kind=.function
 names:∀y∈scope.names,scope.names.lookup y.1=some y.2
 up:∀y∈scope.names,y.2=.free->(X.env.kindOf y.1=some .cell\/X.env.kindOf y.1=some .free)
 nm:N'=own++fr.map (λj=>X.N.getD j Str.empty)
 fr:∀j∈fr,j<X.N.length/\scope.names.lookup (X.N.getD j Str.empty)=some .free
 own:∀x∈own,scope.names.lookup x=some .local\/scope.names.lookup x=some .cell
def R4(own:List Str)(fr:List Nat)(σ:St):St:=own.map (λ_=>none)++fr.map (λj=>σ.getD j none)
section
variable{X:Cx}{pins:List (Addr×Obj)}{σ:St}{H:Hp}{s:Shared}{scope:Scope}{N' own:List Str}{fr:List Nat}
theorem zO(c:Yv X scope N' own fr)(ok:X.Ok):∀y∈scope.names,y.2=.free->∃a,X.env.cells.lookup y.1=some a:=λy b e=>ok.has y.1 (c.up y b e)
theorem zN{W:Heap}(c:Yv X scope N' own fr)(I:Inv X pins σ H s)
  (Z:∀b∈fp,Xt X pins H b)(ho:∀b∈fp,∃o,s.heap.get? b=some o/\∀v,o.data≠.cell v)
  (h:∀b o,s.heap.get? b=some o->W.get? b=some o)(ns:W.Ns s.heap.objs.size (λ_=>none))
  (cells:∀n c,(n,c)∈cellsFrom (s.heap.objs.size+1) scope.names []->W.IsCell c none/\s.heap.objs.size+1<=c)
  (L:(cellsFrom (s.heap.objs.size+1) scope.names []).Pairwise λx y=>x.2≠y.2) :
  Inv (ZL X scope N' own (cellsFrom (s.heap.objs.size+1) scope.names []++clos X.env.cells scope.names []) s.heap.objs.size s H fp) [] (R4 own fr σ) H {s with heap:=W}:=by
 have C:=zO c I.ok
 have R:∀x a,(x,a)∈clos X.env.cells scope.names []->(x,NameKind.free)∈scope.names/\X.env.cells.lookup x=some a:=λx a U=>by
  rcases Ag C (x,a) U with q|q
  ·simp at q
  ·exact q
 have look:∀x a,(cellsFrom (s.heap.objs.size+1) scope.names []++clos X.env.cells scope.names []).lookup x=some a->
   ((x,a)∈cellsFrom (s.heap.objs.size+1) scope.names []/\(x,NameKind.cell)∈scope.names)\/((x,NameKind.free)∈scope.names/\X.env.cells.lookup x=some a):=λx a e=>by
  rw[Ca]at e
  cases q:(cellsFrom (s.heap.objs.size+1) scope.names []).lookup x with
  | some b=>
   rw[q]at e;cases e;have U:=UI q;rcases DU _ _ _ U with z|z
   ·simp at z
   ·exact .inl ⟨U,z⟩
  | none=>
   rw[q]at e;exact .inr (R x a (UI e))
 have t:∀x a,(x,NameKind.free)∈scope.names->X.env.cells.lookup x=some a->(cellsFrom (s.heap.objs.size+1) scope.names []++clos X.env.cells scope.names []).lookup x=some a:=λx a r e=>by
  rw[Ca]
  have q:(cellsFrom (s.heap.objs.size+1) scope.names []).lookup x=none:=by
   cases q:(cellsFrom (s.heap.objs.size+1) scope.names []).lookup x with
   | none=>rfl
   | some b=>
    rcases DU _ _ _ (UI q)with z|z
    ·simp at z
    ·have l:=c.names _ r;have f:=c.names _ z;rw[l]at f;cases f
  rw[q];obtain⟨d,hd⟩:=vI (cells:=X.env.cells) (acc:=[]) r;obtain⟨d',T⟩:=mM hd;have:=(R x d' (UI T)).2;rw[e]at this;cases this;exact T
 have D:∀b o,s.heap.get? b=some o->b<s.heap.objs.size:=λb o e=>qJ e;have G:∀x a,X.env.cells.lookup x=some a->a<s.heap.objs.size:=λx a e=>let⟨v,q⟩:=I.cell x a e;q.lt
 refine⟨⟨I.ok.mod,c.kind,I.ok.glob,I.ok.blt,qM _,?inj,?has,?cab,I.ok.hd,I.ok.frames,.inl rfl,?exf,I.bs,WT I.ok.bsz I.sz,?noex,?exfs,I.stack,I.stkFree⟩,
  rfl,I.bare,Un.kept h,⟨_,ns,?loc⟩,?cell,I.hok.fresh (qM _),?freeC,?pin,I.hok.kept h,?len⟩
 case inj=>
  intro x y a l f;rcases look x a l with⟨E,A⟩|⟨A,B⟩<;>rcases look y a f with⟨m2,k2⟩|⟨k2,F⟩
  ·exact name_of_addr L E m2
  ·exact absurd (qi (G y a F) (tJ (cells x a E).2)) (Ph _)
  ·exact absurd (qi (G x a B) (tJ (cells y a m2).2)) (Ph _)
  ·exact I.ok.inj x y a B F
 case has=>
  intro x r
  have M:(∃k,scope.names.lookup x=some k/\(k=.cell\/k=.free)):=by
   rcases r with r|r
   ·obtain⟨k,e,q⟩:=Da (env:=X.env) (names:=scope.names) r;rcases q with q|⟨q,_⟩
    ·exact⟨k,e,.inl q.symm⟩
    ·exact⟨k,e,.inr q⟩
   ·obtain⟨k,e,q⟩:=Da (env:=X.env) (names:=scope.names) r;rcases q with q|⟨q,_⟩
    ·exact⟨k,e,.inr q.symm⟩
    ·exact⟨k,e,.inr q⟩
  obtain⟨k,e,q⟩:=M;show ∃a,(cellsFrom (s.heap.objs.size+1) scope.names []++clos X.env.cells scope.names []).lookup x=some a;rcases q with rfl|rfl
  ·obtain⟨a,P⟩:=xW (n:=s.heap.objs.size+1) e;exact⟨a,by rw[Ca,P];rfl⟩
  ·obtain⟨a,P⟩:=C _ (UI e) rfl;exact⟨a,t x a (UI e) P⟩
 case cab=>
  intro x a r e;have r:own.contains x=true:=r;have M:x∈own:=by simpa using r
  rcases look x a e with⟨E,_⟩|⟨A,_⟩
  ·have:=(cells x a E).2;show s.heap.objs.size<=a;omega
  ·have l:=c.names _ A;rcases c.own x M with f|f
   ·rw[l]at f;cases f
   ·rw[l]at f;cases f
 case exf=>
  intro b O;obtain⟨o,e,d⟩:=ho b O;refine⟨qt (D b o e),λx a q z=>?_⟩;subst z;rcases look x a q with⟨E,_⟩|⟨A,B⟩
  ·exact absurd (qi (D a o e) (tJ (cells x a E).2)) (Ph _)
  ·obtain⟨v,o',e',d'⟩:=I.cell x a B;rw[e]at e';cases e';exact d v d'
 case noex=>
  intro b o e O;rcases(Z b O).2.2.2.1 with z|z
  ·exact I.ok.noex b o e z
  ·exact absurd (qi (qi (qJ e) I.ok.bsz) z) (Ph _)
 case exfs=>
  intro b O z;rcases qN.mp (I.stkSub b z)with q|q
  ·exact(Z b O).2.1 q
  ·exact(Z b O).2.2.1 q
 case loc=>
  intro i x v l f h3;have l:N'[i]?=some x:=l;rw[c.nm]at l;unfold R4 at f;by_cases hi:i<own.length
  ·rw[qc (by simpa using hi),qW]at f
   cases q:own[i]? with
   | none=>rw[q]at f;cases f
   | some z=>rw[q]at f;cases f
  ·rw[qg (by simpa using hi),qW,qD]at f;rw[qg (by simpa using hi),qW]at l
   cases q:fr[i - own.length]? with
   | none=>rw[q]at f;cases f
   | some j=>
    rw[q]at l f;have B:X.N.getD j Str.empty=x:=qZ l;have F:σ.getD j none=some v:=qZ f;obtain⟨hj,g⟩:=c.fr j (Ub q);rw[B]at g
    have Y:X.N[j]?=some x:=by
     rw[<- B,Se,qH hj];rfl
    have S:σ[j]?=some (some v):=by
     rw[Se]at F
     cases z:σ[j]? with
     | none=>rw[z]at F;cases F
     | some w=>rw[z]at F;rw[show w=some v from F]
    have J:(x,NameKind.free)∈scope.names:=UI g;have Q:=c.up _ J rfl;obtain⟨m,hn,hl⟩:=I.loc;obtain⟨u,ru,lk⟩:=hl j x v Y S (by rcases Q with z|z;exact .inr (.inl z);exact .inr (.inr z));refine⟨u,ru,.inr ⟨?_,?_⟩⟩
    ·rcases yn (env:=X.env) (names:=scope.names) g with z|z
     ·exact .inr z
     ·exact .inl z
    ·rcases lk with⟨A,_⟩|⟨_,a,P,hc⟩
     ·rcases Q with z|z
      ·rw[show X.env.kindOf x=some .cell from z]at A;cases A
      ·rw[show X.env.kindOf x=some .free from z]at A;cases A
     ·exact⟨a,t x a J P,hc.keeps h⟩
 case cell=>
  intro x a e;rcases look x a e with⟨E,_⟩|⟨A,B⟩
  ·exact⟨_,(cells x a E).1⟩
  ·obtain⟨v,q⟩:=I.cell x a B;exact⟨v,q.keeps h⟩
 case freeC=>
  intro x a e;rcases look x a e with⟨E,_⟩|⟨A,B⟩
  ·exact I.hok.fresh (by have:=(cells x a E).2;omega)
  ·exact I.freeC x a B
 case pin=>intro p hp;exact absurd (show p∈([]:List (Addr×Obj))from hp) (by simp)
 case len=>
  show(R4 own fr σ).length=N'.length;rw[c.nm];unfold R4;simp
end
abbrev TM:=St->Hp->(St->Hp->Prop)->Prop
def PM(X:Cx)(b:Sem Unit)(t:TM):Prop:=
 ∀(pins:List (Addr×Obj))(s:Shared)(σ:St)(H:Hp)(Q:St->Hp->Prop),Inv X pins σ H s->t σ H Q->wpAny (model X.prog X.w) X.A b (λ_ d=>∃a c,Inv X pins a c d/\Q a c) X.xe s
def PF(X:Cx)(a:List Expr)(t:TT):Prop:=
 ∀(pins:List (Addr×Obj))(s:Shared)(σ:St)(H:Hp)(Q:Bool->Hp->Prop),Inv X pins σ H s->t σ H Q->
  wpAny (model X.prog X.w) X.A (forIn a true λc r=>if r=true then do let ok <- isTrue c X.env (eval c X.env);pure (ForInStep.yield ok)else pure (ForInStep.yield r)) (TP X pins σ Q) X.xe s
def Qo:TT:=λ_ H Q=>Q true H
section
variable{X:Cx}
theorem wc:PF X [] Qo:=λ_ s σ H Q I h=>wpAny_tests_nil ⟨H,I,h⟩
theorem xg(h:PT X c t):PF X [c] t:=λa s σ H Q I q=>wpAny_tests_one (h a s σ H Q I q)
def Su(p:Addr)(c:TE):TM:=λσ H Q=>c σ H λv b=>∃a,b p=some (.lst a)/\a.length<qa/\Q σ (upd b p (.lst (a++[v])))
theorem Mh(h:PE X b d):PM X (do let _ <- call (.builtin "list.append") [.ref p,<- eval b X.env]) (Su p d):=by
 intro a s σ H Q I q;refine qF (thn (h a s σ H _ I q) λu s1 ⟨v,H1,I1,r,ys,hp,hz,q1⟩=>?_);refine qF (thn (Wa a s1 σ H1 (.ref p) [v] (.ref p) [u] (λ_ c=>Q σ c) I1 rfl (.cons r .nil) ⟨p,ys,v,rfl,rfl,hp,hz,q1⟩) λ_ s2 ⟨_,c,I2,_,q2⟩=>?_);exact qV ⟨σ,c,I2,q2⟩
def Rj(J:It)(g:TG)(j:TT)(k:TM):TM:=λσ H Q=>∃W:Nat->Nat->St->Hp->Prop,(∃m,W 0 m σ H)/\∀i m σ H,W i m σ H->
 (J.stop i H/\Q σ H)\/(J.go i H/\∃N:St->Hp->Prop,(∀c d,N c d->∃f,f<m/\W (i+1) f c d)/\∀x d,J.yld i H x d->g x σ d λa h=>j a h λb e=>if b=true then k a e N else N a e)
theorem my{U:Nat->Heap->Prop}{s:Shared}{Q:St->Hp->Prop}
  (hx:X.xe=λ_ _=>False)(hc:X.calm=true)
  (eq:compTurn (.ListComp elt0 gens j l) depth (.ref F) D X.env=(do
   standAt ip
   match <- pyNext (.ref F)with
   | none=>pure (.done .next)
   | some v=>
    letOwnedTupleGo a (.ref F) v
    assign a X.env v
    let mut ok:=true
    for c in a0 do
     if ok then ok <- isTrue c X.env (eval c X.env)
    if ok then emit
    again (.compLoop (.ListComp elt0 gens j l) depth (.ref F) D X.env)))
  (T:VC X.prog X.w X.K a J L F U)(hg:PG X a g)(ht:PF X a0 tt)(hm:PM X emit tm)
  (I:Inv X pins σ H s)(st:U 0 s.heap)(hf:∀b∈L,Xt X pins H b)(h:Rj J g tt tm σ H Q) :
  codeAny (model X.prog X.w) X.A (.compLoop (.ListComp elt0 gens j l) depth (.ref F) D X.env) (λr Y=>r=.ok .next/\∃f k,Inv X pins f k Y/\Q f k) s:=by
 obtain⟨W,⟨m0,w0⟩,O⟩:=h;have y:∀{k:Hp},(∀b∈L,k b=none)->∀b∈L,Xt X pins k b:=λhn b B=>⟨hn b B,(hf b B).2⟩;have xe:∀{α:Type}{m:Sem α}{Q':α->Shared->Prop}{E:Value->Shared->Prop}{s:Shared},wpAny (model X.prog X.w) X.A m Q' X.xe s->wpAny (model X.prog X.w) X.A m Q' E s:=λq=>TJ q (λ_ _ z=>z) λ_ _ z=>by rw[hx]at z;exact z.elim
 refine codeAny_loop rfl (λn Y=>∃i f k,Inv X pins f k Y/\U i Y.heap/\(∀b∈L,k b=none)/\W i n f k) ?_ m0 ⟨0,σ,H,I,st,λb B=>(hf b B).1,w0⟩;rintro n s3 ⟨i,t,S,I3,R,P,w3⟩;show wpAny _ X.A ((compTurn (.ListComp elt0 gens j l) depth (.ref F) D X.env).onRaise (λx=>do noteFrame x X.env;theTreesLotGoes x)) _ _ s3;refine wpAny_noted ?_;rw[eq];refine qF (N5 (qF ?_));rcases O i n t S w3 with⟨M,qn⟩|⟨go,N,hN,step⟩
 ·refine thn (T.done X rfl rfl rfl hc i pins s3 t S _ I3 (y P) R M) λr s4 ⟨hr,I4⟩=>?_;subst hr;exact qV ⟨rfl,t,S,I4,qn⟩
 ·refine thn (T.item X rfl rfl rfl hc i pins s3 t S _ I3 (y P) R go) λr s4 ⟨u,hr,h4⟩=>?_;subst hr;refine qF (thn h4 λ_ s5 ⟨x,H5,I5,r5,y5,st5,fr5⟩=>?_);have Z:=I5.pinned (y fr5) (T.obj _ _ st5);refine qF (xe (thn (hg _ s5 t H5 x u _ Z r5 (step x H5 y5)) λ_ s6 ⟨σ6,H6,I6,q6⟩=>?_))
  have again:∀{p:St}{C:Hp}{G:Shared},Inv X (pins++Ry L s5.heap) p C G->N p C->∃m,m<n/\∃i f k,Inv X pins f k G/\U i G.heap/\(∀b∈L,k b=none)/\W i m f k:=λ{p C G} I7 n7=>by
   obtain⟨m',hm,w7⟩:=hN p C n7;refine⟨m',hm,i+1,p,C,I7.unpinned,T.keep _ _ _ st5 λb B o e=>(I7.pin (b,o) (qf _ (qf _ (Dw B e)))).1,λb B=>?_,w7⟩;obtain⟨o,e,d⟩:=T.obj _ _ st5 b B;exact(I7.pin (b,o) (qf _ (qf _ (Dw B e)))).2.1
  refine qF (xe (thn (ht _ s6 σ6 H6 _ I6 q6) λok G ⟨C,I7,q7⟩=>?_))
  cases ok with
  | false=>
   rw[if_neg (by decide)]at q7;exact qV ⟨rfl,again I7 q7⟩
  | true=>
   rw[if_pos rfl]at q7;refine qF (xe (thn (hm _ G σ6 C _ I7 q7) λ_ s8 ⟨σ8,H8,I8,q8⟩=>?_));exact qV ⟨rfl,again I8 q8⟩
end
section
variable{X:Cx}{pins:List (Addr×Obj)}{σ:St}{H:Hp}{s:Shared}{scope:Scope}{N' own:List Str}{fr:List Nat}
theorem sQ{k a iter:Expr}{q:List Expr}{rest:List Comprehension}{j:Pos}{g:TG}{tt:TT}{tm:Addr->TM}{t:Value->Env->Sem Unit}{u:Addr}{i:List Addr}{tn:Nat->Heap->Prop}{J:It}{Q:VK}{E:Value->Shared->Prop}{RR:Value->Addr->Result->Shared->Prop}
  (c:Yv X scope N' own fr)(hc:X.calm=true)
  (eq:∀u n l,compTurn (.ListComp k (⟨a,iter,q,0⟩::rest) scope j) 0 u n l=(do
   standAt iter.pos
   match <- pyNext u with
   | none=>pure (.done .next)
   | some v=>
    letOwnedTupleGo a u v
    assign a l v
    let mut ok:=true
    for c in q do
     if ok then ok <- isTrue c l (eval c l)
    if ok then t n l
    again (.compLoop (.ListComp k (⟨a,iter,q,0⟩::rest) scope j) 0 u n l)))
  (T:VC X.prog X.w X.K a J i u tn)
  (d:∀(Z:List (Str×Addr)) (C:Addr) (s:Shared) (H:Hp) (i:List Addr) (p:Addr),Inv X pins σ H s->(∀b∈i,Xt X pins H b)->PG (ZL X scope N' own Z C s H i) a g/\PF (ZL X scope N' own Z C s H i) q tt/\PM (ZL X scope N' own Z C s H i) (t (.ref p) (compEnvC scope Z C X.env)) (tm p))
  (I:Inv X pins σ H s)(st:tn 0 s.heap)(hf:∀b∈i,Xt X pins H b)
  (h:∀p,H p=none->Rj J g tt (tm p) (R4 own fr σ) (upd H p (.lst [])) (λ_ R=>Q (.ref p) R))
  (a1:∀(p C:Addr) (m:Str->Option Value) (R:Hp) (s':Shared),Inv X pins σ R s'->s'.heap.Ns C m->Xt X pins R C->Q (.ref p) R->RR (.ref p) C (.ok .next) s') :
  wpAny (model X.prog X.w) X.A (newList []) (λn P=>wpAny (model X.prog X.w) X.A (newFunctionEnv scope X.env.globals (clos X.env.cells scope.names []) [] X.env.qual none .none (some X.env)) (λz M=>
   codeAny (model X.prog X.w) X.A (.compStart (.ListComp k (⟨a,iter,q,0⟩::rest) scope j) 0 (.ref u) n {z with scope:=relabel scope X.env}) (RR n z.locals) M) E P) E s:=by
 refine B2 ?_;have W:Inv X pins σ (upd H s.heap.objs.size (.lst [])) {s with heap:=s.heap.push {cls:=.type "list",dict:=none,data:=.seq ([]:List Value).toArray}}:=I.lnew (t':=s.toks) .nil (V5 _);have a4:H s.heap.objs.size=none:=I.hok.fresh (qM _);generalize e3:({s with heap:=s.heap.push {cls:=.type "list",dict:=none,data:=.seq ([]:List Value).toArray}}:Shared)=s3 at W ⊢;have k3:∀b o,s.heap.get? b=some o->s3.heap.get? b=some o:=λb o e=>by rw[<- e3];exact qE _ e
 have a5:∀b∈i,b≠s.heap.objs.size:=λb d=>by
  obtain⟨o,e,_⟩:=T.obj _ _ st b d;exact qt (qJ e)
 have f:∀b∈i,Xt X pins (upd H s.heap.objs.size (.lst [])) b:=λb d=>⟨by rw[Y0 (a5 b d)];exact(hf b d).1,(hf b d).2⟩;have U:tn 0 s3.heap:=T.keep _ _ _ st λb _ o e=>k3 b o e;refine zj λh' x ns F D=>?_;have I4:=zN c W f (T.obj _ _ U) x ns F D;have N:tn 0 h':=T.keep _ _ _ U λb _ o e=>x b o e;obtain⟨hg,ht,hm⟩:=d (cellsFrom (s3.heap.objs.size+1) scope.names []++clos X.env.cells scope.names []) s3.heap.objs.size s3 (upd H s.heap.objs.size (.lst [])) i s.heap.objs.size W f
 have a3:∀b∈i,Xt (ZL X scope N' own (cellsFrom (s3.heap.objs.size+1) scope.names []++clos X.env.cells scope.names []) s3.heap.objs.size s3 (upd H s.heap.objs.size (.lst [])) i) [] (upd H s.heap.objs.size (.lst [])) b:=λb d=>
  ⟨(f b d).1,(I4.ok.exf b d).1,I4.ok.exfs b d,.inl d,(I4.ok.exf b d).2,λp hp=>absurd (show p∈([]:List (Addr×Obj))from hp) (by simp)⟩
 have y:codeAny (model X.prog X.w) X.A (.compLoop (.ListComp k (⟨a,iter,q,0⟩::rest) scope j) 0 (.ref u) (.ref s.heap.objs.size) (compEnvC scope (cellsFrom (s3.heap.objs.size+1) scope.names []++clos X.env.cells scope.names []) s3.heap.objs.size X.env)) (RR (.ref s.heap.objs.size) s3.heap.objs.size) {s3 with heap:=h'}:=by
  refine Oh (my (X:=ZL X scope N' own (cellsFrom (s3.heap.objs.size+1) scope.names []++clos X.env.cells scope.names []) s3.heap.objs.size s3 (upd H s.heap.objs.size (.lst [])) i) (pins:=[]) rfl hc (eq _ _ _) T hg ht hm I4 N a3 (h _ a4)) λr O hr=>?_;obtain⟨rfl,a6,S,G,q5⟩:=hr;obtain⟨m,hn,_⟩:=id G.loc;have u5:Un (VR X.stack) i (upd H s.heap.objs.size (.lst [])) S s3.heap O.heap:=G.base;have Y:Yt X.prog X.w S O.heap:=G.hok;have a2:O.os=s3.os:=G.os;have B:=G.bare;have L:S s3.heap.objs.size=none:=G.free;have hn:O.heap.Ns s3.heap.objs.size m:=hn;clear G;obtain⟨hh,gg,dd,tk,a0⟩:=O;obtain rfl:a0=s3.os:=a2;have I6:Inv X pins σ S {s3 with heap:=hh,gens:=gg,drawn:=dd,toks:=tk}:=W.call (ch:=i) u5 Y B λb d=>⟨(f b d).2.2.2.1,(f b d).2.1,(f b d).2.2.2.2.1,(f b d).2.2.2.2.2⟩;exact a1 _ _ m S _ I6 hn (W.fpOk (qM _) L) q5
 exact codeAny_compStart_list y (T.self _ 0 _ _ _ N y)
theorem jE{i a iter:Expr}{j:List Expr}{rest:List Comprehension}{f:Pos}{g:TG}{F:TT}{D:Addr->TM}{k:Value->Env->Sem Unit}{o:Addr}{l:List Addr}{z:Nat->Heap->Prop}{J:It}{Q:VK}{E:Value->Shared->Prop}{B:Value->Addr->Result->Shared->Prop}
  (c:Yv X scope N' own fr)(L:X.calm=true)
  (O:∀o e d,compTurn (.ListComp i (⟨a,iter,j,0⟩::rest) scope f) 0 o e d=(do
   standAt iter.pos
   match <- pyNext o with
   | none=>pure (.done .next)
   | some v=>
    letOwnedTupleGo a o v
    assign a d v
    let mut ok:=true
    for c in j do
     if ok then ok <- isTrue c d (eval c d)
    if ok then k e d
    again (.compLoop (.ListComp i (⟨a,iter,j,0⟩::rest) scope f) 0 o e d)))
  (T:VC X.prog X.w X.K a J l o z)
  (M:∀(q:List (Str×Addr)) (C:Addr) (s:Shared) (H:Hp) (l:List Addr) (p:Addr),PG (ZL X scope N' own q C s H l) a g/\PF (ZL X scope N' own q C s H l) j F/\PM (ZL X scope N' own q C s H l) (k (.ref p) (compEnvC scope q C X.env)) (D p))
  (I:Inv X pins σ H s)(N:z 0 s.heap)(G:∀b∈l,Xt X pins H b)
  (h:∀p,H p=none->Rj J g F (D p) (R4 own fr σ) (upd H p (.lst [])) (λ_ u=>Q (.ref p) u))
  (x:∀(p C:Addr) (m:Str->Option Value) (u:Hp) (y:Shared),Inv X pins σ u y->y.heap.Ns C m->Xt X pins u C->Q (.ref p) u->B (.ref p) C (.ok .next) y) :
  wpAny (model X.prog X.w) X.A (newList []) (λe t=>wpAny (model X.prog X.w) X.A (newFunctionEnv scope X.env.globals (clos X.env.cells scope.names []) [] X.env.qual none .none (some X.env)) (λn r=>
   codeAny (model X.prog X.w) X.A (.compStart (.ListComp i (⟨a,iter,j,0⟩::rest) scope f) 0 (.ref o) e {n with scope:=relabel scope X.env}) (B e n.locals) r) E t) E s:=sQ c L O T (λq C s H l p _ _=>M q C s H l p) I N G h x
def Qi(b:TI)(g:TG)(c:TT)(e:Addr->TM)(own:List Str)(fr:List Nat):TE:=λσ H Q=>b σ H λJ a=>∀p,a p=none->Rj J g c (e p) (R4 own fr σ) (upd a p (.lst [])) (λ_ d=>Q (.ref p) d)
theorem zaho{i a iter:Expr}{j:List Expr}{rest:List Comprehension}{f:Pos}{z:TI}{g:TG}{B:TT}{A:Addr->TM}{emit:Value->Env->Sem Unit}(c:Yv X scope N' own fr)(R:X.calm=true)
  (Y:∀l k d,compTurn (.ListComp i (⟨a,iter,j,0⟩::rest) scope f) 0 l k d=(do
   standAt iter.pos
   match <- pyNext l with
   | none=>pure (.done .next)
   | some v=>
    letOwnedTupleGo a l v
    assign a d v
    let mut ok:=true
    for c in j do
     if ok then ok <- isTrue c d (eval c d)
    if ok then emit k d
    again (.compLoop (.ListComp i (⟨a,iter,j,0⟩::rest) scope f) 0 l k d)))
  (P:PI X a iter z)
  (w:∀(r:List (Str×Addr)) (C:Addr) (s:Shared) (H:Hp) (t:List Addr) (p:Addr),PG (ZL X scope N' own r C s H t) a g/\PF (ZL X scope N' own r C s H t) j B/\PM (ZL X scope N' own r C s H t) (emit (.ref p) (compEnvC scope r C X.env)) (A p))
  (U:∀x,foldedSetIterable iter X.env x=pure x:=by intro _;rfl) :
  PE X (.ListComp i (⟨a,iter,j,0⟩::rest) scope f) (Qi z g B A own fr):=by
 intro pins s σ H Q I h;rw[eval_ListComp];refine jA (use:=none) rfl U (kD (zO c I.ok)) c.kind (λy O e=>(c.names y O).trans (by rw[e])) ?_;refine thn (P pins s σ H _ I h) λv s1 L=>thn L λF s2 N=>?_;obtain⟨l,t,tn,J,H2,e,D,T,u,G,q⟩:=N;subst e;refine jE (Q:=Q) c R Y T w D u G q λp C m M W S E n Z=>?_;exact⟨m,E,λh' sb=>⟨.ref p,M,S.turned (t':=W.toks) (λb o w e=>(sb.2 b w).trans e) n.1 n.2.1 n.2.2.2.1 n.2.2.2.2.1 n.2.2.2.2.2,rfl,Z⟩⟩
def Jc(d:TI)(g:TG)(b:TT)(c:Addr->TM)(own:List Str)(fr:List Nat)(i:Nat):TS:=λD σ H=>Qi d g b c own fr σ H λv a=>D.nx (σ.set i (some v)) a
theorem zasd{j d iter:Expr}{k:List Expr}{rest:List Comprehension}{f n w:Pos}{U:TI}{g:TG}{Z:TT}{W:Addr->TM}{emit:Value->Env->Sem Unit}{i:Nat}{y:Str}(c:Yv X scope N' own fr)(hc:X.calm=true)
  (eq:∀u r l,compTurn (.ListComp j (⟨d,iter,k,0⟩::rest) scope f) 0 u r l=(do
   standAt iter.pos
   match <- pyNext u with
   | none=>pure (.done .next)
   | some v=>
    letOwnedTupleGo d u v
    assign d l v
    let mut ok:=true
    for c in k do
     if ok then ok <- isTrue c l (eval c l)
    if ok then emit r l
    again (.compLoop (.ListComp j (⟨d,iter,k,0⟩::rest) scope f) 0 u r l)))
  (hi:PI X d iter U)
  (P:∀(z:List (Str×Addr)) (C:Addr) (s:Shared) (H:Hp) (B:List Addr) (p:Addr),PG (ZL X scope N' own z C s H B) d g/\PF (ZL X scope N' own z C s H B) k Z/\PM (ZL X scope N' own z C s H B) (emit (.ref p) (compEnvC scope z C X.env)) (W p))
  (O:swapsWith (.ListComp j (⟨d,iter,k,0⟩::rest) scope f) (some (.Name y w)) n.line X.env=pure true)
  (hN:X.N.Nodup)(M:X.N[i]?=some y)(Y:X.env.scope.names.lookup y=some .local)
  (hs:∀x,foldedSetIterable iter X.env x=pure x:=by intro _;rfl) :
  PS X (.Assign [.Name y w] (.ListComp j (⟨d,iter,k,0⟩::rest) scope f) n) (Jc U g Z W own fr i):=by
 intro pins s σ H D I h;rw[exec_Assign_Name_used _ _ _ _ O];refine qF (N5 (qF ?_));show wpAny _ X.A (do let _ <- comprehension (.ListComp j (⟨d,iter,k,0⟩::rest) scope f) scope X.env _ (newList []) false (eval iter X.env) (some (assign (.Name y w) X.env))) _ _ s;refine qF (thn (jA (use:=some (assign (.Name y w) X.env)) (Q:=λ_ S=>SP X pins D .next S) rfl hs (kD (zO c I.ok)) c.kind (λy M e=>(c.names y M).trans (by rw[e])) ?_) λ_ S q=>qV (qV q));refine thn (hi pins s σ H _ I h) λv s1 h1=>thn h1 λa0 s2 h2=>?_;obtain⟨u,B,tn,J,H2,e,I2,T,E,f2,q⟩:=h2;subst e;refine jE (Q:=λv L=>D.nx (σ.set i (some v)) L) c hc eq T P I2 E f2 q λp C m L S I' hn t q'=>?_;show wpAny _ X.A (assign (.Name y w) X.env (.ref p)) _ _ _;refine wpAny_assign_Name (FW I' hN M (.inl Y) (v:=.ref p) rfl (λs'' I'' ⟨a,sb,F⟩=>?_) (.inr Y))
 have G:C≠a:=by
  rcases F with rfl|F
  ·exact t.2.1
  ·exact Xs (t.2.2.2.2.1 y a F)
 refine⟨m,hn.sameBut sb G,λh' R=>⟨σ.set i (some (.ref p)),L,I''.turned (t':=s''.toks) (λb o P e=>(R.2 b P).trans e) t.1 t.2.1 t.2.2.2.1 t.2.2.2.2.1 t.2.2.2.2.2,q'⟩⟩
end
section
variable{X:Cx}
section
variable{scope:Scope}{N' own:List Str}{fr:List Nat}{elt target iter:Expr}{ifs:List Expr}{cpos:Pos}{wi:TI}{g:TG}{tt:TT}{te:TE}
def Xf(wi:TI)(g:TG)(tt:TT)(te:TE)(own:List Str)(fr:List Nat):TE:=Qi wi g tt (λp=>Su p te) own fr
theorem p7(c:Yv X scope N' own fr)(j:X.calm=true)(i:PI X target iter wi)
  (e:∀(a:List (Str×Addr)) (C:Addr) (s:Shared) (H:Hp) (b:List Addr),PG (ZL X scope N' own a C s H b) target g/\PF (ZL X scope N' own a C s H b) ifs tt/\PE (ZL X scope N' own a C s H b) elt te)
  (h:∀x,foldedSetIterable iter X.env x=pure x:=by intro _;rfl):PE X (.ListComp elt [⟨target,iter,ifs,0⟩] scope cpos) (Xf wi g tt te own fr):=
 zaho (emit:=λf d=>do let _ <- call (.builtin "list.append") [f,<- eval elt d]) c j (λ_ _ _=>rfl) i
  (λa C s H b p=>⟨(e a C s H b).1,(e a C s H b).2.1,Mh (e a C s H b).2.2⟩) h
def Vo(wi:TI)(g:TG)(tt:TT)(te:TE)(own:List Str)(fr:List Nat)(i:Nat):TS:=Jc wi g tt (λp=>Su p te) own fr i
theorem tF{a k:Pos}(c:Yv X scope N' own fr)(o:X.calm=true)(n:PI X target iter wi)
  (h:∀(b:List (Str×Addr)) (C:Addr) (s:Shared) (H:Hp) (d:List Addr),PG (ZL X scope N' own b C s H d) target g/\PF (ZL X scope N' own b C s H d) ifs tt/\PE (ZL X scope N' own b C s H d) elt te)
  (e:swapsWith (.ListComp elt [⟨target,iter,ifs,0⟩] scope cpos) (some (.Name y k)) a.line X.env=pure true)
  (l:X.N.Nodup)(r:X.N[i]?=some y)(q:X.env.scope.names.lookup y=some .local)
  (m:∀x,foldedSetIterable iter X.env x=pure x:=by intro _;rfl):PS X (.Assign [.Name y k] (.ListComp elt [⟨target,iter,ifs,0⟩] scope cpos) a) (Vo wi g tt te own fr i):=
 zasd (emit:=λj f=>do let _ <- call (.builtin "list.append") [j,<- eval elt f]) c o (λ_ _ _=>rfl) n
  (λb C s H d p=>⟨(h b C s H d).1,(h b C s H d).2.1,Mh (h b C s H d).2.2⟩) e l r q m
end
def xN:R2:=λx y H Q=>∃z n,x=.str z/\y=.int n/\z.length<=1000/\-1000<=n/\n<=1000/\Q (.str (Txt.mul z n)) H
theorem Ao:X2 X (binaryOp .Mult) xN:=by
 intro a s σ H x y v u Q I e d h;obtain⟨z,n,rfl,rfl,c,g,f,q⟩:=h;obtain⟨t,rfl⟩:=e;obtain⟨b,rfl⟩:=d;exact SB.mul (mulOk_of 1000 1000 c (by omega) (by omega) (by decide) (by decide)) λb k=>⟨.str (Txt.mul z n),H,I.tok _,⟨_,rfl⟩,q⟩
def AJ:V->Option Int->Option Int->Hp->VK->Prop:=λx b a H Q=>∃z,x=.str z/\z.length<=qa/\Q (.str (Txt.slice z b a)) H
theorem p4:Li X AJ:=by
 intro b s σ H x v B y g f A Q I r d w n h;obtain⟨z,rfl,p,q⟩:=h;obtain⟨t,rfl⟩:=r;refine⟨"str",_,F.slot_str_getitem.lookup,typeIs_str _ _ _,?_⟩;have a:∀m k,EP X b σ Q (.str (Txt.slice z g f) m) {s with toks:=k}:=λm k=>⟨.str (Txt.slice z g f),H,I.tok _,⟨_,rfl⟩,q⟩;have c:(Txt.slice z g f).length<=qa:=WT (Txt.slice_le z _ _) p
 cases w with
 | none=>cases n with
  | none=>exact Dj (l:=none) (u:=none) (st:=none) d rfl (Cp ⟨c,a⟩)
  | int j e=>exact Dj (l:=none) (u:=some (j,e)) (st:=none) d rfl (Cp ⟨c,a⟩)
 | int i o=>cases n with
  | none=>exact Dj (l:=some (i,o)) (u:=none) (st:=none) d rfl (Cp ⟨c,a⟩)
  | int j e=>exact Dj (l:=some (i,o)) (u:=some (j,e)) (st:=none) d rfl (Cp ⟨c,a⟩)
def Gi:V->List V->Hp->VK->Prop:=λx vs H Q=>∃d o a more,x=.ref d/\vs=[.ref o]/\d≠o/\H d=some (.dK a)/\H o=some (.dK more)/\a.length+more.length<=qa/\Q .non (upd H d (.dK (Tx a more)))
theorem GD:KG X "dict.update" Gi:=by
 intro n s σ H x vs v N Q I E r h;obtain⟨d,o,k,more,rfl,rfl,j,p,C,l,q⟩:=h;cases E;obtain⟨u,rfl,A⟩:=r.one;cases A;obtain⟨L,z,f,b,c⟩:=Qq I.hok p;obtain⟨M,t,g,a,i⟩:=Qq I.hok C;refine call_meetsIn F.slot_dict_update c.typeIs F.entry_dict_update (F.args_dict_update_2 _ _) (meets_dict_update (Wv X.prog X.w) d o j t) ⟨f,g,c,i,?_,λD m J G=>?_⟩
 ·rw[<- b.length,<- a.length];exact l
 ·have y:∃q,D.get? d=some q:=by obtain⟨B,_,_,e,_⟩:=m;exact⟨B,e⟩
  refine⟨.non,_,DR (t':=s.toks) I (by rw[p];trivial) G y (OW (WT (B4 more k) l) z (a.merge b) m),rfl,q⟩
theorem BV{f:String}(a:f="isinstance"):YQ X (.builtin f) (λc H Q=>∃x n t b,c=[x,.ty n]/\Xo X.K H x t/\kitOne X.K t (.type n)=some b/\Q (.bl b) H):=by
 subst a;intro d s σ H c l Q I r h;obtain⟨x,n,t,b,rfl,g,e,q⟩:=h;obtain⟨u,m,rfl,j,i⟩:=UL r;cases i;exact pP I j g e λk=>⟨.bl b,H,I.tok _,rfl,q⟩
end
mutual
def VL(K:qC)(H:Hp):PyData->V->Prop
 | .none,v=>v=.non
 | .bool b,v=>v=.bl b
 | .int i,v=>v=.int i
 | .str x,v=>v=.str x
 | .list d,v=>∃a c,v=.ref a/\YK K H a c/\Vx K H d c
 | .tuple d,v=>∃a c,v=.ref a/\Yh K H a c/\Vx K H d c
 | .dict _,_=>False
def Vx(K:qC)(H:Hp):List PyData->List V->Prop
 | [],a=>a=[]
 | d::b,a=>∃v vs,a=v::vs/\VL K H d v/\Vx K H b vs
end
mutual
theorem OG{X:Cx}{s:Shared}(I:Inv X w σ H s):∀(d:PyData){v:V}{u:Value},VL X.K H d v->ZF v u->∃f,Reads s.heap u d f
 | .none,v,u,h,r=>by unfold VL at h;subst h;cases r;exact⟨_,.none⟩
 | .bool b,v,u,h,r=>by unfold VL at h;subst h;cases r;exact⟨_,.bool b⟩
 | .int i,v,u,h,r=>by unfold VL at h;subst h;obtain⟨t,rfl⟩:=r;exact⟨_,.int i t⟩
 | .str x,v,u,h,r=>by unfold VL at h;subst h;obtain⟨t,rfl⟩:=r;exact⟨_,.str x t⟩
 | .list ds,v,u,h,r=>by
  unfold VL at h;obtain⟨a,y,rfl,k,g⟩:=h;cases r;obtain⟨e,c,p,z⟩:=I.list k;obtain⟨f,q⟩:=Xi I ds g c;obtain⟨o,l,m,n,j⟩:=p.isList;exact⟨_,reads_list_at l m j (by simpa using q)⟩
 | .tuple ds,v,u,h,r=>by
  unfold VL at h;obtain⟨a,y,rfl,k,g⟩:=h;cases r;obtain⟨e,c,p,z⟩:=I.tuple k;obtain⟨f,q⟩:=Xi I ds g c;obtain⟨o,l,m,n,j⟩:=p;exact⟨_,reads_tuple_at l m j (by simpa using q)⟩
 | .dict _,_,_,h,_=>by unfold VL at h;exact h.elim
theorem Xi{X:Cx}{s:Shared}(I:Inv X e σ H s):∀(b:List PyData){vs:List V}{a:List Value},Vx X.K H b vs->ZJ vs a->∃c,ReadsAll s.heap a b c
 | [],vs,a,h,r=>by unfold Vx at h;subst h;cases r;exact⟨_,.nil⟩
 | d::b,vs,a,h,r=>by
  unfold Vx at h;obtain⟨v,i,rfl,j,k⟩:=h
  cases r with
  | cons r f=>
   obtain⟨c,g⟩:=OG I d j r;obtain⟨bs,l⟩:=Xi I b k f;exact⟨_,.cons g l⟩
end
theorem Yh.same{K:qC}{H b:Hp}{a:Addr}{c:List V}(h:Z3 H b)(q:Yh K H a c):Yh K b a c:=by
 rcases q with(q|⟨o,q⟩)|q
 ·exact .inl (.inl (h _ _ q))
 ·exact .inl (.inr ⟨o,h _ _ q⟩)
 ·exact .inr q
section
variable{X:Cx}
def UC(K:qC)(a:Bool):R2:=λx y H Q=>∃d e,VL K H d x/\VL K H e y/\qm d=true/\qm e=true/\Q (.bl (if a then !PyData.eqv d e else Xn d e)) H
theorem pS(f:X.A.units+64<cLine):X2 X (compareOp .Eq) (UC X.K false):=by
 intro a s σ H x y v u Q I m l h;obtain⟨d,e,b,g,i,j,q⟩:=h;obtain⟨n,c⟩:=OG I d b m;obtain⟨bs,k⟩:=OG I e g l;exact eq_dataH c k i j f ⟨.bl (Xn d e),H,I,rfl,q⟩
theorem yZ(f:X.A.units+64<cLine):X2 X (compareOp .NotEq) (UC X.K true):=by
 intro a s σ H x y v u Q I m l h;obtain⟨d,e,b,g,i,j,q⟩:=h;obtain⟨n,c⟩:=OG I d b m;obtain⟨bs,k⟩:=OG I e g l;exact ne_dataH c k i j f ⟨.bl (!PyData.eqv d e),H,I,rfl,q⟩
theorem IF{bs:List Bool}:∀{a:List Value},ZJ (bs.map V.bl) a->a=bs.map Value.bool:=by
 induction bs with
 | nil=>intro a r;cases r;rfl
 | cons b bs d=>
  intro a r
  cases r with
  | cons r c=>cases r;rw[d c];rfl
theorem oq(bs:List Bool):(List.range bs.length).any (λi=>bs.getD i false)=bs.any id:=by
 rw[TH,RF,RF];constructor
 ·rintro⟨i,a,h⟩;have a:=TY.mp a;rw[Se,qH a]at h;exact⟨_,SZ a,h⟩
 ·rintro⟨b,c,h⟩;obtain⟨i,a,e⟩:=DT c;exact⟨i,TY.mpr a,by rw[Se,qH a,e];exact h⟩
theorem vA(bs:List Bool):(List.range bs.length).all (λi=>bs.getD i false)=bs.all id:=by
 rw[TH,Ug,Ug];constructor
 ·intro h b c;obtain⟨i,a,e⟩:=DT c;have q:=h i (TY.mpr a);rw[Se,qH a,e]at q;exact q
 ·intro h i a;have a:=TY.mp a;have q:=h _ (SZ a);rw[Se,qH a];exact q
def Sw(K:qC)(f:List Bool->Bool):List V->Hp->VK->Prop:=λa H Q=>∃p bs,a=[.ref p]/\YK K H p (bs.map V.bl)/\Q (.bl (f bs)) H
theorem wG(l:X.calm=true):YQ X (.builtin "any") (Sw X.K λbs=>bs.any id):=by
 intro g s σ H C F Q I r h;obtain⟨p,bs,rfl,t,q⟩:=h;obtain⟨u,rfl,m⟩:=U3 r;cases m;obtain⟨k,j,d,B⟩:=I.list t;cases IF j;have f:p≠s.heap.objs.size:=by obtain⟨o,e,_⟩:=d.isList;exact qt (qJ e)
 refine call_any_walk (Qf d.isList ⟨s.heap.objs.size,_,_,_,_,_,λi=>bs.getD i false,rfl,Walks.list (A:=X.A.in1) (show X.A.in1.handled=none from I.ok.hd l) _ p f (bs.map Value.bool).toArray,⟨⟨_,qd _ rfl,rfl,rfl⟩,?_⟩,?_,?_⟩)
 ·obtain⟨o,e,z⟩:=d.isList;exact⟨o,qE _ e,z⟩
 ·intro i v y w D a c;have a:(bs.map Value.bool)[i]?=some v:=by simpa using a
  rw[qW]at a
  cases e:bs[i]? with
  | none=>rw[e]at a;cases a
  | some b=>
   rw[e]at a;cases a;have z:bs.getD i false=b:=by rw[Se,e];rfl
   have c:w (bs.getD i false) y:=c;rw[z]at c;exact Fs c
 ·intro E x n;refine⟨.bl (bs.any id),H,?_,by rw[<- oq bs];simp;rfl,q⟩;exact I.kept (t':=x) λb o e=>n b o (by have:=qJ e;simp;exact qt this) (qE _ e)
theorem uO(l:X.calm=true):YQ X (.builtin "all") (Sw X.K λbs=>bs.all id):=by
 intro g s σ H C F Q I r h;obtain⟨p,bs,rfl,t,q⟩:=h;obtain⟨u,rfl,m⟩:=U3 r;cases m;obtain⟨k,j,d,B⟩:=I.list t;cases IF j;have f:p≠s.heap.objs.size:=by obtain⟨o,e,_⟩:=d.isList;exact qt (qJ e)
 refine call_all_walk (Qf d.isList ⟨s.heap.objs.size,_,_,_,_,_,λi=>bs.getD i false,rfl,Walks.list (A:=X.A.in1) (show X.A.in1.handled=none from I.ok.hd l) _ p f (bs.map Value.bool).toArray,⟨⟨_,qd _ rfl,rfl,rfl⟩,?_⟩,?_,?_⟩)
 ·obtain⟨o,e,z⟩:=d.isList;exact⟨o,qE _ e,z⟩
 ·intro i v y w D a c;have a:(bs.map Value.bool)[i]?=some v:=by simpa using a
  rw[qW]at a
  cases e:bs[i]? with
  | none=>rw[e]at a;cases a
  | some b=>
   rw[e]at a;cases a;have z:bs.getD i false=b:=by rw[Se,e];rfl
   have c:w (bs.getD i false) y:=c;rw[z]at c;exact Fs c
 ·intro E x n;refine⟨.bl (bs.all id),H,?_,by rw[<- vA bs];simp;rfl,q⟩;exact I.kept (t':=x) λb o e=>n b o (by have:=qJ e;simp;exact qt this) (qE _ e)
end
def MU(o:Option NameKind):Bool:=o==some .cell||o==some .free
def Gz(c:Scope)(N:List Str)(a:Scope)(b own:List Str)(fr:List Nat):Bool:=
 (a.kind==.function)&&(a.names.all λy=>a.names.lookup y.1==some y.2)&&(a.names.all λy=>!(y.2==.free)||MU (c.names.lookup y.1))&&
 (b==own++fr.map λj=>N.getD j Str.empty)&&(fr.all λj=>decide (j<N.length)&&(a.names.lookup (N.getD j Str.empty)==some .free))&&
 (own.all λx=>a.names.lookup x==some .local||a.names.lookup x==some .cell)
section
variable{X:Cx}
theorem Wm(h:Gz X.env.scope X.N a N' own fr=true):Yv X a N' own fr:=by
 unfold Gz at h;simp only[qe]at h;obtain⟨⟨⟨⟨⟨k,m⟩,i⟩,f⟩,l⟩,d⟩:=h;refine⟨eq_of_beq k,λy b=>eq_of_beq (Ug.mp m y b),λy b e=>?_,eq_of_beq f,λj g=>?_,λx c=>?_⟩
 ·have q:=Ug.mp i y b;rw[e]at q;have q:MU (X.env.scope.names.lookup y.1)=true:=by simpa using q
  unfold MU at q;rcases JD.mp q with z|z
  ·exact .inl (eq_of_beq z)
  ·exact .inr (eq_of_beq z)
 ·have q:=Ug.mp l j g;rw[qe]at q;exact⟨of_decide_eq_true q.1,eq_of_beq q.2⟩
 ·have q:=Ug.mp d x c;rcases JD.mp q with z|z
  ·exact .inl (eq_of_beq z)
  ·exact .inr (eq_of_beq z)
def Po(K:qC):R2:=λx y H Q=>match x,y with
 | .int i,.int j=>Q (.int (i+j)) H
 | .str a,.str b=>a.length+b.length<=qa/\Q (.str (a++b)) H
 | .ref _,.ref _=>IU x y H Q\/II K x y H Q
 | _,_=>False
theorem y8:X2 X (binaryOp .Add) (Po X.K):=by
 intro a s σ H x y v u Q I c b h
 cases x<;>cases y<;>first
  | exact h.elim
  | exact wN a s σ H _ _ v u Q I c b ⟨_,_,rfl,rfl,h⟩
  | exact uK a s σ H _ _ v u Q I c b ⟨_,_,rfl,rfl,h.1,h.2⟩
  | exact(ua.or A8) a s σ H _ _ v u Q I c b h
def NC:R2:=λx y H Q=>match x,y with
 | .int i,.int j=>OK i j/\Q (.int (i * j)) H
 | .str z,.int n=>z.length<=1000/\-1000<=n/\n<=1000/\Q (.str (Txt.mul z n)) H
 | _,_=>False
theorem QX:X2 X (binaryOp .Mult) NC:=by
 intro a s σ H x y v u Q I c b h
 cases x<;>cases y<;>first
  | exact h.elim
  | exact wV a s σ H _ _ v u Q I c b ⟨_,_,rfl,rfl,h.1,h.2⟩
  | exact Ao a s σ H _ _ v u Q I c b ⟨_,_,rfl,rfl,h.1,h.2.1,h.2.2.1,h.2.2.2⟩
def T3(K:qC):R2:=λx y H Q=>match x,y with
 | .str z,.int i=>z.length<=qa/\∃c,atI z.cps.toList i=some c/\Q (.str ⟨#[c]⟩) H
 | .ref p,.int i=>∃a v,(YK K H p a\/Yh K H p a)/\atI a i=some v/\Q v H
 | _,_=>False
theorem wH:Ou X (T3 X.K):=by
 intro a slice b s σ H x y v u Q I i j h g
 cases x<;>cases y<;>first
  | exact h.elim
  | (obtain⟨d,c,f,e⟩:=h;exact xP a slice b s σ H _ _ v u Q I i j ⟨_,_,c,rfl,rfl,d,f,e⟩ g)
  | (obtain⟨k,w,d,f,e⟩:=h
     rcases d with d|d
     ·exact rJ a slice b s σ H _ _ v u Q I i j ⟨_,k,_,w,rfl,rfl,d,f,e⟩ g
     ·exact A9 a slice b s σ H _ _ v u Q I i j ⟨_,k,_,w,rfl,rfl,d,f,e⟩ g)
def OL(K:qC):V->Option Int->Option Int->Hp->VK->Prop:=λx b a H Q=>match x with
 | .str z=>z.length<=qa/\Q (.str (Txt.slice z b a)) H
 | .ref _=>HE K x b a H Q
 | _=>False
theorem uy:Li X (OL X.K):=by
 intro a s σ H x v i c f e g Q I j d k b h
 cases x<;>first
  | exact h.elim
  | exact p4 a s σ H _ v i c f e g Q I j d k b ⟨_,rfl,h.1,h.2⟩
  | exact nI a s σ H _ v i c f e g Q I j d k b h
def Dn(P:Program)(w:World)(K:qC)(b:Str->Option Value)(base:Heap)(x:Str)(ps:List Str)(k:Nat)(c:Sp):Prop:=
 ∃f a,Zu P w K b base Yz k f a ps c/\b x=some (.ref f)/\RJ K (.ref f)=true/\Vm K a ps []
theorem vx(D:Dn X.prog X.w X.K X.mg X.base x r k m)(h:Y5 k X.A)(n:Gl X x)(g:PA X (e::a) t)
  (d:(x==("__debug__":Str))=false:=by decide)(l:starEach (e::a) X.env=(false,eval e X.env)::starEach a X.env:=by rfl)(c:(backTo b (starEach a X.env)).any (·.1)=false:=by rfl) :
  PE X (.Call (.Name x p) (e::a) [] b) (X7 m [] E0 t):=by
 obtain⟨f,q,F,i,o,j⟩:=D;exact Fv F h n i o j .nil An g d l c
end
theorem Z3.upd(h:Z3 H a)(c:H p=none):Z3 H (upd a p o):=λb u e=>by rw[Y0 (VG e c)];exact h b u e
theorem Z3.new(a:H p=none):Z3 H (L2.upd H p o):=(Z3.refl H).upd a
end L2
namespace Bc
open PySem L2
abbrev YD:=List (Str×List Str)
def nm(W:YD):List Str:=W.map (·.1)
structure ZV(W:YD):Prop where
 nd:(nm W).Nodup
 el:∀i n es,W[i]?=some (n,es)->∀e∈es,e∈nm (W.take i)
 few:∀p∈W,p.2.length<=4
 len:W.length<=12
theorem Gw[DecidableEq α]:∀(l m:List α),l.Nodup->(∀x∈l,x∈m)->l.length<=m.length
 | [],_,_,_=>V5 _
 | a::l,m,h,s=>by
  obtain⟨e,d⟩:=Vl.mp h;have c:=s a qX;have q:=Gw l (m.erase a) d λx b=>(List.mem_erase_of_ne (λ(z:x=a)=>e (by rw[<- z];exact b))).mpr (s x (qI _ b));rw[List.length_erase_of_mem c]at q;have:=j9 c;rw[qu];omega
theorem Nn(h:ZV W):(nm W).length<=12:=by unfold nm;rw[qD];exact h.len
end Bc
namespace L2
open PySem PySem.Spec PyProof.Rows
section
variable{X:Cx}{K:qC}(hK:X.K=K)
include hK
theorem AY(e:X.calm=true)(h:Pt X a t)
  (d:(assignEach a X.env).length=n:=by rfl) (b:(assignEach a X.env).findIdx? (·.1)=none:=by rfl):PG X (.Tuple a k c) (T4 K n t):=by subst hK;exact sV e h d b
theorem Ym:Ou X (T3 K):=by subst hK;exact wH
theorem T9:Li X (OL K):=by subst hK;exact uy
theorem V8:X2 X (binaryOp .Add) (Po K):=by subst hK;exact y8
theorem JK:X2 X (compareOp .In) (Kf K false):=by subst hK;exact nQ
theorem KN:X2 X (compareOp .NotIn) (Kf K true):=by subst hK;exact uC
theorem UK:YQ X (.builtin "len") (λxs H Q=>∃x n,xs=[x]/\Qe K x H n/\Q (.int n) H):=by subst hK;exact vZ
theorem Dv(a:X.calm=true):YQ X (.builtin "any") (Sw K λbs=>bs.any id):=by subst hK;exact wG a
theorem J7(a:X.calm=true):YQ X (.builtin "all") (Sw K λbs=>bs.all id):=by subst hK;exact uO a
theorem FF:YQ X (.builtin "isinstance") (λa H Q=>∃x n t b,a=[x,.ty n]/\Xo K H x t/\kitOne K t (.type n)=some b/\Q (.bl b) H):=by subst hK;exact BV rfl
theorem Kb:YQ X (.type "list") (λb H Q=>∃p a,b=[.ref p]/\(YK K H p a\/Yh K H p a)/\∀l,H l=none->Q (.ref l) (upd H l (.lst a))):=by subst hK;exact w6
theorem tT(b:PE X l a):PI X c l (ES K a):=by subst hK;exact Bf b
theorem NF{T:String}{b:Str}{k:String}{r:V->List V->Hp->VK->Prop}{o e:Expr}{g:List Expr}{m:TE}{t:TA}{d a:Pos}(p:PlainAttrs T)(j:Slot T b k)(l:typeOf (.builtin k)=pure (.type "method_descriptor"))(q:Lf X k r)(u:PE X o m)(n:PA X (e::g) t)
  (f:attributeBase o b X.env (eval o X.env)=eval o X.env:=by rfl)
  (i:((backTo a (starEach (e::g) X.env)).all (λx=>!x.1)&&(backToKw a (keywordEach [] X.env)).all (λx=>x.1.isSome)
   && decide ((e::g).length+([]:List Keyword).length+(if([]:List Keyword).isEmpty then 0 else 1)<30))=true:=by rfl)
  (h:(d.endLine==a.line)=true:=by rfl)(s:starEach (e::g) X.env=(false,eval e X.env)::starEach g X.env:=by rfl)(c:(backTo a (starEach g X.env)).any (·.1)=false:=by rfl) :
  PE X (.Call (.Attribute o b d) (e::g) [] a) (QD K T r m t):=by subst hK;exact vX p j l q u n f i h s c
end
def Zd:PyData->Option Y7
 | .int i=>some (Sum.inl i)
 | .str s=>some (Sum.inr s)
 | _=>none
mutual
def Rp(H:Hp):PyData->V->Prop
 | .none,v=>v=.non
 | .bool b,v=>v=.bl b
 | .int i,v=>v=.int i
 | .str x,v=>v=.str x
 | .list e,v=>∃a c,v=.ref a/\H a=some (.lst c)/\ZH H e c
 | .tuple e,v=>∃a c,v=.ref a/\H a=some (.tup c)/\ZH H e c
 | .dict d,v=>∃a f,v=.ref a/\H a=some (.dK f)/\YP H d f
def ZH(H:Hp):List PyData->List V->Prop
 | [],a=>a=[]
 | d::b,a=>∃v vs,a=v::vs/\Rp H d v/\ZH H b vs
def YP(H:Hp):List (PyData×PyData)->List (Y7×V)->Prop
 | [],a=>a=[]
 | (k,d)::r,a=>∃b v vs,a=(b,v)::vs/\Zd k=some b/\Rp H d v/\YP H r vs
end
mutual
theorem Rp.same(h:Z3 H j):∀(d:PyData){v:V},Rp H d v->Rp j d v
 | .none,v,q=>by unfold Rp at q ⊢;exact q
 | .bool b,v,q=>by unfold Rp at q ⊢;exact q
 | .int i,v,q=>by unfold Rp at q ⊢;exact q
 | .str x,v,q=>by unfold Rp at q ⊢;exact q
 | .list ds,v,q=>by
  unfold Rp at q ⊢;obtain⟨a,c,e,f,g⟩:=q;exact⟨a,c,e,h _ _ f,ZH.same h ds g⟩
 | .tuple ds,v,q=>by
  unfold Rp at q ⊢;obtain⟨a,c,e,f,g⟩:=q;exact⟨a,c,e,h _ _ f,ZH.same h ds g⟩
 | .dict kvs,v,q=>by
  unfold Rp at q ⊢;obtain⟨a,c,e,f,g⟩:=q;exact⟨a,c,e,h _ _ f,YP.same h kvs g⟩
theorem ZH.same(h:Z3 H f):∀(a:List PyData){vs:List V},ZH H a vs->ZH f a vs
 | [],vs,q=>by unfold ZH at q ⊢;exact q
 | d::a,vs,q=>by
  unfold ZH at q ⊢;obtain⟨v,b,e,c,g⟩:=q;exact⟨v,b,e,Rp.same h d c,ZH.same h a g⟩
theorem YP.same(h:Z3 H i):∀(a:List (PyData×PyData)){vs:List (Y7×V)},YP H a vs->YP i a vs
 | [],vs,q=>by unfold YP at q ⊢;exact q
 | (k,d)::a,vs,q=>by
  unfold YP at q ⊢;obtain⟨c,v,b,e,f,g,j⟩:=q;exact⟨c,v,b,e,f,Rp.same h d g,YP.same h a j⟩
end
theorem Rb:∀{e:List PyData}{a:List V},ZH H e a↔Paired (Rp H) e a
 | [],a=>by
  constructor
  ·intro h;unfold ZH at h;subst h;exact .nil
  ·intro h;cases h;unfold ZH;rfl
 | d::e,a=>by
  constructor
  ·intro h;unfold ZH at h;obtain⟨v,vs,rfl,c,b⟩:=h;exact .cons c (Rb.mp b)
  ·intro h
   cases h with
   | cons c b=>unfold ZH;exact⟨_,_,rfl,c,Rb.mpr b⟩
theorem ZH.length{ds:List PyData}{xs:List V}(h:ZH H ds xs):ds.length=xs.length:=(Rb.mp h).length
theorem TC(h:Rp H (.list c) v):∃a b,v=.ref a/\H a=some (.lst b)/\ZH H c b:=by unfold Rp at h;exact h
theorem SL(h:Rp H (.tuple c) v):∃a b,v=.ref a/\H a=some (.tup b)/\ZH H c b:=by unfold Rp at h;exact h
theorem Kd(h:Rp H (.dict c) v):∃a b,v=.ref a/\H a=some (.dK b)/\YP H c b:=by unfold Rp at h;exact h
theorem Ws(h:Rp H (.int i) v):v=.int i:=by unfold Rp at h;exact h
theorem OM(h:Rp H (.str i) v):v=.str i:=by unfold Rp at h;exact h
theorem MW(h:Rp H (.bool i) v):v=.bl i:=by unfold Rp at h;exact h
theorem NS(h:Rp H .none v):v=.non:=by unfold Rp at h;exact h
theorem VX:Rp H (.int i) (.int i):=by unfold Rp;rfl
theorem Na:Rp H (.str i) (.str i):=by unfold Rp;rfl
theorem TB:Rp H (.bool i) (.bl i):=by unfold Rp;rfl
theorem CZ:Rp H .none .non:=by unfold Rp;rfl
theorem zhv(h:H a=some (.lst b))(r:ZH H c b):Rp H (.list c) (.ref a):=by unfold Rp;exact⟨a,b,rfl,h,r⟩
theorem ztv(h:H a=some (.tup b))(r:ZH H c b):Rp H (.tuple c) (.ref a):=by unfold Rp;exact⟨a,b,rfl,h,r⟩
theorem DO(h:H a=some (.dK b))(r:YP H c b):Rp H (.dict c) (.ref a):=by unfold Rp;exact⟨a,b,rfl,h,r⟩
theorem VP:ZH H [] []:=by unfold ZH;rfl
theorem OA:YP H [] []:=by unfold YP;rfl
theorem UF(h:Rp H d v)(r:ZH H a vs):ZH H (d::a) (v::vs):=by
 show ZH H (d::a) _;unfold ZH;exact⟨v,vs,rfl,h,r⟩
theorem ZH.append(h:ZH H ds vs)(r:ZH H b a):ZH H (ds++b) (vs++a):=by
 replace h:=Rb.mp h;refine Rb.mpr ?_
 induction h with
 | nil=>exact Rb.mp r
 | cons h _ c=>exact .cons h c
theorem ZH.get2{H:Hp}{a:List PyData}{vs:List V}(h:ZH H a vs){i:Nat}{d:PyData}(e:a[i]?=some d):∃v,vs[i]?=some v/\Rp H d v:=by
 replace h:=Rb.mp h
 induction h generalizing i with
 | nil=>simp at e
 | cons h _ b=>
  cases i with
  | zero=>simp at e;subst e;exact⟨_,rfl,h⟩
  | succ i=>simpa using b (by simpa using e)
open Classical in
def Z6(A:Addr->Prop)(H:Hp):Hp:=λb=>if A b then none else H b
theorem Z6.get{A:Addr->Prop}(h:¬A b):Z6 A H b=H b:=if_neg h
theorem Z6.out{A:Addr->Prop}(h:A b):Z6 A H b=none:=if_pos h
theorem Z6.of{A:Addr->Prop}(h:Z6 A H b=some o):¬A b/\H b=some o:=by
 by_cases hb:A b
 ·rw[Z6.out hb]at h;cases h
 ·rw[Z6.get hb]at h;exact⟨hb,h⟩
theorem Z6.mono{A B:Addr->Prop}(s:Z3 H c)(h:∀b o,H b=some o->¬A b->¬B b):Z3 (Z6 A H) (Z6 B c):=λb o e=>by
 obtain⟨d,a⟩:=Z6.of e;rw[Z6.get (h b o a d)];exact s b o a
theorem Z6.same(A:Addr->Prop)(H:Hp):Z3 (Z6 A H) H:=λb o e=>(Z6.of e).2
theorem Z6.sub{A B:Addr->Prop}(h:∀b,B b->A b):Z3 (Z6 A H) (Z6 B H):=Z6.mono (Z3.refl _) λb _ _ n z=>n (h b z)
theorem Z6.grow{A:Addr->Prop}(s:Z3 H a):Z3 (Z6 A H) (Z6 A a):=Z6.mono s λ_ _ _ z=>z
theorem Z6.upd{A:Addr->Prop}(h:A a):Z6 A (upd H a o)=Z6 A H:=by
 funext b;by_cases hb:A b
 ·rw[Z6.out hb,Z6.out hb]
 ·rw[Z6.get hb,Z6.get hb,Y0 (λe=>hb (by rw[e];exact h))]
inductive Sl where
 | no
  | pl (d:PyData)
  | ac (d:PyData)
abbrev ZY:=List Sl
def own(env:ZY)(σ:St)(a:Addr):Prop:=∃(i:Nat)(d:PyData),env[i]?=some (.ac d)/\σ[i]?=some (some (.ref a))
def Wo(d H:Hp)(a:Addr):PyData->Prop
 | .list f=>∃c,H a=some (.lst c)/\ZH d f c
 | .dict b=>∃e,H a=some (.dK e)/\YP d b e
 | _=>False
theorem Wo.rp(h:Wo i H a d)(s:Z3 i f)(e:∀o,H a=some o->f a=some o):Rp f d (.ref a):=by
 cases d with
 | list j=>
  obtain⟨g,b,c⟩:=h;exact zhv (e _ b) (ZH.same s _ c)
 | dict j=>
  obtain⟨g,b,c⟩:=h;exact DO (e _ b) (YP.same s _ c)
 | _=>exact h.elim
theorem Wo.same(h:Wo g H a d)(s:Z3 g Ho')(e:∀o,H a=some o->i a=some o):Wo Ho' i a d:=by
 cases d with
 | list j=>
  obtain⟨b,c,f⟩:=h;exact⟨b,e _ c,ZH.same s _ f⟩
 | dict j=>
  obtain⟨b,c,f⟩:=h;exact⟨b,e _ c,YP.same s _ f⟩
 | _=>exact h.elim
theorem Wo.ex(h:Wo g H a d):∃o,H a=some o:=by
 cases d with
 | list f=>obtain⟨c,b,e⟩:=h;exact⟨_,b⟩
 | dict f=>obtain⟨c,b,e⟩:=h;exact⟨_,b⟩
 | _=>exact h.elim
structure EnvOk(fx:Addr->Prop)(H0:Hp)(env:ZY)(σ:St)(H:Hp):Prop where
 len:env.length=σ.length
 pl:∀(i:Nat)(d:PyData),env[i]?=some (.pl d)->∃v,σ[i]?=some (some v)/\Rp (Z6 (λa=>fx a\/own env σ a) H) d v
 ac:∀(i:Nat)(d:PyData),env[i]?=some (.ac d)->∃a,σ[i]?=some (some (.ref a))/\H0 a=none/\¬fx a/\Wo (Z6 (λa=>fx a\/own env σ a) H) H a d
 inj:∀(i j:Nat)(d e:PyData)(a:Addr),env[i]?=some (.ac d)->env[j]?=some (.ac e)->σ[i]?=some (some (.ref a))->σ[j]?=some (some (.ref a))->i=j
 base:Z3 H0 H
 fxs:∀b,fx b->∃o,H b=some o
theorem EnvOk.grow{k c:Addr->Prop}(h:EnvOk k w j σ H)(s:Z3 H m)(f:∀b o,H b=some o->¬k b->¬c b)(g:∀b,c b->∃o,m b=some o):EnvOk c w j σ m:=by
 have r:Z3 (Z6 (λa=>k a\/own j σ a) H) (Z6 (λa=>c a\/own j σ a) m):=Z6.mono s λb o e n=>λz=>z.elim (f b o e λy=>n (.inl y)) λy=>n (.inr y);refine⟨h.len,λi d e=>?_,λi d e=>?_,h.inj,h.base.trans s,g⟩
 ·obtain⟨v,l,p⟩:=h.pl i d e;exact⟨v,l,Rp.same r d p⟩
 ·obtain⟨a,l,p,u,q⟩:=h.ac i d e;obtain⟨o,t⟩:=q.ex;exact⟨a,l,p,f a o t u,q.same r λo=>s a o⟩
theorem EnvOk.up{fx:Addr->Prop}(h:EnvOk fx H0 env σ H)(s:Z3 H a):EnvOk fx H0 env σ a:=
 h.grow s (λ_ _ _ z=>z) λb z=>let⟨o,e⟩:=h.fxs b z;⟨o,s b o e⟩
structure Yo where
 d:PyData
 fr:Bool
 bs:List Nat
def lim(fx:Addr->Prop)(b:ZY)(σ:St)(bs:List Nat)(a:Addr):Prop:=fx a\/∃(i:Nat)(d:PyData),i∉bs/\b[i]?=some (.ac d)/\σ[i]?=some (some (.ref a))
structure Xj(A:Addr->Prop)(H H':Hp)(r:Yo)(v:V):Prop where
 rp:Rp (Z6 A H') r.d v
 fr:r.fr=true->∃a,v=.ref a/\H a=none/\Wo (Z6 (λb=>A b\/b=a) H') H' a r.d
theorem Nr{c:Addr->Prop}(h:∀i∈bs,i∈e):∀a,lim c b σ e a->lim c b σ bs a:=by
 rintro a (z|⟨i,d,g,j,f⟩)
 ·exact .inl z
 ·exact .inr ⟨i,d,λq=>g (h i q),j,f⟩
theorem Ho{c:Addr->Prop}:∀a,lim c b σ bs a->c a\/own b σ a:=by
 rintro a (z|⟨i,d,g,f,e⟩)
 ·exact .inl z
 ·exact .inr ⟨i,d,f,e⟩
theorem HW{c:Addr->Prop}:∀a,c a\/own b σ a->lim c b σ [] a:=by
 rintro a (z|⟨i,d,e,f⟩)
 ·exact .inl z
 ·exact .inr ⟨i,d,by simp,e,f⟩
theorem EnvOk.lims{fx:Addr->Prop}(h:EnvOk fx H0 c σ H)(bs:List Nat):∀b,lim fx c σ bs b->∃o,H b=some o:=by
 rintro b (z|⟨i,d,l,j,g⟩)
 ·exact h.fxs b z
 ·obtain⟨a,e,m,k,f⟩:=h.ac i d j;rw[g]at e;cases e;exact f.ex
theorem Xj.later{A B:Addr->Prop}(h:Xj A H f r v)(g:Z3 l H)(s:Z3 f c)(d:∀b,B b->A b):Xj B l c r v:=by
 refine⟨Rp.same (Z6.mono s λb _ _ n z=>n (d b z)) _ h.rp,λe=>?_⟩;obtain⟨a,j,k,i⟩:=h.fr e;exact⟨a,j,g.free k,i.same (Z6.mono s λb _ _ n z=>n (z.elim (λy=>.inl (d b y)) .inr)) λo=>s a o⟩
def XF:PyData->Bool
 | .list _=>false
 | .tuple _=>false
 | .dict _=>false
 | _=>true
theorem O7(f:XF d=true)(h:Rp H d v):Rp a d v:=by
 cases d<;>first
  | (unfold Rp at h ⊢;exact h)
  | cases f
def ZM(d:PyData)(bs:List Nat):List Nat:=if XF d=true then[]else bs
theorem Oz{fx:Addr->Prop}(h:Rp (Z6 (lim fx a σ bs) H) d v):Rp (Z6 (lim fx a σ (ZM d bs)) H) d v:=by
 unfold ZM;split
 ·rename_i e;exact O7 e h
 ·exact h
abbrev EF:=ZY->Option Yo
def SE(d:TE)(f:EF):Prop:=∀(c:Addr->Prop)(e:Hp)(a:ZY)(σ:St)(H:Hp),EnvOk c e a σ H->∀r,f a=some r->∀Q:VK,(∀v b,Z3 H b->Xj (lim c a σ r.bs) H b r v->Q v b)->d σ H Q
abbrev TF:=ZY->Option Bool
def ST(e:TT)(f:TF):Prop:=∀(d:Addr->Prop)(g:Hp)(a:ZY)(σ:St)(H:Hp),EnvOk d g a σ H->∀b,f a=some b->∀Q:Bool->Hp->Prop,(∀c,Z3 H c->Q b c)->e σ H Q
abbrev AF:=ZY->Option (List Yo)
def SA(d:TA)(f:AF):Prop:=∀(fx:Addr->Prop)(H0:Hp)(a:ZY)(σ:St)(H:Hp),EnvOk fx H0 a σ H->∀c,f a=some c->∀Q:List V->Hp->Prop,
 (∀vs b,Z3 H b->Paired (λr v=>Xj (lim fx a σ r.bs) H b r v) c vs->Q vs b)->d σ H Q
section
variable{X:Cx}
def Z9(i:Nat):EF:=λenv=>match env[i]? with
 | some (.pl d)=>some ⟨d,false,[]⟩
 | some (.ac d)=>some ⟨d,false,[i]⟩
 | _=>none
theorem Vb(i:Nat):SE (YR i) (Z9 i):=by
 intro l x c σ H h r b Q q;unfold Z9 at b
 cases e:c[i]? with
 | none=>rw[e]at b;cases b
 | some p=>
  rw[e]at b
  cases p with
  | no=>cases b
  | pl d=>
   cases b;obtain⟨v,f,k⟩:=h.pl i d e;exact⟨v,f,q v H (Z3.refl _) ⟨Rp.same (Z6.sub Ho) _ k,λz=>by cases z⟩⟩
  | ac d=>
   cases b;obtain⟨a,f,k,t,n⟩:=h.ac i d e
   have g:¬lim l c σ [i] a:=by
    rintro(z|⟨j,m,s,w,u⟩)
    ·exact t z
    ·exact s (Tn.mpr (h.inj j i m d a w e u f))
   exact⟨_,f,q _ H (Z3.refl _) ⟨n.rp (Z6.sub Ho) λo z=>by rw[Z6.get g];exact z,λz=>by cases z⟩⟩
def eC(d:PyData):EF:=λ_=>some ⟨d,false,[]⟩
theorem WV(h:∀H,Rp H d v):SE (tC v) (eC d):=by
 intro e c a σ H _ r b Q q;cases b;exact q v H (Z3.refl _) ⟨h _,λz=>by cases z⟩
abbrev OF:=PyData->PyData->Option (PyData×Bool)
def SO(r:R2)(f:OF):Prop:=∀(A:Addr->Prop)(H:Hp)(x y:V)(dx e:PyData),(∀b,A b->∃o,H b=some o)->Rp (Z6 A H) dx x->Rp (Z6 A H) e y->∀d fr,f dx e=some (d,fr)->∀Q:VK,
 (∀v c,Z3 H c->Rp (Z6 A c) d v->(fr=true->∃a,v=.ref a/\H a=none/\Wo (Z6 (λb=>A b\/b=a) c) c a d)->Q v c)->r x y H Q
def Z2(f:OF)(a b:EF):EF:=λenv=>(a env).bind λx=>(b env).bind λy=>(f x.d y.d).bind λz=>some ⟨z.1,z.2,ZM z.1 (x.bs++y.bs)⟩
theorem UP(N:SO r f)(z:SE I F)(M:SE B fb):SE (Ul r I B) (Z2 f F fb):=by
 intro g s c σ H h T j Q q;unfold Z2 at j;obtain⟨x,ex,j⟩:=qA.mp j;obtain⟨y,E,j⟩:=qA.mp j;obtain⟨⟨d,fr⟩,C,j⟩:=qA.mp j;cases j;refine z g s c σ H h x ex _ λv L l O=>M g s c σ L (h.up l) y E _ λu t k R=>?_;have D:∀b,lim g c σ (x.bs++y.bs) b->lim g c σ x.bs b:=Nr λi n=>Uw _ n;have S:∀b,lim g c σ (x.bs++y.bs) b->lim g c σ y.bs b:=Nr λi n=>qf _ n;refine N (lim g c σ (x.bs++y.bs)) t v u x.d y.d ((h.up (l.trans k)).lims _) (O.later (Z3.refl _) k D).rp (R.later (Z3.refl _) (Z3.refl _) S).rp d fr C _ λw m P rp o=>q w m ((l.trans k).trans P) ⟨Oz rp,λe=>?_⟩;obtain⟨a,G,A,p⟩:=o e;refine⟨a,G,(l.trans k).free A,?_⟩;have J:XF d=false:=by cases d<;>first|rfl|exact p.elim
 show Wo (Z6 (λb=>lim g c σ (ZM d (x.bs++y.bs)) b\/b=a) m) m a d;rw[show ZM d (x.bs++y.bs)=x.bs++y.bs by unfold ZM;rw[if_neg (by rw[J];decide)]];exact p
end
theorem R9(h:n<=100000):n<=qa:=WT h (by decide)
theorem Nf(h:n<100000):n<qa:=CL h (by decide)
theorem Us{A:Addr->Prop}{H:Hp}(a:∀b,A b->∃o,H b=some o){p:Addr}(c:H p=none):¬A p:=λz=>by
 obtain⟨o,e⟩:=a p z;rw[c]at e;cases e
theorem Ct{A:Addr->Prop}(c:H p=none)(r:ZH (Z6 A H) d a):Wo (Z6 (λb=>A b\/b=p) (upd H p (.lst a))) (upd H p (.lst a)) p (.list d):=by
 refine⟨a,Yr,ZH.same (Z6.mono (Z3.new c) λb o e n z=>?_) _ r⟩;rcases z with z|z
 ·exact n z
 ·rw[z,c]at e;cases e
theorem P8{A:Addr->Prop}(c:H p=none)(b:¬A p)(r:ZH (Z6 A H) d a):Rp (Z6 A (upd H p (.lst a))) (.list d) (.ref p):=
 zhv (by rw[Z6.get b];exact Yr) (ZH.same (Z6.grow (Z3.new c)) _ r)
theorem KH{A:Addr->Prop}(c:H p=none)(b:¬A p)(r:ZH (Z6 A H) d a):Rp (Z6 A (upd H p (.tup a))) (.tuple d) (.ref p):=
 ztv (by rw[Z6.get b];exact Yr) (ZH.same (Z6.grow (Z3.new c)) _ r)
theorem WD{A:Addr->Prop}(h:Z6 A H a=some o):H a=some o:=(Z6.of h).2
def Zr:OF
 | .int i,.int j=>some (.int (i+j),false)
 | .str a,.str b=>if a.length+b.length<=100000 then some (.str (a++b),false)else none
 | .list a,.list b=>if a.length+b.length<=100000 then some (.list (a++b),true)else none
 | .tuple a,.tuple b=>if a.isEmpty=false/\a.length+b.length<=100000 then some (.tuple (a++b),false)else none
 | _,_=>none
theorem GE{K:qC}:SO (Po K) Zr:=by
 intro A H x y dx u o i j d fr e Q q;unfold Zr at e;split at e
 ·cases e;cases Ws i;cases Ws j;exact q _ H (Z3.refl _) VX (λz=>by cases z)
 ·split at e
  ·rename_i h;cases e;cases OM i;cases OM j;exact⟨R9 h,q _ H (Z3.refl _) Na (λz=>by cases z)⟩
  ·cases e
 ·split at e
  ·rename_i h;cases e;obtain⟨p,k,rfl,l,c⟩:=TC i;obtain⟨m,n,rfl,g,f⟩:=TC j;refine .inl ⟨p,m,k,n,rfl,rfl,WD l,WD g,R9 (by rw[<- c.length,<- f.length];exact h),λb a=>?_⟩;exact q _ _ (Z3.new a) (P8 a (Us o a) (c.append f)) λ_=>⟨b,rfl,a,Ct a (c.append f)⟩
  ·cases e
 ·split at e
  ·rename_i h;cases e;obtain⟨p,k,rfl,l,c⟩:=SL i;obtain⟨m,n,rfl,g,f⟩:=SL j;refine .inr ⟨p,m,k,n,rfl,rfl,Yh.of (WD l),Yh.of (WD g),λz=>?_,R9 (by rw[<- c.length,<- f.length];exact h.2),λz=>?_,λ_ b a=>?_⟩
   ·have s:=c.length;have r:=h.1;rw[z]at s;rw[List.isEmpty_eq_false_iff]at r;exact r (OY.mp s)
   ·have t:=f.length;rw[z]at t;have:=OY.mp t;subst this;rw[q9]at q;exact q _ H (Z3.refl _) i (λz=>by cases z)
   ·exact q _ _ (Z3.new a) (KH a (Us o a) (c.append f)) (λz=>by cases z)
  ·cases e
 ·cases e
def Wx(c:Int->Int->Bool)(f:Int->Int->PyData):OF
 | .int i,.int j=>if c i j=true then some (f i j,false)else none
 | _,_=>none
theorem Hy{C:Int->Int->Prop}{g:Int->Int->V}{c:Int->Int->Bool}{f:Int->Int->PyData}(b:∀i j,c i j=true->C i j)(a:∀H i j,Rp H (f i j) (g i j)):SO (rI C g) (Wx c f):=by
 intro A H x y dx n m l k d fr e Q q;unfold Wx at e;split at e
 ·split at e
  ·rename_i h;cases e;cases Ws l;cases Ws k;exact⟨_,_,rfl,rfl,b _ _ h,q _ H (Z3.refl _) (a _ _ _) (λz=>by cases z)⟩
  ·cases e
 ·cases e
theorem M4{g:Int->Int->V}{f:Int->Int->PyData}(a:∀H i j,Rp H (f i j) (g i j)):SO (SR g) (Wx (λ_ _=>true) f):=by
 intro A H x y dx k h c b d fr e Q q;unfold Wx at e;split at e
 ·split at e
  ·cases e;cases Ws c;cases Ws b;exact⟨_,_,rfl,rfl,q _ H (Z3.refl _) (a _ _ _) (λz=>by cases z)⟩
  ·cases e
 ·cases e
def YL:OF:=Wx (λ_ _=>true) λi j=>.int (i - j)
theorem vt:SO (SR λi j=>.int (i - j)) YL:=M4 λ_ _ _=>VX
def CY:OF:=Wx (λ_ _=>true) λi j=>.bool (decide (i<=j))
theorem zX:SO (SR λi j=>.bl (decide (i<=j))) CY:=M4 λ_ _ _=>TB
def Vj:OF:=Wx (λ_ _=>true) λi j=>.bool (decide (j<i))
theorem w9:SO (SR λi j=>.bl (decide (j<i))) Vj:=M4 λ_ _ _=>TB
def ZR:OF:=Wx (λ_ j=>decide (0<j)) λi j=>.int (i % j)
theorem Fx:SO (rI (λ_ j=>0<j) λi j=>.int (i % j)) ZR:=Hy (λ_ _ h=>of_decide_eq_true h) λ_ _ _=>VX
def Yn:OF:=Wx (λ_ j=>decide (0<j/\j<1073741824)) λi j=>.int (i / j)
theorem xI:SO (rI MR λi j=>.int (i / j)) Yn:=Hy (λi j h=>(of_decide_eq_true h:0<j/\j<1073741824)) λ_ _ _=>VX
def Ya:OF
 | .int i,.int j=>if(-(2 ^ 64)<i/\i<2 ^ 64)\/(-(2 ^ 64)<j/\j<2 ^ 64)then some (.int (i * j),false)else none
 | .str z,.int n=>if z.length<=1000/\-1000<=n/\n<=1000 then some (.str (Txt.mul z n),false)else none
 | _,_=>none
theorem ye:SO NC Ya:=by
 intro A H x y dx c f b a d fr e Q q;unfold Ya at e;split at e
 ·split at e
  ·rename_i h;cases e;cases Ws b;cases Ws a;exact⟨h,q _ H (Z3.refl _) VX (λz=>by cases z)⟩
  ·cases e
 ·split at e
  ·rename_i h;cases e;cases OM b;cases Ws a;exact⟨h.1,h.2.1,h.2.2,q _ H (Z3.refl _) Na (λz=>by cases z)⟩
  ·cases e
 ·cases e
mutual
theorem L7{K:qC}{H:Hp}:∀{d:PyData}{v:V},d.canLay0=true->Rp H d v->VL K H d v
 | .none,v,_,h=>by unfold Rp at h;unfold VL;exact h
 | .bool b,v,_,h=>by unfold Rp at h;unfold VL;exact h
 | .int i,v,_,h=>by unfold Rp at h;unfold VL;exact h
 | .str x,v,_,h=>by unfold Rp at h;unfold VL;exact h
 | .list ds,v,c,h=>by
  obtain⟨a,g,e,j,f⟩:=TC h;unfold VL;exact⟨a,g,e,YK.of j,Wf (by simpa [PyData.canLay0]using c) f⟩
 | .tuple ds,v,c,h=>by
  obtain⟨a,g,e,j,f⟩:=SL h;unfold VL;exact⟨a,g,e,Yh.of j,Wf (by simpa [PyData.canLay0]using c) f⟩
 | .dict _,v,c,h=>by simp[PyData.canLay0]at c
theorem Wf{K:qC}{H:Hp}:∀{a:List PyData}{vs:List V},qw a=true->ZH H a vs->Vx K H a vs
 | [],vs,_,h=>by unfold ZH at h;unfold Vx;exact h
 | d::a,vs,c,h=>by
  unfold ZH at h;obtain⟨v,f,e,g,b⟩:=h;have c:d.canLay0=true/\qw a=true:=by simpa [qw]using c
  unfold Vx;exact⟨v,f,e,L7 c.1 g,Wf c.2 b⟩
end
def O9:PyData->PyData->Bool
 | .none,.none=>true|.none,.int _=>true|.int _,.none=>true|.none,.bool _=>true|.bool _,.none=>true|.none,.str _=>true|.str _,.none=>true
 | .int _,.int _=>true|.bool _,.bool _=>true|.str _,.str _=>true
 | .int _,.str _=>true|.str _,.int _=>true|.bool _,.str _=>true|.str _,.bool _=>true
 | _,_=>false
def TL(dx a:PyData):Bool:=O9 dx a||(qm dx&&qm a)
def XT:OF:=λdx a=>if TL dx a=true then some (.bool (Xn dx a),false)else none
def X4:OF:=λdx a=>if TL dx a=true then some (.bool (!PyData.eqv dx a),false)else none
theorem EC(s:O9 dx a=true)(c:Rp H dx x)(b:Rp H a y):MX x y=true/\decide (x=y)=Xn dx a:=by
 cases dx<;>cases a<;>first
  | (exact absurd (show false=true from s) qQ)
  | (unfold Rp at c b;subst c;subst b;refine⟨rfl,?_⟩;first|rfl|exact L8|exact NI|exact NU|simp[Xn])
theorem NX{K:qC}:SO (λx y H Q=>CJ x y H Q\/UC K false x y H Q) XT:=by
 intro A H x y dx c i b a d fr e Q q;unfold XT at e;split at e
 ·rename_i h;cases e
  cases hs:O9 dx c with
  | true=>
   obtain⟨f,g⟩:=EC hs b a;exact .inl ⟨f,by rw[g];exact q _ H (Z3.refl _) TB (λz=>by cases z)⟩
  | false=>
   unfold TL at h;rw[hs,CP,qe]at h;have b:=Rp.same (Z6.same A H) _ b;have a:=Rp.same (Z6.same A H) _ a;exact .inr ⟨dx,c,L7 (Ox h.1) b,L7 (Ox h.2) a,h.1,h.2,q _ H (Z3.refl _) TB (λz=>by cases z)⟩
 ·cases e
theorem EY{K:qC}:SO (λx y H Q=>CD x y H Q\/UC K true x y H Q) X4:=by
 intro A H x y dx c i b a d fr e Q q;unfold X4 at e;split at e
 ·rename_i h;cases e
  cases hs:O9 dx c with
  | true=>
   obtain⟨f,g⟩:=EC hs b a;exact .inl ⟨f,by rw[g];exact q _ H (Z3.refl _) TB (λz=>by cases z)⟩
  | false=>
   unfold TL at h;rw[hs,CP,qe]at h;have b:=Rp.same (Z6.same A H) _ b;have a:=Rp.same (Z6.same A H) _ a;exact .inr ⟨dx,c,L7 (Ox h.1) b,L7 (Ox h.2) a,h.1,h.2,q _ H (Z3.refl _) TB (λz=>by cases z)⟩
 ·cases e
def WS(ds:List PyData):Bool:=ds.all XF
theorem Hj(f:XF d=true)(h:Rp H d v):QU v=true:=by
 cases d<;>first
  | (unfold Rp at h;subst h;rfl)
  | cases f
theorem uI{vs:List V}(f:WS a=true)(h:ZH H a vs):vs.all QU=true:=by
 replace h:=Rb.mp h
 induction h with
 | nil=>rfl
 | cons h _ b=>
  unfold WS at f;rw[SH,qe]at f;rw[SH,Hj f.1 h,b f.2];rfl
theorem vc(f:XF d=true)(g:XF e=true)(h:Rp H d v)(k:Rp H e u):Qn v u=Xn d e:=by
 cases d<;>cases e<;>first
  | (unfold Rp at h k;subst h;subst k;rfl)
  | exact absurd (show false=true from f) qQ
  | exact absurd (show false=true from g) qQ
theorem BH(f:XF d=true)(h:Rp H d v){a:List PyData}(g:WS a=true)(r:ZH H a vs):DB v vs=a.any λe=>Xn e d:=by
 replace r:=Rb.mp r;unfold DB
 induction r with
 | nil=>rfl
 | cons r _ b=>
  unfold WS at g;rw[SH,qe]at g;rw[Qx,Qx,vc g.1 f r h,b g.2]
def Vg:PyData->Option (List PyData)
 | .list a=>some a
 | .tuple a=>some a
 | _=>none
def X3(neg:Bool):OF:=λd c=>match Vg c with
 | some ds=>if XF d=true/\WS ds=true then some (.bool (if neg then !(ds.any λe=>Xn e d)else ds.any λe=>Xn e d),false)else none
 | none=>none
theorem J3{K:qC}{H:Hp}{c:PyData}{v:V}{g:List PyData}(h:Rp H c v)(e:Vg c=some g):∃p b,v=.ref p/\(YK K H p b\/Yh K H p b)/\ZH H g b:=by
 cases c<;>first
  | cases e
  | skip
 ·obtain⟨a,b,e,f,d⟩:=TC h;exact⟨a,b,e,.inl (YK.of f),d⟩
 ·obtain⟨a,b,e,f,d⟩:=SL h;exact⟨a,b,e,.inr (Yh.of f),d⟩
theorem zR{K:qC}{a:Bool}:SO (Kf K a) (X3 a):=by
 intro A H x y dx k j b i d fr e Q q;unfold X3 at e;split at e
 ·rename_i l f;split at e
  ·rename_i h;cases e;have b:=Rp.same (Z6.same A H) _ b;obtain⟨p,c,rfl,g,r⟩:=J3 (K:=K) (Rp.same (Z6.same A H) _ i) f;refine⟨p,c,rfl,g,Hj h.1 b,uI h.2 r,?_⟩;rw[BH h.1 b h.2 r];refine q _ H (Z3.refl _) ?_ (λz=>by cases z);cases a<;>exact TB
  ·cases e
 ·cases e
def Xb:OF
 | .str z,.int i=>if z.length<=100000 then(atI z.cps.toList i).map λc=>(.str ⟨#[c]⟩,false)else none
 | .list ds,.int i=>(atI ds i).map λd=>(d,false)
 | .tuple ds,.int i=>(atI ds i).map λd=>(d,false)
 | _,_=>none
theorem ZH.atI(h:ZH H ds vs)(e:atI ds i=some d):∃v,L2.atI vs i=some v/\Rp H d v:=by
 unfold L2.atI at e ⊢;rw[<- h.length]
 cases g:UM ds.length i with
 | none=>rw[g]at e;cases e
 | some j=>
  rw[g]at e;exact h.get2 e
theorem E2{K:qC}:SO (T3 K) Xb:=by
 intro A H x y dx n m k j d fr e Q q;unfold Xb at e;split at e
 ·split at e
  ·rename_i z i l;obtain⟨c,a,e⟩:=qG.mp e;cases e;cases OM k;cases Ws j;exact⟨R9 l,c,a,q _ H (Z3.refl _) Na (λz=>by cases z)⟩
  ·cases e
 ·obtain⟨c,a,e⟩:=qG.mp e;cases e;obtain⟨p,b,rfl,h,r⟩:=TC k;cases Ws j;obtain⟨v,g,f⟩:=r.atI a;exact⟨b,v,.inl (YK.of (WD h)),g,q _ H (Z3.refl _) f (λz=>by cases z)⟩
 ·obtain⟨c,a,e⟩:=qG.mp e;cases e;obtain⟨p,b,rfl,h,r⟩:=SL k;cases Ws j;obtain⟨v,g,f⟩:=r.atI a;exact⟨b,v,.inr (Yh.of (WD h)),g,q _ H (Z3.refl _) f (λz=>by cases z)⟩
 ·cases e
def U8:List (PyData×PyData)->Y7->Option PyData
 | [],_=>none
 | (k,d)::r,j=>if Zd k=some j then some d else U8 r j
def Ue(a:List (PyData×PyData))(j:Y7):Bool:=(U8 a j).isSome
def Up(a:List (PyData×PyData))(k:PyData)(d:PyData):List (PyData×PyData):=
 if(a.any λb=>decide (Zd b.1=Zd k))=true then a.map (λb=>if Zd b.1=Zd k then(b.1,d)else b)else a++[(k,d)]
def Q7(b more:List (PyData×PyData)):List (PyData×PyData):=more.foldl (λa c=>Up a c.1 c.2) b
theorem Lp(b:Zd k=some a)(h:Rp H d v)(q:YP H r vs):YP H ((k,d)::r) ((a,v)::vs):=by
 show YP H ((k,d)::r) _;unfold YP;exact⟨a,v,vs,rfl,b,h,q⟩
theorem Kx(h:YP H ((k,d)::r) b):∃a v vs,b=(a,v)::vs/\Zd k=some a/\Rp H d v/\YP H r vs:=by
 unfold YP at h;exact h
theorem YP.length:∀{kvs:List (PyData×PyData)}{a:List (Y7×V)},YP H kvs a->kvs.length=a.length
 | [],a,h=>by unfold YP at h;subst h;rfl
 | (k,d)::r,a,h=>by
  obtain⟨c,v,vs,rfl,_,_,b⟩:=Kx h;rw[qu,qu,b.length]
theorem YP.get:∀{b:List (PyData×PyData)}{a:List (Y7×V)},YP H b a->match U8 b j with
  | some d=>∃v,Xc a j=some v/\Rp H d v
  | none=>Xc a j=none
 | [],a,h=>by unfold YP at h;subst h;rfl
 | (k,d)::r,a,h=>by
  obtain⟨f,v,vs,rfl,c,l,i⟩:=Kx h;have g:=YP.get (j:=j) i;unfold U8;by_cases e:f=j
  ·rw[if_pos (by rw[c,e])];exact⟨v,CU e,l⟩
  ·rw[if_neg (λz=>e (by rw[c]at z;exact qZ z)),DC e];exact g
theorem YP.any:∀{a:List (PyData×PyData)}{ps:List (Y7×V)},YP H a ps->(a.any λb=>decide (Zd b.1=some j))=ps.any λb=>decide (b.1=j)
 | [],ps,h=>by unfold YP at h;subst h;rfl
 | (k,d)::r,ps,h=>by
  obtain⟨f,v,vs,rfl,e,g,c⟩:=Kx h;rw[Qx,Qx,c.any,e];congr 1;simp
theorem YP.map(h':Rp H i m):∀{kvs:List (PyData×PyData)}{b:List (Y7×V)},YP H kvs b->YP H (kvs.map λa=>if Zd a.1=some j then(a.1,i)else a) (b.map λa=>if a.1=j then(a.1,m)else a)
 | [],b,h=>by unfold YP at h;subst h;exact OA
 | (k,d)::r,b,h=>by
  obtain⟨f,v,vs,rfl,c,l,g⟩:=Kx h;rw[qL,qL];by_cases e:f=j
  ·rw[if_pos (show Zd (k,d).1=some j by rw[c,e]),if_pos (show((f,v):Y7×V).1=j from e)];exact Lp c h' (YP.map h' g)
  ·rw[if_neg (show ¬Zd (k,d).1=some j from λz=>e (by rw[c]at z;exact qZ z)),if_neg (show ¬((f,v):Y7×V).1=j from e)];exact Lp c l (YP.map h' g)
theorem YP.snoc(f:Zd k=some g)(e:Rp H d v):∀{a:List (PyData×PyData)}{b:List (Y7×V)},YP H a b->YP H (a++[(k,d)]) (b++[(g,v)])
 | [],b,h=>by unfold YP at h;subst h;exact Lp f e OA
 | (k0,d0)::r,b,h=>by
  obtain⟨l,m,vs,rfl,c,j,i⟩:=Kx h;exact Lp c j (YP.snoc f e i)
theorem YP.put(h:YP H a e)(c:Zd k=some j)(b:Rp H d v):YP H (Up a k d) (XR e j v):=by
 unfold Up XR;rw[c,h.any];split
 ·exact h.map b
 ·exact h.snoc c b
theorem YP.merge:∀{more:List (PyData×PyData)}{c:List (Y7×V)}{a:List (PyData×PyData)}{b:List (Y7×V)},YP H a b->YP H more c->YP H (Q7 a more) (Tx b c)
 | [],c,a,b,h,g=>by unfold YP at g;subst g;exact h
 | (k,d)::r,c,a,b,h,g=>by
  obtain⟨e,v,vs,rfl,j,i,f⟩:=Kx g;show YP H (Q7 (Up a k d) r) (Tx (XR b e v) vs);exact YP.merge (h.put j i) f
theorem SQ(h:Rp H d v)(e:Zd d=some k):v=kV k:=by
 cases d<;>first
  | (cases e;unfold Rp at h;exact h)
  | cases e
def Rk(a b:EF):EF:=λenv=>(a env).bind λx=>(b env).bind λy=>match x.d with
 | .dict c=>(Zd y.d).bind λk=>(U8 c k).bind λd=>some ⟨d,false,ZM d x.bs⟩
 | _=>none
theorem sZ(p:SE B y)(F:SE s fb):SE (VN B s) (Rk y fb):=by
 intro e m c σ H h O b Q q;unfold Rk at b;obtain⟨⟨dx,L,S⟩,ex,b⟩:=qA.mp b;obtain⟨⟨R,E,o⟩,t,b⟩:=qA.mp b
 cases dx with
 | dict N=>
  obtain⟨k,I,b⟩:=qA.mp b;obtain⟨d,M,b⟩:=qA.mp b;cases b;refine p e m c σ H h _ ex _ λv C l G=>F e m c σ C (h.up l) _ t _ λu n f J=>?_;obtain⟨a,P,rfl,A,r⟩:=Kd (G.later (Z3.refl _) f λ_ z=>z).rp;have g:=r.get (j:=k);rw[M]at g;obtain⟨w,x,D⟩:=g;rw[SQ J.rp I];have i:=VW.k (k:=k) (WD A);rw[x]at i;exact⟨a,w,rfl,i,q w n (l.trans f) ⟨Oz D,λz=>by cases z⟩⟩
 | _=>cases b
def Vv(neg:Bool)(a b:EF):EF:=λenv=>(a env).bind λx=>(b env).bind λy=>match y.d with
 | .dict c=>(Zd x.d).bind λk=>some ⟨.bool (if neg then !Ue c k else Ue c k),false,[]⟩
 | _=>none
theorem nL(r:YP H a b)(k:Y7):(Xc b k).isSome=Ue a k:=by
 have g:=r.get (j:=k);unfold Ue
 cases e:U8 a k with
 | none=>rw[e]at g;rw[show Xc b k=none from g];rfl
 | some d=>rw[e]at g;obtain⟨w,c,_⟩:=g;rw[c];rfl
theorem t9(j:SE l o)(x:SE s fb):SE (PR l s) (Vv false o fb):=by
 intro d f c σ H h F b Q q;unfold Vv at b;obtain⟨⟨dx,D,I⟩,ex,b⟩:=qA.mp b;obtain⟨⟨C,w,i⟩,n,b⟩:=qA.mp b
 cases C with
 | dict E=>
  obtain⟨k,A,b⟩:=qA.mp b;cases b;refine j d f c σ H h _ ex _ λv t e y=>x d f c σ t (h.up e) _ n _ λu g m B=>?_;obtain⟨a,G,rfl,p,r⟩:=Kd B.rp;rw[SQ y.rp A];exact⟨a,_,rfl,VW.k (WD p),by rw[nL r k];exact q _ g (e.trans m) ⟨TB,λz=>by cases z⟩⟩
 | _=>cases b
def Zk(f:EF):TF:=λenv=>(f env).bind λr=>match r.d with|.bool b=>some b|_=>none
theorem zI(h:SE i f):ST (tB i) (Zk f):=by
 intro j n g σ H k b a Q q;unfold Zk at a;obtain⟨⟨d,fr,bs⟩,e,a⟩:=qA.mp a
 cases d with
 | bool c=>
  have a:some c=some b:=a;cases a;exact h j n g σ H k _ e _ λv m s l=>⟨_,MW l.rp,q m s⟩
 | _=>cases a
theorem Ri(h:SE a f):ST (UN a) (Zk f):=zI h
def Iq:PyData->Option Bool
 | .none=>some false
 | .bool b=>some b
 | .int i=>some (i != 0)
 | .str x=>if x.length<=100000 then some ((x.length:Int) != 0)else none
 | .list a=>some (!a.isEmpty)
 | .tuple a=>some (!a.isEmpty)
 | .dict a=>some (!a.isEmpty)
def Zt(f:EF):TF:=λenv=>(f env).bind λr=>Iq r.d
theorem Ba{b:List α}{a:List β}(h:b.length=a.length):b.isEmpty=a.isEmpty:=by
 cases b<;>cases a<;>simp at h<;>rfl
theorem E1{K:qC}{H:Hp}{d:PyData}{v:V}{b:Bool}(h:Rp H d v)(e:Iq d=some b):T6 K v H b:=by
 cases d with
 | none=>cases e;cases NS h;rfl
 | bool c=>cases e;cases MW h;rfl
 | int i=>cases e;cases Ws h;rfl
 | str x=>
  have e:(if x.length<=100000 then some ((x.length:Int) != 0)else none)=some b:=e;split at e
  ·rename_i l;cases e;cases OM h;exact⟨R9 l,rfl⟩
  ·cases e
 | list k=>cases e;obtain⟨a,f,rfl,g,j⟩:=TC h;exact .inl ⟨f,YK.of g,by rw[Ba j.length]⟩
 | tuple k=>cases e;obtain⟨a,f,rfl,g,j⟩:=SL h;exact .inr (.inl ⟨f,Yh.of g,by rw[Ba j.length]⟩)
 | dict k=>cases e;obtain⟨a,f,rfl,g,j⟩:=Kd h;exact .inr (.inr ⟨f,g,by rw[Ba j.length]⟩)
theorem UX{K:qC}{g:TE}{f:EF}(h:SE g f):ST (λσ H Q=>g σ H λx d=>∃k,T6 K x d k/\Q k d) (Zt f):=by
 intro i n c σ H j b a Q q;unfold Zt at a;obtain⟨r,e,a⟩:=qA.mp a;exact h i n c σ H j _ e _ λv m s l=>⟨b,E1 (Rp.same (Z6.same _ _) _ l.rp) a,q m s⟩
def UZ(f g:TF):TF:=λenv=>(f env).bind λb=>if b=true then g env else some false
def WQ(f g:TF):TF:=λa=>(f a).bind λb=>if b=true then some true else g a
def Xk(f:TF):TF:=λenv=>(f env).map λb=>!b
theorem Pc(h:ST t f)(k:ST u g):ST (Pe t u) (UZ f g):=by
 intro j n a σ H l b d Q q;unfold UZ at d;obtain⟨c,e,d⟩:=qA.mp d;refine h j n a σ H l c e _ λm s=>?_
 cases c with
 | true=>exact WA (k j n a σ m (l.up s) b d _ λi o=>q i (s.trans o))
 | false=>cases d;exact WB (q m s)
theorem NN(h:ST t f)(k:ST u g):ST (ub t u) (WQ f g):=by
 intro j n a σ H l b d Q q;unfold WQ at d;obtain⟨c,e,d⟩:=qA.mp d;refine h j n a σ H l c e _ λm s=>?_
 cases c with
 | false=>exact WB (k j n a σ m (l.up s) b d _ λi o=>q i (s.trans o))
 | true=>cases d;exact WA (q m s)
theorem Of(h:ST t f):ST (PB t) (Xk f):=by
 intro g k a σ H i b d Q q;unfold Xk at d;obtain⟨c,e,rfl⟩:=qG.mp d;exact h g k a σ H i c e _ λj s=>q j s
def mE:PyData->Option Bool|.bool b=>some b|_=>none
def WK(a b:EF):EF:=λenv=>(a env).bind λx=>(mE x.d).bind λc=>if c=true then b env else some ⟨.bool false,false,[]⟩
theorem xB(h:Rp H d v)(e:mE d=some c):v=.bl c:=by
 cases d<;>first
  | (cases e;exact MW h)
  | cases e
theorem uM(j:SE p k)(m:SE r fb):SE (Tr p r) (WK k fb):=by
 intro f g b σ H h t a Q q;unfold WK at a;obtain⟨x,ex,a⟩:=qA.mp a;obtain⟨c,s,a⟩:=qA.mp a;refine j f g b σ H h _ ex _ λv e d o=>⟨c,xB o.rp s,?_⟩
 cases c with
 | true=>exact WA (m f g b σ e (h.up d) _ a _ λu i n l=>q u i (d.trans n) (l.later d (Z3.refl _) λ_ z=>z))
 | false=>cases a;exact WB (q _ e d ⟨TB,λz=>by cases z⟩)
def Z8:AF:=λ_=>some []
def Z7(a:EF)(r:AF):AF:=λenv=>(a env).bind λx=>(r env).map λxs=>x::xs
theorem Tf:SA XI Z8:=by
 intro c e a σ H h d b Q q;cases b;exact q [] H (Z3.refl _) .nil
theorem U4(h1:SE o f)(h2:SA r g):SA (YW o r) (Z7 f g):=by
 intro i k a σ H h s b Q q;unfold Z7 at b;obtain⟨x,ex,b⟩:=qA.mp b;obtain⟨l,e,rfl⟩:=qG.mp b
 exact h1 i k a σ H h x ex _ λv n c p=>h2 i k a σ n (h.up c) l e _ λvs m j d=>q (v::vs) m (c.trans j)
  (.cons (p.later (Z3.refl _) j λ_ z=>z) (Paired.mapP d λ_ _ z=>z.later c (Z3.refl _) λ_ y=>y))
def XX(a:List Yo):List PyData:=a.map (·.d)
def Yj(rs:List Yo):List Nat:=rs.flatMap (·.bs)
theorem S5{fx:Addr->Prop}:∀{a:List Yo}{vs:List V}{b:List Nat},(∀i∈Yj a,i∈b)->Paired (λr v=>Xj (lim fx c σ r.bs) H f r v) a vs->ZH (Z6 (lim fx c σ b) f) (XX a) vs
 | _,_,_,_,.nil=>VP
 | r::a,v::vs,b,hc,.cons h t=>UF (Rp.same (Z6.sub (Nr λi d=>hc i (MG.mpr ⟨r,qX,d⟩))) _ h.rp)
   (S5 (λi d=>hc i (by obtain⟨x,e,g⟩:=MG.mp d;exact MG.mpr ⟨x,qI _ e,g⟩)) t)
def ZE(f:AF):EF:=λenv=>(f env).bind λrs=>if rs.length<=100000 then some ⟨.tuple (XX rs),false,Yj rs⟩else none
def Y3(f:AF):EF:=λenv=>(f env).bind λrs=>if rs.length<=100000 then some ⟨.list (XX rs),true,Yj rs⟩else none
theorem Q9(a:List Yo):(XX a).length=a.length:=by unfold XX;rw[qD]
theorem IS(k:SA s f):SE (SY s) (ZE f):=by
 intro l t b σ H h u a Q q;unfold ZE at a;obtain⟨e,j,a⟩:=qA.mp a;split at a
 ·rename_i n;cases a;refine k l t b σ H h e j _ λvs v d o=>?_;have r:=S5 (λi m=>m) o;have g:=(h.up d).lims (Yj e);refine⟨R9 (by rw[<- r.length,Q9];exact n),λp c=>q _ _ (d.trans (Z3.new c)) ⟨KH c (Us g c) r,λz=>by cases z⟩⟩
 ·cases a
theorem Nu(k:SA s f):SE (OV s) (Y3 f):=by
 intro l t c σ H h u a Q q;unfold Y3 at a;obtain⟨e,j,a⟩:=qA.mp a;split at a
 ·rename_i n;cases a;refine k l t c σ H h e j _ λvs v d o=>?_;have r:=S5 (λi m=>m) o;have g:=(h.up d).lims (Yj e);refine⟨R9 (by rw[<- r.length,Q9];exact n),λp b=>q _ _ (d.trans (Z3.new b)) ⟨P8 b (Us g b) r,λ_=>⟨p,rfl,d.free b,Ct b r⟩⟩⟩
 ·cases a
def Sj:EF:=λ_=>some ⟨.dict [],true,[]⟩
theorem pk:SE Vp Sj:=by
 intro f g c σ H h e d Q q;cases d;intro p a;have b:=h.lims [];exact q _ _ (Z3.new a) ⟨DO (by rw[Z6.get (Us b a)];exact Yr) OA,λ_=>⟨p,rfl,a,⟨[],Yr,OA⟩⟩⟩
def Ko(k v:EF):EF:=λenv=>(k env).bind λx=>(v env).bind λy=>(Zd x.d).bind λ_=>some ⟨.dict [(x.d,y.d)],true,y.bs⟩
theorem sW(h1:SE O f)(h2:SE J g):SE (RB [(O,J)]) (Ko f g):=by
 intro m A a σ H h P c Q q;unfold Ko at c;obtain⟨x,ex,c⟩:=qA.mp c;obtain⟨y,F,c⟩:=qA.mp c;obtain⟨k,t,c⟩:=qA.mp c;cases c;intro p j;have i:Z3 H (upd H p (.dK [])):=Z3.new j;have L:¬m p:=Us h.fxs j
 have B:EnvOk (λb=>m b\/b=p) A a σ (upd H p (.dK [])):=h.grow i (λb o e n z=>z.elim n λy=>by rw[y,j]at e;cases e) λb z=>by
  rcases z with z|z
  ·obtain⟨o,e⟩:=h.fxs b z;exact⟨o,i b o e⟩
  ·rw[z];exact⟨_,Yr⟩
 refine h1 _ A a σ _ B x ex _ λv G s I=>h2 _ A a σ G (B.up s) y F _ λu r C M=>?_;have E:r p=some (.dK []):=(s.trans C) _ _ Yr;refine⟨E,[(k,u)],by rw[SQ I.rp t];rfl,(by show 1<=15;decide),?_⟩;have D:Tx [] [(k,u)]=[(k,u)]:=rfl;rw[D]
 have l:Rp (Z6 (λb=>lim m a σ y.bs b\/b=p) (upd r p (.dK [(k,u)]))) y.d u:=by
  rw[Z6.upd (.inr rfl)]
  exact Rp.same (Z6.sub λb z=>by
   rcases z with(z|z)|z
   ·exact .inl (.inl z)
   ·exact .inr z
   ·exact .inl (.inr z)) _ M.rp
 have N:Z3 H (upd r p (.dK [(k,u)])):=λb o e=>by
  rw[Y0 (VG e j)];exact C _ _ (s _ _ (i _ _ e))
 have w:¬lim m a σ y.bs p:=Us (h.lims y.bs) j;refine q _ _ N ⟨DO (by rw[Z6.get w];exact Yr) (Lp t (Rp.same (Z6.sub λb z=>.inl z) _ l) OA),λ_=>⟨p,rfl,j,⟨_,Yr,Lp t l OA⟩⟩⟩
abbrev GF:=List PyData->Option (PyData×Bool)
def SC(r:List V->Hp->VK->Prop)(g:GF):Prop:=∀(A:Addr->Prop)(H:Hp)(vs:List V)(e:List PyData),(∀b,A b->∃o,H b=some o)->ZH (Z6 A H) e vs->∀d fr,g e=some (d,fr)->∀Q:VK,
 (∀v c,Z3 H c->Rp (Z6 A c) d v->(fr=true->∃a,v=.ref a/\H a=none/\Wo (Z6 (λb=>A b\/b=a) c) c a d)->Q v c)->r vs H Q
def Zy(g:GF)(f:AF):EF:=λenv=>(f env).bind λrs=>(g (XX rs)).bind λz=>some ⟨z.1,z.2,ZM z.1 (Yj rs)⟩
theorem MP{r:List V->Hp->VK->Prop}(z:SC r g)(s:SA A f):SE (QV r A) (Zy g f):=by
 intro m E c σ H h G j Q q;unfold Zy at j;obtain⟨k,v,j⟩:=qA.mp j;obtain⟨⟨d,fr⟩,u,j⟩:=qA.mp j;cases j;refine s m E c σ H h k v _ λvs B n C=>z (lim m c σ (Yj k)) B vs (XX k) ((h.up n).lims _) (S5 (λi x=>x) C) d fr u _ λw l D rp o=>q w l (n.trans D) ⟨Oz rp,λe=>?_⟩;obtain⟨a,y,t,p⟩:=o e;refine⟨a,y,n.free t,?_⟩;have F:XF d=false:=by cases d<;>first|rfl|exact p.elim
 show Wo (Z6 (λb=>lim m c σ (ZM d (Yj k)) b\/b=a) l) l a d;rw[show ZM d (Yj k)=Yj k by unfold ZM;rw[if_neg (by rw[F];decide)]];exact p
theorem UY(h:ZH H [d] vs):∃v,vs=[v]/\Rp H d v:=by
 unfold ZH at h;obtain⟨v,c,rfl,b,a⟩:=h;unfold ZH at a;subst a;exact⟨v,rfl,b⟩
theorem I9(h:ZH H [d,e] vs):∃v u,vs=[v,u]/\Rp H d v/\Rp H e u:=by
 unfold ZH at h;obtain⟨v,f,rfl,c,a⟩:=h;obtain⟨u,rfl,b⟩:=UY a;exact⟨v,u,rfl,c,b⟩
def Zp:GF
 | [.str x]=>if x.length<=100000 then some (.int x.length,false)else none
 | [.list ds]=>some (.int ds.length,false)
 | [.tuple ds]=>some (.int ds.length,false)
 | _=>none
theorem xu{K:qC}:SC (λb H Q=>∃x n,b=[x]/\Qe K x H n/\Q (.int n) H) Zp:=by
 intro A H vs j i c d fr e Q q;unfold Zp at e;split at e
 ·split at e
  ·rename_i h;cases e;obtain⟨v,rfl,r⟩:=UY c;cases OM r;exact⟨_,_,rfl,⟨R9 h,rfl⟩,q _ H (Z3.refl _) VX (λz=>by cases z)⟩
  ·cases e
 ·cases e;obtain⟨v,rfl,r⟩:=UY c;obtain⟨a,b,rfl,f,g⟩:=TC r;exact⟨_,_,rfl,.inl ⟨b,YK.of (WD f),rfl⟩,by rw[<- g.length];exact q _ H (Z3.refl _) VX (λz=>by cases z)⟩
 ·cases e;obtain⟨v,rfl,r⟩:=UY c;obtain⟨a,b,rfl,f,g⟩:=SL r;exact⟨_,_,rfl,.inr ⟨b,Yh.of (WD f),rfl⟩,by rw[<- g.length];exact q _ H (Z3.refl _) VX (λz=>by cases z)⟩
 ·cases e
def TN:GF
 | [.int i,.int j]=>some (.int (if j<i then j else i),false)
 | _=>none
theorem Bj:SC (λa H Q=>∃i j,a=[.int i,.int j]/\Q (.int (if j<i then j else i)) H) TN:=by
 intro A H vs h g b d fr e Q q;unfold TN at e;split at e
 ·cases e;obtain⟨v,u,rfl,f,c⟩:=I9 b;cases Ws f;cases Ws c;exact⟨_,_,rfl,q _ H (Z3.refl _) VX (λz=>by cases z)⟩
 ·cases e
def UO:GF
 | [c]=>(Vg c).map λds=>(.list ds,true)
 | _=>none
theorem vd{K:qC}:SC (λb H Q=>∃p c,b=[.ref p]/\(YK K H p c\/Yh K H p c)/\∀l,H l=none->Q (.ref l) (upd H l (.lst c))) UO:=by
 intro A H vs m g f d fr e Q q;unfold UO at e;split at e
 ·obtain⟨k,h,e⟩:=qG.mp e;cases e;obtain⟨v,rfl,j⟩:=UY f;obtain⟨p,b,rfl,i,r⟩:=J3 (K:=K) j h;refine⟨p,b,rfl,i.imp (Z6.same A H).seq (Yh.same (Z6.same A H)),λl a=>?_⟩;exact q _ _ (Z3.new a) (P8 a (Us g a) r) λ_=>⟨l,rfl,a,Ct a r⟩
 ·cases e
def Xw:GF
 | [c]=>(Vg c).map λds=>(.tuple ds,false)
 | _=>none
theorem t7{K:qC}:SC (λa H Q=>∃p h,a=[.ref p]/\((YK K H p h/\∀l,H l=none->Q (.ref l) (upd H l (.tup h)))\/(Yh K H p h/\Q (.ref p) H))) Xw:=by
 intro A H vs j m k d fr e Q q;unfold Xw at e;split at e
 ·obtain⟨n,b,e⟩:=qG.mp e;cases e;obtain⟨v,rfl,i⟩:=UY k;rename_i c
  cases c with
  | list j=>
   cases b;obtain⟨p,a,rfl,g,r⟩:=TC i;exact⟨p,a,rfl,.inl ⟨YK.of (WD g),λl f=>q _ _ (Z3.new f) (KH f (Us m f) r) (λz=>by cases z)⟩⟩
  | tuple j=>
   cases b;obtain⟨p,a,rfl,g,r⟩:=SL i;exact⟨p,a,rfl,.inr ⟨Yh.of (WD g),q _ H (Z3.refl _) i (λz=>by cases z)⟩⟩
  | _=>cases b
 ·cases e
def Nb:List PyData->Option (List Bool)
 | []=>some []
 | .bool b::r=>(Nb r).map λbs=>b::bs
 | _=>none
theorem JE:∀{a:List PyData}{vs:List V}{bs:List Bool},ZH H a vs->Nb a=some bs->vs=bs.map V.bl
 | [],vs,bs,h,e=>by unfold ZH at h;cases e;exact h
 | d::a,vs,bs,h,e=>by
  unfold ZH at h;obtain⟨v,i,rfl,c,f⟩:=h
  cases d with
  | bool b=>
   obtain⟨j,g,rfl⟩:=qG.mp e;rw[MW c,JE f g];rfl
  | _=>cases e
def XJ(f:List Bool->Bool):GF
 | [.list ds]=>(Nb ds).map λbs=>(.bool (f bs),false)
 | _=>none
theorem Aa{K:qC}{f:List Bool->Bool}:SC (Sw K f) (XJ f):=by
 intro A H vs j i a d fr e Q q;unfold XJ at e;split at e
 ·obtain⟨bs,b,e⟩:=qG.mp e;cases e;obtain⟨v,rfl,g⟩:=UY a;obtain⟨p,h,rfl,c,r⟩:=TC g;cases JE r b;exact⟨p,bs,rfl,YK.of (WD c),q _ H (Z3.refl _) TB (λz=>by cases z)⟩
 ·cases e
def K0:PyData->String
 | .none=>"NoneType"|.bool _=>"bool"|.int _=>"int"|.str _=>"str"|.list _=>"list"|.tuple _=>"tuple"|.dict _=>"dict"
theorem yq{K:qC}{H:Hp}{d:PyData}{v:V}(h:Rp H d v):Xo K H v (.type (K0 d)):=by
 cases d with
 | list f=>obtain⟨a,e,rfl,c,_⟩:=TC h;exact .lst c
 | tuple f=>obtain⟨a,e,rfl,c,_⟩:=SL h;exact .tup c
 | dict f=>obtain⟨a,e,rfl,c,_⟩:=Kd h;exact .dK c
 | none=>cases NS h;exact .non
 | bool b=>cases MW h;exact .bl _
 | int b=>cases Ws h;exact .int _
 | str b=>cases OM h;exact .str _
def P2(n:String)(d:PyData):Bool:=K0 d==n||(K0 d=="bool"&&n=="int")
def Wz(n:String)(a:EF):EF:=λb=>(a b).map λx=>⟨.bool (P2 n x.d),false,[]⟩
theorem Rh{K:qC}{n:String}{c:TE}{f:EF}(h1:SE c f)(o:∀d,kitOne K (.type (K0 d)) (.type n)=some (P2 n d)) :
  SE (QV (λg H Q=>∃x n t b,g=[x,.ty n]/\Xo K H x t/\kitOne K t (.type n)=some b/\Q (.bl b) H) (YW c (YW (tC (.ty n)) XI))) (Wz n f):=by
 intro j m a σ H h p e Q q;unfold Wz at e;obtain⟨x,ex,rfl⟩:=qG.mp e;refine h1 j m a σ H h _ ex _ λv i k l=>?_;exact⟨v,n,_,_,rfl,yq (Rp.same (Z6.same _ _) _ l.rp),o _,q _ i k ⟨TB,λz=>by cases z⟩⟩
theorem Ib{K:qC}:∀d,kitOne K (.type (K0 d)) (.type "list")=some (P2 "list" d):=by intro d;cases d<;>rfl
theorem uE{K:qC}:∀d,kitOne K (.type (K0 d)) (.type "tuple")=some (P2 "tuple" d):=by intro d;cases d<;>rfl
abbrev LR:=ZY->Option (Option Int)
def Hn(t:TO)(f:LR):Prop:=∀(d:Addr->Prop)(c:Hp)(a:ZY)(σ:St)(H:Hp),EnvOk d c a σ H->∀r,f a=some r->∀Q:Option Int->Hp->Prop,(∀b,Z3 H b->Q r b)->t σ H Q
def XC:LR:=λ_=>some none
def YC(a:EF):LR:=λenv=>(a env).bind λx=>match x.d with|.int i=>some (some i)|_=>none
theorem AV:Hn Ww XC:=by
 intro d c a σ H h r b Q q;cases b;exact q H (Z3.refl _)
theorem oA(h1:SE e f):Hn (Tj e) (YC f):=by
 intro g l b σ H h r a Q q;unfold YC at a;obtain⟨⟨d,fr,bs⟩,ex,a⟩:=qA.mp a
 cases d with
 | int i=>
  cases a;exact h1 g l b σ H h _ ex _ λv c j k=>⟨i,Ws k.rp,q c j⟩
 | _=>cases a
def X1(a:List PyData)(b c:Option Int):List PyData:=(a.drop (HT.sIx a.length 0 b)).take (HT.sIx a.length a.length c - HT.sIx a.length 0 b)
theorem ZH.drop{ds:List PyData}{vs:List V}(h:ZH H ds vs)(n:Nat):ZH H (ds.drop n) (vs.drop n):=by
 induction n generalizing ds vs with
 | zero=>exact h
 | succ n b=>
  cases ds with
  | nil=>unfold ZH at h;subst h;exact VP
  | cons d ds=>unfold ZH at h;obtain⟨v,c,rfl,e,a⟩:=h;exact b a
theorem ZH.take{ds:List PyData}{vs:List V}(h:ZH H ds vs)(n:Nat):ZH H (ds.take n) (vs.take n):=by
 induction n generalizing ds vs with
 | zero=>exact VP
 | succ n c=>
  cases ds with
  | nil=>unfold ZH at h;subst h;exact VP
  | cons d ds=>unfold ZH at h;obtain⟨v,e,rfl,b,a⟩:=h;exact UF b (c a)
theorem ZH.cut(h:ZH H c vs)(b a:Option Int):ZH H (X1 c b a) (WL vs b a):=by
 unfold X1 WL;rw[<- h.length];exact(h.drop _).take _
def pX(d:PyData)(b a:Option Int):Option (PyData×Bool):=match d with
 | .str z=>if z.length<=100000 then some (.str (Txt.slice z b a),false)else none
 | .list ds=>some (.list (X1 ds b a),true)
 | _=>none
def Ys(a:EF)(l h:LR):EF:=λenv=>(a env).bind λx=>(l env).bind λlo=>(h env).bind λhi=>(pX x.d lo hi).bind λz=>some ⟨z.1,z.2,ZM z.1 x.bs⟩
theorem Ar{K:qC}{A:TE}{w x:TO}{f:EF}{t u:LR}(h1:SE A f)(h2:Hn w t)(h3:Hn x u):SE (DJ (OL K) A w x) (Ys f t u):=by
 intro i s b σ H h P a Q q;unfold Ys at a;obtain⟨⟨d,D,bs⟩,ex,a⟩:=qA.mp a;obtain⟨o,F,a⟩:=qA.mp a;obtain⟨n,J,a⟩:=qA.mp a;obtain⟨⟨O,m⟩,c,a⟩:=qA.mp a;cases a;refine h1 i s b σ H h _ ex _ λv M k N=>h2 i s b σ M (h.up k) _ F _ λC j=>h3 i s b σ C (h.up (k.trans j)) _ J _ λE y=>?_;have B:=(N.later (Z3.refl _) (j.trans y) λ_ z=>z).rp;have g:=(k.trans j).trans y
 cases d with
 | str z=>
  have c:(if z.length<=100000 then some (PyData.str (Txt.slice z o n),false)else none)=some (O,m):=c;split at c
  ·rename_i e;cases c;cases OM B;exact⟨R9 e,q _ E g ⟨Na,λz=>by cases z⟩⟩
  ·cases c
 | list R=>
  cases c;obtain⟨p,G,rfl,I,r⟩:=TC B;refine⟨p,G,rfl,YK.of (WD I),λl e=>q _ _ (g.trans (Z3.new e)) ?_⟩;have L:=(h.up g).lims bs;exact⟨P8 e (Us L e) (r.cut o n),λ_=>⟨l,rfl,g.free e,Ct e (r.cut o n)⟩⟩
 | _=>cases c
def Uc(c:Addr->Prop)(e:Hp)(d:PyData)(fr:Bool)(v:V)(H:Hp):Prop:=Rp (Z6 c H) d v/\(fr=true->∃a,v=.ref a/\e a=none/\Wo (Z6 (λb=>c b\/b=a) H) H a d)
def YM(n:Nat)(g:GF):Sp:=λvs H Q _=>∃(e:Addr->Prop)(c:List PyData)(d:PyData)(fr:Bool),c.length=n/\(∀b,e b->∃o,H b=some o)/\ZH (Z6 e H) c vs/\g c=some (d,fr)/\∀v a,Z3 H a->Uc e H d fr v a->Q v a
def ZG(n:Nat)(g:GF)(f:AF):EF:=λenv=>(f env).bind λrs=>if rs.length=n then(g (XX rs)).bind λz=>some ⟨z.1,z.2,ZM z.1 (Yj rs)⟩else none
theorem Ot(p:SA y f):SE (X7 (YM n g) [] E0 y) (ZG n g f):=by
 intro l A j σ H h C c Q q;unfold ZG at c;obtain⟨k,u,c⟩:=qA.mp c;split at c
 ·rename_i r;obtain⟨⟨d,fr⟩,t,c⟩:=qA.mp c;cases c;refine p l A j σ H h k u _ λvs D m z=>?_;rw[q9];refine⟨lim l j σ (Yj k),XX k,d,fr,by rw[Q9];exact r,(h.up m).lims _,S5 (λi v=>v) z,t,λw H3 s3 ⟨rp,fr3⟩=>q w H3 (m.trans s3) ⟨Oz rp,λe=>?_⟩⟩;obtain⟨a,x,s,o⟩:=fr3 e;refine⟨a,x,m.free s,?_⟩;have B:XF d=false:=by cases d<;>first|rfl|exact o.elim
  show Wo (Z6 (λb=>lim l j σ (ZM d (Yj k)) b\/b=a) H3) H3 a d;rw[show ZM d (Yj k)=Yj k by unfold ZM;rw[if_neg (by rw[B];decide)]];exact o
 ·cases c
inductive RT where
 | nx (env:ZY)
 | bk (env:ZY)
 | ct (env:ZY)
 | rt (d:PyData) (fr:Bool)
def Ci(c:Addr->Prop)(b:Hp)(D:XU):RT->Prop
 | .nx a=>∀σ H,EnvOk c b a σ H->D.nx σ H
 | .bk a=>∀σ H,EnvOk c b a σ H->D.bk σ H
 | .ct a=>∀σ H,EnvOk c b a σ H->D.ct σ H
 | .rt d fr=>∀v H,Z3 b H->Uc c b d fr v H->D.rt v H
abbrev SF:=ZY->Option RT
def SS(d:TS)(F:SF):Prop:=∀(c:Addr->Prop)(b:Hp)(a:ZY)(σ:St)(H:Hp)(D:XU),EnvOk c b a σ H->∀o,F a=some o->Ci c b D o->d D σ H
def frz1(env:ZY)(i:Nat):ZY:=match env[i]? with
 | some (.ac d)=>env.set i (.pl d)
 | _=>env
def frzs(env:ZY)(bs:List Nat):ZY:=bs.foldl frz1 env
theorem tD(a:ZY)(i:Nat):(frz1 a i).length=a.length:=by
 unfold frz1;split
 ·rw[Wd]
 ·rfl
theorem WY{l:List α}(h:(l.set i x)[j]?=some y):(j=i/\y=x)\/(j≠i/\l[j]?=some y):=by
 rw[List.getElem?_set]at h;by_cases e:i=j
 ·subst e;rw[if_pos rfl]at h;split at h
  ·exact .inl ⟨rfl,(qZ h).symm⟩
  ·cases h
 ·rw[if_neg e]at h;exact .inr ⟨λz=>e z.symm,h⟩
theorem Kh(h:(frz1 a i)[j]?=some (.ac d)):a[j]?=some (.ac d)/\j≠i:=by
 unfold frz1 at h;split at h
 ·rcases WY h with⟨_,e⟩|⟨e,h⟩
  ·cases e
  ·exact⟨h,e⟩
 ·rename_i b;refine⟨h,λe=>?_⟩;subst e;exact b d h
theorem pB(h:(frz1 a i)[j]?=some (.pl d)):a[j]?=some (.pl d)\/(j=i/\a[i]?=some (.ac d)):=by
 unfold frz1 at h;split at h
 ·rename_i f b;rcases WY h with⟨c,e⟩|⟨e,h⟩
  ·cases e;exact .inr ⟨c,b⟩
  ·exact .inl h
 ·exact .inl h
theorem Jz:∀a,own (frz1 env i) σ a->own env σ a:=by
 rintro a ⟨j,d,c,b⟩;exact⟨j,d,(Kh c).1,b⟩
theorem EnvOk.frz1{m:Addr->Prop}(h:EnvOk m u env σ H)(i:Nat):EnvOk m u (frz1 env i) σ H:=by
 have p:Z3 (Z6 (λa=>m a\/own env σ a) H) (Z6 (λa=>m a\/own (L2.frz1 env i) σ a) H):=Z6.sub λb z=>z.imp (λy=>y) (Jz b);refine⟨by rw[tD];exact h.len,λj d e=>?_,λj d e=>?_,λj k d n a c f l g=>h.inj j k d n a (Kh c).1 (Kh f).1 l g,h.base,h.fxs⟩
 ·rcases pB e with e|⟨rfl,e⟩
  ·obtain⟨v,c,f⟩:=h.pl j d e;exact⟨v,c,Rp.same p _ f⟩
  ·obtain⟨a,c,f,l,g⟩:=h.ac j d e;refine⟨_,c,g.rp p λo s=>?_⟩;rw[Z6.get]
   ·exact s
   ·rintro(z|⟨k,n,q,t⟩)
    ·exact l z
    ·obtain⟨q,r⟩:=Kh q;exact r (h.inj k j n d a q e t c)
 ·obtain⟨a,c,f,l,g⟩:=h.ac j d (Kh e).1;exact⟨a,c,f,l,g.same p λo z=>z⟩
theorem EnvOk.frzs{a:Addr->Prop}:∀(bs:List Nat){env:ZY},EnvOk a b env σ H->EnvOk a b (frzs env bs) σ H
 | [],_,h=>h
 | i::bs,_,h=>EnvOk.frzs bs (h.frz1 i)
theorem GK:∀{bs:List Nat}{a:ZY}{j:Nat}{d:PyData},(frzs a bs)[j]?=some (.ac d)->a[j]?=some (.ac d)/\j∉bs
 | [],_,_,_,h=>⟨h,by simp⟩
 | i::bs,a,j,d,h=>by
  obtain⟨e,f⟩:=GK (bs:=bs) h;obtain⟨c,b⟩:=Kh e;exact⟨c,by simp[b,f]⟩
theorem RG{c:Addr->Prop}:∀a,c a\/own (frzs b bs) σ a->lim c b σ bs a:=by
 rintro a (z|⟨i,d,g,h⟩)
 ·exact .inl z
 ·obtain⟨f,e⟩:=GK g;exact .inr ⟨i,d,e,f,h⟩
theorem yc:∀(bs:List Nat)(a:ZY),(frzs a bs).length=a.length
 | [],_=>rfl
 | i::bs,a=>(yc bs _).trans (tD a i)
theorem JM{b:ZY}{σ:St}:∀a,own (b.set i (.pl d)) (σ.set i (some v)) a->own b σ a:=by
 rintro a ⟨j,e,f,c⟩;rcases WY f with⟨_,z⟩|⟨g,f⟩
 ·cases z
 ·rcases WY c with⟨z,_⟩|⟨_,c⟩
  ·exact absurd z g
  ·exact⟨j,e,f,c⟩
theorem EnvOk.setPl{m:Addr->Prop}{c:ZY}{σ:St}(h:EnvOk m E c σ H)(i:Nat)(r:Rp (Z6 (λa=>m a\/own c σ a) H) d v):EnvOk m E (c.set i (.pl d)) (σ.set i (some v)) H:=by
 have w:Z3 (Z6 (λa=>m a\/own c σ a) H) (Z6 (λa=>m a\/own (c.set i (.pl d)) (σ.set i (some v)) a) H):=Z6.sub λb z=>z.imp (λy=>y) (JM b);have kept:∀{j:Nat},j≠i->(σ.set i (some v))[j]?=σ[j]?:=λ{j} n=>qY λz=>n z.symm;refine⟨by rw[Wd,Wd];exact h.len,λj e q=>?_,λj e q=>?_,λj k A D a g l s p=>?_,h.base,h.fxs⟩
 ·rcases WY q with⟨rfl,z⟩|⟨t,f⟩
  ·cases z;have C:j<c.length:=by have:=(qK.mp q).1;rwa [Wd]at this
   exact⟨v,by rw[Te (by rw[<- h.len];exact C)],Rp.same w _ r⟩
  ·obtain⟨u,g,l⟩:=h.pl j e f;exact⟨u,by rw[kept t];exact g,Rp.same w _ l⟩
 ·rcases WY q with⟨_,z⟩|⟨t,f⟩
  ·cases z
  ·obtain⟨a,g,l,s,p⟩:=h.ac j e f;exact⟨a,by rw[kept t];exact g,l,s,p.same w λo z=>z⟩
 ·rcases WY g with⟨_,z⟩|⟨B,g⟩
  ·cases z
  rcases WY l with⟨_,z⟩|⟨x,l⟩
  ·cases z
  rw[kept B]at s;rw[kept x]at p;exact h.inj j k A D a g l s p
theorem EnvOk.setAc {g:Addr->Prop} {c:ZY} {σ:St} (h:EnvOk (λb=>g b\/b=a) M c σ H) (i:Nat) (r:Wo (Z6 (λb=>(g b\/own c σ b)\/b=a) H) H a d) (O:M a=none) (Q:¬g a) :
  EnvOk g M (c.set i (.ac d)) (σ.set i (some (.ref a))) H:=by
 have kept:∀{j:Nat},j≠i->(σ.set i (some (V.ref a)))[j]?=σ[j]?:=λ{j} n=>qY λz=>n z.symm
 have sub:∀b,g b\/own (c.set i (.ac d)) (σ.set i (some (.ref a))) b->(g b\/b=a)\/own c σ b:=by
  rintro b (z|⟨j,e,l,f⟩)
  ·exact .inl (.inl z)
  ·rcases WY l with⟨rfl,z⟩|⟨x,l⟩
   ·have s:j<c.length:=by have:=(qK.mp ‹(c.set j (.ac d))[j]?=_›).1;rwa [Wd]at this
    rw[Te (by rw[<- h.len];exact s)]at f;cases f;exact .inl (.inr rfl)
   ·rw[kept x]at f;exact .inr ⟨j,e,l,f⟩
 have I:Z3 (Z6 (λb=>(g b\/b=a)\/own c σ b) H) (Z6 (λb=>g b\/own (c.set i (.ac d)) (σ.set i (some (.ref a))) b) H):=Z6.sub sub
 have B:Z3 (Z6 (λb=>(g b\/own c σ b)\/b=a) H) (Z6 (λb=>g b\/own (c.set i (.ac d)) (σ.set i (some (.ref a))) b) H):=Z6.sub λb z=>by
  rcases sub b z with(y|y)|y
  ·exact .inl (.inl y)
  ·exact .inr y
  ·exact .inl (.inr y)
 refine⟨by rw[Wd,Wd];exact h.len,λj e A=>?_,λj e A=>?_,λj k L G b l f p m=>?_,h.base,λb z=>h.fxs b (.inl z)⟩
 ·rcases WY A with⟨_,z⟩|⟨x,q⟩
  ·cases z
  ·obtain⟨u,l,f⟩:=h.pl j e q;exact⟨u,by rw[kept x];exact l,Rp.same I _ f⟩
 ·rcases WY A with⟨rfl,z⟩|⟨x,q⟩
  ·cases z;have s:j<c.length:=by have:=(qK.mp A).1;rwa [Wd]at this
   exact⟨a,by rw[Te (by rw[<- h.len];exact s)],O,Q,r.same B λo z=>z⟩
  ·obtain⟨b,l,f,p,m⟩:=h.ac j e q;exact⟨b,by rw[kept x];exact l,f,λz=>p (.inl z),m.same I λo z=>z⟩
 ·rcases WY l with⟨F,R⟩|⟨E,t⟩<;>rcases WY f with⟨J,S⟩|⟨D,v⟩
  ·rw[F,J]
  ·subst F;have s:j<c.length:=by have:=(qK.mp l).1;rwa [Wd]at this
   rw[Te (by rw[<- h.len];exact s)]at p;rw[kept D]at m;cases p;obtain⟨b,w,P,C,N⟩:=h.ac k G v;rw[m]at w;cases w;exact absurd (.inr rfl) C
  ·subst J;have s:k<c.length:=by have:=(qK.mp f).1;rwa [Wd]at this
   rw[Te (by rw[<- h.len];exact s)]at m;rw[kept E]at p;cases m;obtain⟨b,w,P,C,N⟩:=h.ac j L t;rw[p]at w;cases w;exact absurd (.inr rfl) C
  ·rw[kept E]at p;rw[kept D]at m;exact h.inj j k L G b t v p m
def OJ(r:Yo):Sl:=if r.fr=true then .ac r.d else .pl r.d
def Vq(env:ZY)(i:Nat)(r:Yo):ZY:=(frzs env r.bs).set i (OJ r)
theorem EnvOk.put{f:Addr->Prop}{σ:St}(h:EnvOk f p d σ H)(s:Z3 H m){r:Yo}(q:Xj (lim f d σ r.bs) H m r v)(i:Nat):EnvOk f p (Vq d i r) (σ.set i (some v)) m:=by
 unfold Vq OJ
 cases e:r.fr with
 | false=>
  rw[if_neg qQ];exact((h.up s).frzs r.bs).setPl i (Rp.same (Z6.sub RG) _ q.rp)
 | true=>
  rw[if_pos rfl];obtain⟨a,rfl,k,c⟩:=q.fr e;have l:¬f a:=Us h.fxs k
  have g:EnvOk (λb=>f b\/b=a) p d σ m:=h.grow s (λb o j n z=>z.elim n λy=>by rw[y,k]at j;cases j) λb z=>by
   rcases z with z|z
   ·obtain⟨o,j⟩:=h.fxs b z;exact⟨o,s b o j⟩
   ·rw[z];exact c.ex
  refine(g.frzs r.bs).setAc i (c.same (Z6.sub λb z=>?_) λo z=>z) (h.base.free k) l;rcases z with z|z
  ·exact .inl (RG b z)
  ·exact .inr z
def Zj:SF:=λenv=>some (.nx env)
def Z0(f g:SF):SF:=λenv=>(f env).bind λo=>match o with
 | .nx a=>g a
 | o=>some o
theorem V1:SS U2 Zj:=by
 intro c b a σ H D h o e q;cases e;exact q σ H h
theorem Y4(h1:SS t f)(h2:SS u g):SS (WE t u) (Z0 f g):=by
 intro j k b σ H D h o e q;unfold Z0 at e;obtain⟨i,l,e⟩:=qA.mp e;refine h1 j k b σ H _ h i l ?_
 cases i with
 | nx a=>exact λc n m=>h2 j k a c n D m o e q
 | bk a=>cases e;exact q
 | ct a=>cases e;exact q
 | rt d fr=>cases e;exact q
def KR:SF:=λ_=>none
theorem Du:SS TR KR:=by
 intro c b a σ H D h o e q;cases e
def Sm(f:EF):SF:=λa=>(f a).map λ_=>.nx a
theorem Ig(h1:SE b f):SS (XO b) (Sm f):=by
 intro d i a σ H D h o e q;unfold Sm at e;obtain⟨r,c,rfl⟩:=qG.mp e;exact h1 d i a σ H h r c _ λv g s _=>q σ g (h.up s)
def Ze(f:EF):SF:=λenv=>(f env).map λr=>.rt r.d r.fr
theorem R3(h1:SE j f):SS (WR j) (Ze f):=by
 intro i p c σ H D h o e q;unfold Ze at e;obtain⟨r,g,rfl⟩:=qG.mp e;refine h1 i p c σ H h r g _ λv k s d=>q v k (h.base.trans s) ⟨Rp.same (Z6.sub λb z=>.inl z) _ d.rp,λz=>?_⟩;obtain⟨a,l,n,m⟩:=d.fr z;exact⟨a,l,h.base.free n,m.same (Z6.sub λb y=>y.imp .inl id) λo z=>z⟩
def Th(i:Nat):SF:=λenv=>match env[i]? with
 | some (.pl d)=>some (.rt d false)
 | some (.ac d)=>some (.rt d true)
 | _=>none
theorem Q6:SS (WR (YR i)) (Th i):=by
 intro n p f σ H D h o e q;unfold Th at e
 cases ei:f[i]? with
 | none=>rw[ei]at e;cases e
 | some l=>
  rw[ei]at e
  cases l with
  | no=>cases e
  | pl d=>
   cases e;obtain⟨v,c,g⟩:=h.pl i d ei;exact⟨v,c,q v H h.base ⟨Rp.same (Z6.sub λb z=>.inl z) _ g,λz=>by cases z⟩⟩
  | ac d=>
   cases e;obtain⟨a,c,g,m,j⟩:=h.ac i d ei;refine⟨_,c,q _ H h.base ⟨j.rp (Z6.sub λb z=>.inl z) λo k=>by rw[Z6.get m];exact k,λ_=>⟨a,rfl,g,j.same (Z6.sub λb z=>?_) λo z=>z⟩⟩⟩;rcases z with z|z
   ·exact .inl z
   ·rw[z];exact .inr ⟨i,d,ei,c⟩
def YA(c:TF)(f g:SF):SF:=λenv=>(c env).bind λb=>if b=true then f env else g env
theorem Vz(l:ST k c)(h1:SS t f)(h2:SS u g):SS (Uo k t u) (YA c f g):=by
 intro d i a σ H D h o e q;unfold YA at e;obtain⟨b,m,e⟩:=qA.mp e;refine l d i a σ H h b m _ λj s=>?_
 cases b with
 | true=>exact WA (h1 d i a σ j D (h.up s) o e q)
 | false=>exact WB (h2 d i a σ j D (h.up s) o e q)
def Z1(i:Nat)(f:EF):SF:=λenv=>(f env).map λr=>.nx (Vq env i r)
theorem T8(h1:SE te f):SS (Xy te (Y6 i)) (Z1 i f):=by
 intro c g a σ H D h o e q;unfold Z1 at e;obtain⟨r,b,rfl⟩:=qG.mp e;exact h1 c g a σ H h r b _ λv d s j=>q _ d (h.put s j i)
abbrev GT:=PyData->ZY->Option ZY
def SG(g:TG)(f:GT):Prop:=∀(h:Addr->Prop)(i:Hp)(c:ZY)(σ:St)(H:Hp)(d:PyData)(v:V),EnvOk h i c σ H->Rp (Z6 (λa=>h a\/own c σ a) H) d v->∀b,f d c=some b->∀Q:St->Hp->Prop,
 (∀e,EnvOk h i b e H->Q e H)->g v σ H Q
abbrev N7:=List PyData->ZY->Option ZY
def Dz(g:O3)(f:N7):Prop:=∀(e:Addr->Prop)(h:Hp)(c:ZY)(σ:St)(H:Hp)(i:List PyData)(vs:List V),EnvOk e h c σ H->ZH (Z6 (λa=>e a\/own c σ a) H) i vs->∀b,f i c=some b->∀Q:St->Hp->Prop,
 (∀d,EnvOk e h b d H->Q d H)->g vs σ H Q
def gN(i:Nat):GT:=λd env=>some (env.set i (.pl d))
theorem Wj:SG (Y6 i) (gN i):=by
 intro f c b σ H d v h r a e Q q;cases e;exact q _ (h.setPl i r)
def YE:N7:=λds env=>match ds with|[]=>some env|_=>none
def Zw(i:Nat)(g:N7):N7:=λds env=>match ds with|d::r=>g r (env.set i (.pl d))|[]=>none
theorem S7:Dz SW YE:=by
 intro d f b σ H c vs h r a e Q q
 cases c with
 | nil=>cases e;unfold ZH at r;exact⟨r,q _ h⟩
 | cons _ _=>cases e
theorem W7(h1:Dz t g):Dz (W3 (Y6 i) t) (Zw i g):=by
 intro l m c σ H f vs h r a e Q q
 cases f with
 | nil=>cases e
 | cons d f=>
  unfold ZH at r;obtain⟨v,j,rfl,n,k⟩:=r;refine⟨v,j,rfl,h1 l m (c.set i (.pl d)) _ H f j (h.setPl i n) (ZH.same (Z6.sub λb z=>z.imp (λy=>y) (JM b)) _ k) a e Q q⟩
def gT(n:Nat)(g:N7):GT:=λd env=>match d with|.tuple ds=>if ds.length=n then g ds env else none|_=>none
theorem S1{K:qC}{n:Nat}{t:O3}{g:N7}(h1:Dz t g):SG (T4 K n t) (gT n g):=by
 intro l o c σ H d v h r b e Q q;unfold gT at e
 cases d with
 | tuple f=>
  have e:(if f.length=n then g f c else none)=some b:=e;split at e
  ·rename_i m;obtain⟨a,i,rfl,k,j⟩:=SL r;exact⟨a,i,rfl,Yh.of (WD k),by rw[<- j.length];exact m,h1 l o c σ H f i h j b e Q q⟩
  ·cases e
 | _=>cases e
def RC(f:EF)(g:GT):SF:=λa=>(f a).bind λr=>(g r.d (frzs a r.bs)).map .nx
theorem Lu(h1:SE m f)(h2:SG g t):SS (Xy m g) (RC f t):=by
 intro i k b σ H D h o e q;unfold RC at e;obtain⟨r,l,e⟩:=qA.mp e;obtain⟨a,n,rfl⟩:=qG.mp e;exact h1 i k b σ H h r l _ λv j s u=>h2 i k _ σ j r.d v ((h.up s).frzs r.bs) (Rp.same (Z6.sub RG) _ u.rp) a n _ λc p=>q c j p
theorem EnvOk.mut{q:Addr->Prop}{c:ZY}(h:EnvOk q N c σ H)(e:c[i]?=some (.ac d))(s:σ[i]?=some (some (.ref a)))
  (r:Wo (Z6 (λb=>q b\/own c σ b) H) (upd H a o) a d'):EnvOk q N (c.set i (.ac d')) σ (upd H a o):=by
 have I:i<c.length:=(qK.mp e).1;have L:own c σ a:=⟨i,d,e,s⟩
 have M:∀b,own (c.set i (.ac d')) σ b↔own c σ b:=by
  intro b;constructor
  ·rintro⟨j,n,g,m⟩;rcases WY g with⟨rfl,z⟩|⟨t,g⟩
   ·exact⟨j,d,e,m⟩
   ·exact⟨j,n,g,m⟩
  ·rintro⟨j,n,g,m⟩;by_cases p:j=i
   ·subst p;exact⟨j,d',by rw[Te I],m⟩
   ·exact⟨j,n,by rw[qY λz=>p z.symm];exact g,m⟩
 have x:Z3 (Z6 (λb=>q b\/own c σ b) H) (Z6 (λb=>q b\/own (c.set i (.ac d')) σ b) (upd H a o)):=by
  have:Z3 (Z6 (λb=>q b\/own c σ b) (upd H a o)) (Z6 (λb=>q b\/own (c.set i (.ac d')) σ b) (upd H a o)):=Z6.sub λb z=>z.imp (λy=>y) (M b).mp;rw[Z6.upd (.inr L)]at this;exact this
 obtain⟨P,B,A,E,O⟩:=h.ac i d e;rw[s]at B;cases B;refine⟨by rw[Wd];exact h.len,λj n p=>?_,λj n p=>?_,λj k n C b g m w v=>?_,λb u D=>by rw[Y0 (VG D A)];exact h.base b u D,λb z=>?_⟩
 ·rcases WY p with⟨_,z⟩|⟨t,l⟩
  ·cases z
  ·obtain⟨u,g,m⟩:=h.pl j n l;exact⟨u,g,Rp.same x _ m⟩
 ·rcases WY p with⟨rfl,z⟩|⟨t,l⟩
  ·cases z;exact⟨a,s,A,E,r.same x λo z=>z⟩
  ·obtain⟨b,g,m,w,v⟩:=h.ac j n l;refine⟨b,g,m,w,v.same x λQ z=>?_⟩;rw[Y0 λy=>t (h.inj j i n d a l e (by rw[<- y];exact g) s)];exact z
 ·have f:∀{j:Nat}{n:PyData},(c.set i (.ac d'))[j]?=some (.ac n)->∃C,c[j]?=some (.ac C):=λ{j n} p=>by
   rcases WY p with⟨rfl,z⟩|⟨t,l⟩
   ·exact⟨d,e⟩
   ·exact⟨n,l⟩
  obtain⟨F,g⟩:=f g;obtain⟨G,m⟩:=f m;exact h.inj j k F G b g m w v
 ·obtain⟨u,J⟩:=h.fxs b z;exact⟨u,by rw[Y0 λy=>E (by rw[<- y];exact z)];exact J⟩
def Zc(i:Nat)(f:EF):SF:=λenv=>match env[i]? with
 | some (.ac (.list ds))=>(f env).bind λr=>if ds.length<100000/\i∉r.bs then some (.nx ((frzs env r.bs).set i (.ac (.list (ds++[r.d])))))else none
 | _=>none
theorem Kj:∀{bs:List Nat},i∉bs->a[i]?=some (.ac d)->(frzs a bs)[i]?=some (.ac d):=by
 intro bs
 induction bs generalizing a with
 | nil=>intro _ e;exact e
 | cons j bs f=>
  intro b e;have c:i≠j:=λz=>b (by simp[z]);refine f (λz=>b (qI _ z)) ?_;unfold frz1;split
  ·rw[qY λz=>c z.symm];exact e
  ·exact e
theorem HA{K:qC}{i:Nat}{y:TE}{f:EF}(h1:SE y f):SS (XO (QD K "list" KI (YR i) (YW y XI))) (Zc i f):=by
 intro l I c σ H D h o e q;unfold Zc at e;split at e
 ·rename_i G x;obtain⟨r,C,e⟩:=qA.mp e;split at e
  ·rename_i u;cases e;obtain⟨a,j,M,O,z⟩:=h.ac i _ x;obtain⟨p,m,F⟩:=z;refine⟨_,j,.inl ⟨rfl,_,YK.of m⟩,h1 l I c σ H h r C _ λv B s J=>?_⟩;have w:=(h.up s).frzs r.bs;have d:=Kj u.2 x;have g:=s _ _ m
   have k:ZH (Z6 (λb=>l b\/own (frzs c r.bs) σ b) B) G p:=by
    obtain⟨N,n,_,_,E⟩:=w.ac i _ d;rw[j]at n;cases n;obtain⟨L,t,A⟩:=E;rw[g]at t;cases t;exact A
   refine⟨a,p,v,rfl,rfl,g,Nf (by rw[<- F.length];exact u.1),?_⟩;refine q σ _ (w.mut d j ⟨_,Yr,k.append (UF (Rp.same (Z6.sub RG) _ J.rp) VP)⟩)
  ·cases e
 ·cases e
def Xz(i:Nat)(b a:EF):SF:=λenv=>match env[i]? with
 | some (.ac (.dict kvs))=>(a env).bind λr=>(b env).bind λk=>(Zd k.d).bind λ_=>if kvs.length<100000/\i∉r.bs then some (.nx ((frzs env r.bs).set i (.ac (.dict (Up kvs k.d r.d)))))else none
 | _=>none
theorem O1(h1:SE U P)(h2:SE Q M):SS (RW (YR i) U Q) (Xz i P M):=by
 intro j C c σ H D h o e q;unfold Xz at e;split at e
 ·rename_i n B;obtain⟨r,L,e⟩:=qA.mp e;obtain⟨k,R,e⟩:=qA.mp e;obtain⟨kk,f,e⟩:=qA.mp e;split at e
  ·rename_i y;cases e;obtain⟨a,l,X,g3,E⟩:=h.ac i _ B;obtain⟨S,J,T⟩:=E;refine h2 j C c σ H h r L _ λv I s W=>⟨_,l,h1 j C c σ I (h.up s) k R _ λu F p N=>?_⟩;have t:=s.trans p;have A:=(h.up t).frzs r.bs;have d:=Kj y.2 B;have g:=t _ _ J
   have m:YP (Z6 (λb=>j b\/own (frzs c r.bs) σ b) F) n S:=by
    obtain⟨Z,w,_,_,O⟩:=A.ac i _ d;rw[l]at w;cases w;obtain⟨Y,x,G⟩:=O;rw[g]at x;cases x;exact G
   rw[SQ N.rp f];refine⟨a,_,rfl,RH.k g (Nf (by rw[<- T.length];exact y.1)),?_⟩;refine q σ _ (A.mut d l ⟨_,Yr,m.put f (Rp.same (Z6.sub RG) _ (W.later (Z3.refl _) p λ_ z=>z).rp)⟩)
  ·cases e
 ·cases e
def V3(i:Nat)(f:EF):SF:=λenv=>match env[i]? with
 | some (.ac (.dict a))=>(f env).bind λr=>match r.d with
  | .dict more=>if a.length+more.length<=100000/\i∉r.bs then some (.nx ((frzs env r.bs).set i (.ac (.dict (Q7 a more)))))else none
  | _=>none
 | _=>none
theorem IW{K:qC}{i:Nat}{E:TE}{f:EF}(h1:SE E f):SS (XO (QD K "dict" Gi (YR i) (YW E XI))) (V3 i f):=by
 intro p P d σ H D h o e q;unfold V3 at e;split at e
 ·rename_i j C;obtain⟨⟨rd,L,c⟩,J,e⟩:=qA.mp e
  cases rd with
  | dict more=>
   have e:(if j.length+more.length<=100000/\i∉c then some (RT.nx ((frzs d c).set i (.ac (.dict (Q7 j more)))))else none)=some o:=e;split at e
   ·rename_i y;cases e;obtain⟨a,l,S,U,F⟩:=h.ac i _ C;obtain⟨B,r,O⟩:=F;refine⟨_,l,.inr (.inr (.inl ⟨rfl,.inl ⟨_,r⟩⟩)),h1 p P d σ H h _ J _ λv I s Q=>?_⟩;have A:=(h.up s).frzs c;have g:=Kj y.2 C;have k:=s _ _ r
    have m:YP (Z6 (λb=>p b\/own (frzs d c) σ b) I) j B:=by
     obtain⟨T,t,_,_,N⟩:=A.ac i _ g;rw[l]at t;cases t;obtain⟨R,x,G⟩:=N;rw[k]at x;cases x;exact G
    obtain⟨b,M,rfl,w,u⟩:=Kd (Rp.same (Z6.sub RG) _ Q.rp)
    have n:a≠b:=λz=>by
     subst z;exact(Z6.of w).1 (.inr ⟨i,_,g,l⟩)
    refine⟨a,b,B,M,rfl,rfl,n,k,WD w,R9 (by rw[<- O.length,<- u.length];exact y.1),?_⟩;exact q σ _ (A.mut g l ⟨_,Yr,m.merge u⟩)
   ·cases e
  | _=>cases e
 ·cases e
theorem EnvOk.rebase{c:Addr->Prop}(h:EnvOk c l b σ H):EnvOk c (Z6 (own b σ) H) b σ H:=by
 refine⟨h.len,h.pl,λi d e=>?_,h.inj,Z6.same _ _,h.fxs⟩;obtain⟨a,f,k,j,g⟩:=h.ac i d e;exact⟨a,f,Z6.out ⟨i,d,e,f⟩,j,g⟩
theorem EnvOk.floor{g:Addr->Prop}(h:EnvOk g l c σ H):Z3 l (Z6 (own c σ) H):=λb o e=>by
 rw[Z6.get]
 ·exact h.base b o e
 ·rintro⟨i,d,j,m⟩;obtain⟨a,f,k,_⟩:=h.ac i d j;rw[m]at f;cases f;rw[k]at e;cases e
theorem EnvOk.unbase{c:Addr->Prop}(h:EnvOk c F b σ H)(s:Z3 l F):EnvOk c l b σ H:=by
 refine⟨h.len,h.pl,λi d e=>?_,h.inj,s.trans h.base,h.fxs⟩;obtain⟨a,j,k,g,f⟩:=h.ac i d e;exact⟨a,j,s.free k,g,f⟩
theorem Uc.unbase{b:Addr->Prop}(h:Uc b F d fr v H)(s:Z3 c F):Uc b c d fr v H:=
 ⟨h.1,λe=>let⟨a,h1,h2,h3⟩:=h.2 e;⟨a,h1,s.free h2,h3⟩⟩
theorem EnvOk.seen{j:Addr->Prop}(h:EnvOk j (Z6 (own c σ) H) f g q):Z3 (Z6 (λb=>j b\/own c σ b) H) (Z6 (λb=>j b\/own f g b) q):=λb o e=>by
 obtain⟨l,r⟩:=Z6.of e;have hF:Z6 (own c σ) H b=some o:=by rw[Z6.get λz=>l (.inr z)];exact r
 rw[Z6.get]
 ·exact h.base b o hF
 ·rintro(z|⟨i,d,p,n⟩)
  ·exact l (.inl z)
  ·obtain⟨a,k,m,_⟩:=h.ac i d p;rw[n]at k;cases k;rw[m]at hF;cases hF
theorem EnvOk.all{a:Addr->Prop}(h:EnvOk a c env σ H):∀b,a b\/own env σ b->∃o,H b=some o:=λb z=>h.lims [] b (HW b z)
def Yl(g:Addr->Prop)(f:Hp)(J:It)(e:List PyData):Prop:=∀(A:Addr->Prop)(c:Hp),(∀b,A b->∃o,c b=some o)->Z3 (Z6 g f) (Z6 A c)->
 (∀i d,e[i]?=some d->J.go i c/\∀x a,J.yld i c x a->Z3 c a/\Rp (Z6 A a) d x)/\J.stop e.length c
abbrev Vs:=ZY->Option (List PyData×List Nat)
def SI(g:TI)(f:Vs):Prop:=∀(d:Addr->Prop)(h:Hp)(a:ZY)(σ:St)(H:Hp),EnvOk d h a σ H->∀e bs,f a=some (e,bs)->∀R:It->Hp->Prop,
 (∀J c,Z3 H c->Yl (λb=>d b\/own (frzs a bs) σ b) c J e->R J c)->g σ H R
def Rt(K:qC)(d:TE):TI:=λσ H R=>d σ H λx b=>∃a,x=.ref a/\((∃c,YK K b a c)/\R (Nx K a) b\/(∃c,Yh K b a c)/\R (yd K a) b)
theorem yo{X:Cx}(n:PE X l m):PI X r l (Rt X.K m):=by
 intro c s σ H R I h;refine thn (n c s σ H _ I h) λv s1 ⟨x,H1,I1,r1,q1⟩=>?_;obtain⟨a,e,q⟩:=q1;subst e;cases r1;rcases q with⟨⟨i,g⟩,q⟩|⟨⟨i,g⟩,q⟩
 ·obtain⟨d,j,p,k⟩:=I1.list g;refine Qf p.isList ?_;refine⟨s1.heap.objs.size,[s1.heap.objs.size],_,_,H1,rfl,I1.kept (t':=s1.toks) λb o e=>qE _ e,F8 a _,⟨_,qd _ rfl,rfl,rfl⟩,λb f=>?_,q⟩;have e:b=s1.heap.objs.size:=by simpa using f
  subst e;exact I1.fpOk (qM _) (I1.hok.fresh (qM _))
 ·obtain⟨d,j,p,k⟩:=I1.tuple g
  refine N9 (show s1.heap.IsTuple a d.toArray from p) ?_;refine⟨s1.heap.objs.size,[s1.heap.objs.size],_,_,H1,rfl,I1.kept (t':=s1.toks) λb o e=>qE _ e,zz a _,⟨_,qd _ rfl,rfl,rfl⟩,λb f=>?_,q⟩;have e:b=s1.heap.objs.size:=by simpa using f
  subst e;exact I1.fpOk (qM _) (I1.hok.fresh (qM _))
theorem pH{X:Cx}{K:qC}(d:X.K=K){c l:Expr}{a:TE}(b:PE X l a):PI X c l (Rt K a):=by subst d;exact yo b
def Zl(f:EF):Vs:=λenv=>(f env).bind λr=>(Vg r.d).map λds=>(ds,r.bs)
theorem yp{K:qC}{g:Addr->Prop}{c:Hp}{a:Addr}{k:List PyData}{b:List V}(h:Z6 g c a=some (.lst b))(r:ZH (Z6 g c) k b):Yl g c (Nx K a) k:=by
 intro A p o s;have f:=WD (s _ _ h);have n:=ZH.same s _ r;refine⟨λi d e=>?_,⟨b,YK.of f,by rw[r.length];exact qM _⟩⟩;obtain⟨v,j,l⟩:=n.get2 e;refine⟨⟨b,v,YK.of f,j⟩,λx m y=>?_⟩;obtain⟨rfl,y⟩:=y;have:=y b (YK.of f);rw[j]at this;cases this;exact⟨Z3.refl _,l⟩
theorem wY{K:qC}{g:Addr->Prop}{c:Hp}{a:Addr}{k:List PyData}{b:List V}(h:Z6 g c a=some (.tup b))(r:ZH (Z6 g c) k b):Yl g c (yd K a) k:=by
 intro A p o s;have f:=WD (s _ _ h);have n:=ZH.same s _ r;refine⟨λi d e=>?_,⟨b,Yh.of f,by rw[r.length];exact qM _⟩⟩;obtain⟨v,j,l⟩:=n.get2 e;refine⟨⟨b,v,Yh.of f,j⟩,λx m y=>?_⟩;obtain⟨rfl,y⟩:=y;have:=y b (Yh.of f);rw[j]at this;cases this;exact⟨Z3.refl _,l⟩
theorem Jh{K:qC}{l:TE}{f:EF}(h1:SE l f):SI (Rt K l) (Zl f):=by
 intro n p g σ H h m bs e R q;unfold Zl at e;obtain⟨⟨d,fr,j⟩,o,e⟩:=qA.mp e;obtain⟨u,i,e⟩:=qG.mp e;cases e;refine h1 n p g σ H h _ o _ λv k s t=>?_;have rp:=Rp.same (Z6.sub (RG (bs:=j))) _ t.rp
 cases d with
 | list m=>
  cases i;obtain⟨a,c,rfl,b,r⟩:=TC rp;exact⟨a,rfl,.inl ⟨⟨c,YK.of (WD b)⟩,q _ k s (yp b r)⟩⟩
 | tuple m=>
  cases i;obtain⟨a,c,rfl,b,r⟩:=SL rp;exact⟨a,rfl,.inr ⟨⟨c,Yh.of (WD b)⟩,q _ k s (wY b r)⟩⟩
 | _=>cases i
def QS(ds:List PyData):List PyData:=ds.zipIdx.map λp=>.tuple [.int p.2,p.1]
def Lm(f:AF):Vs:=λenv=>(f env).bind λa=>match a with
 | [r]=>match r.d with
  | .list ds=>some (QS ds,r.bs)
  | _=>none
 | _=>none
def Mq(a:Int)(n:Nat):List PyData:=(List.range n).map λ(k:Nat)=>.int (a+(k:Int))
theorem o7{c:Addr->Prop}{b:Hp}{a:Int}{n:Nat}:Yl c b (NA a n) (Mq a n):=by
 intro A h g s;have f:(Mq a n).length=n:=by unfold Mq;simp
 refine⟨λi d e=>?_,by rw[f];exact qM _⟩;unfold Mq at e;rw[qW]at e;by_cases hi:i<n
 ·rw[List.getElem?_range hi]at e;cases e;exact⟨hi,λx H'' ⟨e1,e2⟩=>by subst e1;subst e2;exact⟨Z3.refl _,VX⟩⟩
 ·rw[jr (by simpa using hi)]at e;cases e
def Vf(f:AF):Vs:=λenv=>(f env).bind λa=>match a with
 | [⟨.int j,_,_⟩]=>if -(2 ^ 62)<=j/\j<2 ^ 62 then some (Mq 0 j.toNat,[])else none
 | _=>none
theorem Ew(h1:SA j f):SI (S9 j) (Vf f):=by
 intro i k a σ H h m bs e R q;unfold Vf at e;obtain⟨l,g,e⟩:=qA.mp e;split at e
 ·split at e
  ·rename_i c;cases e;refine h1 i k a σ H h _ g _ λvs d s b=>?_
   cases b with
   | cons b t=>
    cases t;cases Ws b.rp;exact⟨_,rfl,c.1,c.2,q _ d s o7⟩
  ·cases e
 ·cases e
def YH(g:GT)(body:SF):List PyData->ZY->Option RT
 | [],env=>some (.nx env)
 | d::ds,env=>(g d env).bind λe1=>(body e1).bind λo=>match o with
  | .nx a=>YH g body ds a
  | .ct a=>YH g body ds a
  | .bk a=>some (.nx a)
  | .rt d fr=>some (.rt d fr)
def Y2(f:Vs)(g:GT)(body:SF):SF:=λenv=>(f env).bind λz=>YH g body z.1 (frzs env z.2)
theorem VY(h1:SI W f)(h2:SG g M)(h3:SS Y j):SS (RI W g Y) (Y2 f M j):=by
 intro w H0 r σ H D h o e q;unfold Y2 at e;obtain⟨⟨k,bs⟩,er,e⟩:=qA.mp e;refine h1 w H0 r σ H h k bs er _ λJ T s yl=>?_;have Q:=(h.up s).frzs bs;have A:=Q.floor;refine⟨λi m n z=>m=k.length - i/\i<=k.length/\∃b,YH M j (k.drop i) b=some o/\EnvOk w (Z6 (own (frzs r bs) σ) T) b n z,⟨k.length,rfl,V5 _,_,e,Q.rebase⟩,?_⟩;rintro i m n z ⟨rfl,hi,b,l,C⟩;obtain⟨yi,X⟩:=yl _ z C.all C.seen;by_cases hlt:i<k.length
 ·obtain⟨U,yy⟩:=yi i k[i] (qH hlt);refine .inr ⟨U,λp c=>i+1<=k.length/\∃a,YH M j (k.drop (i+1)) a=some o/\EnvOk w (Z6 (own (frzs r bs) σ) T) a p c,?_,?_⟩
  ·rintro p c ⟨N,a,P,G⟩;exact⟨k.length - (i+1),by omega,rfl,N,a,P,G⟩
  ·intro x c Z;obtain⟨sy,ry⟩:=yy x c Z;rw[Ll hlt]at l;obtain⟨R,F,l⟩:=qA.mp l;obtain⟨S,L,l⟩:=qA.mp l;refine h2 w _ b n c _ x (C.up sy) ry R F _ λE I=>h3 w _ R E c _ I S L ?_
   cases S with
   | nx B=>exact λt u y=>⟨hlt,B,l,y⟩
   | ct B=>exact λt u y=>⟨hlt,B,l,y⟩
   | bk B=>cases l;exact λt u y=>q t u (y.unbase A)
   | rt d fr=>cases l;exact λv u sh rt=>q v u (A.trans sh) (rt.unbase A)
 ·have O:i=k.length:=by omega
  subst O;rw[KU]at l;cases l;exact .inl ⟨X,q n z (C.unbase A)⟩
def UV(c:TF)(a:SF):Nat->ZY->Option RT
 | 0,_=>none
 | n+1,e=>(c e).bind λb=>if b=true then(a e).bind λo=>match o with
  | .nx f=>UV c a n f
  | .ct f=>UV c a n f
  | .bk f=>some (.nx f)
  | .rt d fr=>some (.rt d fr)
  else some (.nx e)
theorem Hg(n:Nat)(h1:ST G c)(h2:SS F a):SS (Vt G F) (UV c a n):=by
 intro u w x σ H D h o e q;refine⟨λm i y=>∃f,UV c a m f=some o/\EnvOk u w f i y,⟨n,x,e,h⟩,?_⟩;rintro m i y ⟨f,g,A⟩
 cases m with
 | zero=>cases g
 | succ m=>
  obtain⟨b,I,g⟩:=qA.mp g;refine h1 u w f i y A b I _ λE B=>?_
  cases b with
  | false=>cases g;exact WB (q i E (A.up B))
  | true=>
   have g:((a f).bind λo=>match o with
    | .nx k=>UV c a m k
    | .ct k=>UV c a m k
    | .bk k=>some (.nx k)
    | .rt d fr=>some (.rt d fr))=some o:=g
   obtain⟨C,z,g⟩:=qA.mp g;refine WA ⟨λl t=>∃j,UV c a m j=some o/\EnvOk u w j l t,λl t r=>⟨m,LQ _,r⟩,?_⟩;refine h2 u w f i E _ (A.up B) C z ?_
   cases C with
   | nx k=>exact λp s r=>⟨k,g,r⟩
   | ct k=>exact λp s r=>⟨k,g,r⟩
   | bk k=>cases g;exact λp s r=>q p s r
   | rt d fr=>cases g;exact λv s J rt=>q v s J rt
def Si(n:Nat)(a:List PyData):ZY:=a.map .pl++List.replicate (n - a.length) .no
def XQ(n:Nat)(f:SF):GF:=λa=>match f (Si n a)with
 | some (.rt d fr)=>some (d,fr)
 | some (.nx _)=>some (.none,false)
 | _=>none
theorem Iy{b:List PyData}{n i:Nat}{a:Sl}(e:(Si n b)[i]?=some a):(∃d,b[i]?=some d/\a=.pl d)\/a=.no:=by
 unfold Si at e;by_cases hi:i<b.length
 ·rw[qc (by simpa using hi),qW,qH hi]at e;cases e;exact .inl ⟨_,qH hi,rfl⟩
 ·rw[qg (by simpa using hi),Gx]at e;split at e
  ·cases e;exact .inr rfl
  ·cases e
theorem OB{c:Addr->Prop}{H:Hp}{N:List Str}{g:List PyData}{vs:List V}(l:∀b,c b->∃o,H b=some o)(r:ZH (Z6 c H) g vs):EnvOk c H (Si N.length g) (start N vs) H:=by
 have no:∀(i:Nat)(d:PyData),(Si N.length g)[i]?≠some (Sl.ac d):=λi d e=>by
  rcases Iy e with⟨f,_,z⟩|z<;>cases z
 refine⟨?_,λi d e=>?_,λi d e=>absurd e (no i d),λi j d e a n=>absurd n (no i d),Z3.refl _,l⟩
 ·unfold Si start;rw[qU,qU,qD,qD,Q1,Q1,r.length]
 ·rcases Iy e with⟨f,p,z⟩|z
  ·cases z;obtain⟨v,h,k⟩:=r.get2 p;refine⟨v,?_,Rp.same (Z6.sub λb z=>?_) _ k⟩
   ·unfold start;have m:i<vs.length:=(qK.mp h).1;rw[qc (by simpa using m),qW,h];rfl
   ·rcases z with z|⟨j,f,z,_⟩
    ·exact z
    ·exact absurd z (no j f)
  ·cases z
theorem YG{N:List Str}(i:SS t f)(h:YM n (XQ N.length f) vs H Q E):t {nx:=λ_ a=>Q .non a,rt:=Q} (start N vs) H:=by
 obtain⟨c,w,d,fr,p,e,r,g,k⟩:=h;unfold XQ at g;split at g
 ·rename_i q l b;cases g;exact i c H _ _ H _ (OB e r) _ b λv a s j=>k v a s j
 ·rename_i u b;cases g;exact i c H _ _ H _ (OB e r) _ b λσ a m=>k .non a m.base ⟨CZ,λz=>by cases z⟩
 ·cases g
theorem Xe{vs:List V}(h:YM n g vs H Q E):vs.length=n:=by
 obtain⟨c,e,d,fr,a,b,r,_⟩:=h;rw[<- r.length];exact a
def Ms:Sl->Sl
 | .ac d=>.pl d
 | s=>s
def YN(own:List Str)(fr:List Nat)(a:ZY):ZY:=own.map (λ_=>Sl.no)++fr.map (λj=>Ms (a.getD j .no))
def Bp:Option Sl->Bool
 | some (.ac _)=>true
 | _=>false
def Yb(fr:List Nat)(env:ZY):List Nat:=fr.filter λj=>Bp env[j]?
theorem rN{own:List Str}(e:(YN own fr a)[i]?=some (.pl d)):∃j k,i=own.length+k/\fr[k]?=some j/\(a[j]?=some (.pl d)\/a[j]?=some (.ac d)):=by
 unfold YN at e;by_cases hi:i<own.length
 ·rw[qc (by simpa using hi),qW,qH hi]at e;cases e
 ·rw[qg (by simpa using hi),qD,qW]at e
  cases ej:fr[i - own.length]? with
  | none=>rw[ej]at e;cases e
  | some j=>
   rw[ej]at e;refine⟨j,i - own.length,by omega,ej,?_⟩;have e:Ms (a.getD j .no)=.pl d:=qZ e;rw[Se]at e
   cases ev:a[j]? with
   | none=>rw[ev]at e;cases e
   | some s=>
    rw[ev]at e
    cases s with
    | no=>cases e
    | pl b=>cases e;exact .inl rfl
    | ac b=>cases e;exact .inr rfl
theorem P9{own:List Str}{fr:List Nat}{a:ZY}{i:Nat}{d:PyData}:(YN own fr a)[i]?≠some (.ac d):=by
 intro e;unfold YN at e;by_cases hi:i<own.length
 ·rw[qc (by simpa using hi),qW,qH hi]at e;cases e
 ·rw[qg (by simpa using hi),qD,qW]at e
  cases ej:fr[i - own.length]? with
  | none=>rw[ej]at e;cases e
  | some j=>
   rw[ej]at e;have e:Ms (a.getD j .no)=.ac d:=qZ e
   cases ev:a.getD j .no with
   | no=>rw[ev]at e;cases e
   | pl b=>rw[ev]at e;cases e
   | ac b=>rw[ev]at e;cases e
theorem Jr{own:List Str}(b:fr[k]?=some j)(a:σ[j]?=some (some v)):(R4 own fr σ)[own.length+k]?=some (some v):=by
 unfold R4;rw[qg (by simp),qD,Bb,qW,b];show some (σ.getD j none)=_;rw[Se,a];rfl
theorem Gf{l:Addr->Prop}{J:Hp}{c:ZY}{σ:St}{H f:Hp}{p:Addr}(h:EnvOk l J c σ H)(s:Z3 H f)(u:f p=none)(own:List Str)(fr:List Nat)(bs:List Nat) :
  EnvOk (λb=>lim l c σ (bs++Yb fr c) b\/b=p) f (YN own fr c) (R4 own fr σ) (upd f p (.lst [])):=by
 have m:=h.up s;have r:Z3 f (upd f p (.lst [])):=Z3.new u
 have D:Z3 (Z6 (λb=>l b\/L2.own c σ b) f) (Z6 (λb=>(lim l c σ (bs++Yb fr c) b\/b=p)\/L2.own (YN own fr c) (R4 own fr σ) b) (upd f p (.lst []))):=Z6.mono r λb o e n z=>by
  rcases z with(z|z)|⟨i,d,z,_⟩
  ·exact n (Ho b z)
  ·rw[z,u]at e;cases e
  ·exact absurd z P9
 refine⟨?_,λi d e=>?_,λi d e=>absurd e P9,λi j d e a z=>absurd z P9,r,λb z=>?_⟩
 ·unfold YN R4;simp
 ·obtain⟨j,k,rfl,x,g⟩:=rN e;rcases g with g|g
  ·obtain⟨v,q,C⟩:=m.pl j d g;exact⟨v,Jr x q,Rp.same D _ C⟩
  ·obtain⟨a,q,C,F,I⟩:=m.ac j d g;refine⟨_,Jr x q,I.rp D λo t=>?_⟩;rw[Z6.get]
   ·exact r _ _ t
   ·rintro((z|⟨w,y,A,B,E⟩)|⟨w,y,z,_⟩)
    ·rcases z with z|⟨w,y,A,B,E⟩
     ·exact F z
     ·have G:=m.inj w j y d a B g E q;subst G;refine A (qf _ (qj.mpr ⟨Ub x,?_⟩));rw[g];rfl
    ·rw[u]at t;cases t
    ·exact absurd z P9
 ·rcases z with z|z
  ·obtain⟨o,e⟩:=m.lims _ b z;exact⟨o,r b o e⟩
  ·rw[z];exact⟨_,Yr⟩
theorem EnvOk.weaken{k:Addr->Prop}{c g:ZY}(h:EnvOk k p g σ H)(m:c.length=g.length)(l:∀(i:Nat) (d:PyData),c[i]?=some (.pl d)->g[i]?=some (.pl d))(f:∀(i:Nat) (d:PyData),c[i]?≠some (.ac d)):EnvOk k p c σ H:=by
 refine⟨m.trans h.len,λi d e=>?_,λi d e=>absurd e (f i d),λi j d e a z=>absurd z (f i d),h.base,h.fxs⟩;obtain⟨v,n,o⟩:=h.pl i d (l i d e);exact⟨v,n,Rp.same (Z6.sub λb z=>z.imp (λy=>y) λ⟨j,d',z,_⟩=>absurd z (f j d')) _ o⟩
theorem EnvOk.updFx{f:Addr->Prop}(h:EnvOk f k c σ H)(g:f p)(q:k p=none):EnvOk f k c σ (upd H p o):=by
 have l:Z6 (λb=>f b\/own c σ b) (upd H p o)=Z6 (λb=>f b\/own c σ b) H:=Z6.upd (.inl g);refine⟨h.len,λi d e=>?_,λi d e=>?_,h.inj,λb u e=>by rw[Y0 (VG e q)];exact h.base b u e,λb z=>?_⟩
 ·rw[l];exact h.pl i d e
 ·obtain⟨a,r,s,j,n⟩:=h.ac i d e;rw[l];exact⟨a,r,s,j,n.same (Z3.refl _) λu z=>by rw[Y0 λy=>j (by rw[y];exact g)];exact z⟩
 ·by_cases e:b=p
  ·rw[e];exact⟨_,Yr⟩
  ·obtain⟨u,m⟩:=h.fxs b z;exact⟨u,by rw[Y0 e];exact m⟩
def GX(n:Nat)(g:GT):Prop:=∀d a b,g d a=some b->b.length=a.length/\∀i,n<=i->b[i]?=a[i]?
def Di(n:Nat)(g:N7):Prop:=∀c a b,g c a=some b->b.length=a.length/\∀i,n<=i->b[i]?=a[i]?
theorem Oj(h:i<n):GX n (gN i):=by
 intro d a c e;cases e;exact⟨Wd,λj b=>qY (by omega)⟩
theorem pF:Di n YE:=by
 intro b a c e
 cases b with
 | nil=>cases e;exact⟨rfl,λ_ _=>rfl⟩
 | cons _ _=>cases e
theorem D9(h:i<n)(m:Di n g):Di n (Zw i g):=by
 intro a c f e
 cases a with
 | nil=>cases e
 | cons d a=>
  obtain⟨b,l⟩:=m a _ f e;rw[Wd]at b;exact⟨b,λj k=>(l j k).trans (qY (by omega))⟩
theorem ym(f:Di n g):GX n (gT m g):=by
 intro d a c e;unfold gT at e
 cases d with
 | tuple b=>
  have e:(if b.length=m then g b a else none)=some c:=e;split at e
  ·exact f b a c e
  ·cases e
 | _=>cases e
def X5(g:GT)(t:TF)(e:EF)(env:ZY):List PyData->Option (List PyData)
 | []=>some []
 | d::ds=>(g d env).bind λa=>(t a).bind λb=>if b=true then(e a).bind λr=>(X5 g t e env ds).map λrs=>r.d::rs else X5 g t e env ds
def YB(own:List Str)(fr:List Nat)(fi:Vs)(g:GT)(t:TF)(e:EF):EF:=λenv=>(fi env).bind λz=>if z.1.length<100000 then
 (X5 g t e (YN own fr env) z.1).map λrs=>⟨.list rs,true,if WS rs=true then[]else z.2++Yb fr env⟩else none
theorem C0(f:WS a=true)(h:ZH H a vs):ZH c a vs:=by
 replace h:=Rb.mp h
 induction h with
 | nil=>exact VP
 | cons h _ b=>
  unfold WS at f;rw[SH,qe]at f;exact UF (O7 f.1 h) (b f.2)
theorem Pj{own:List Str}{fr:List Nat}{wi:TI}{g:TG}{tt:TT}{te:TE}{fi:Vs}{P:GT}{t:TF}{e:EF}(h1:SI wi fi)(h2:SG g P)(hx:GX own.length P)(h3:ST tt t)(h4:SE te e) :
  SE (Xf wi g tt te own fr) (YB own fr fi P t e):=by
 intro I H0 c σ H h rr T Q q;unfold YB at T;obtain⟨⟨w,bs⟩,ei,T⟩:=qA.mp T;split at T
 ·rename_i N;have N:w.length<100000:=N;obtain⟨Z,a4,rfl⟩:=qG.mp T;refine h1 I H0 c σ H h w bs ei _ λJ G s yl=>λp U=>?_;have hB:=Gf h s U own fr bs;generalize hA:(λb=>lim I c σ (bs++Yb fr c) b)=A;have F:∀b,lim I c σ (bs++Yb fr c) b↔A b:=λb=>by rw[<- hA]
  have eA:(λb=>lim I c σ (bs++Yb fr c) b\/b=p)=λb=>A b\/b=p:=by rw[<- hA]
  rw[eA]at hB
  have nA:¬A p:=λz=>by
   obtain⟨o,L⟩:=(h.up s).lims _ p ((F p).mpr z);rw[U]at L;cases L
  have seen:∀{u:St}{C:Hp},EnvOk (λb=>A b\/b=p) G (YN own fr c) u C->Z3 (Z6 (λb=>I b\/L2.own (frzs c bs) σ b) G) (Z6 (λb=>A b\/b=p) C):=λ{u C} S=>Z6.mono S.base λb o L n z=>by
   rcases z with z|z
   ·rcases(F b).mpr z with z|⟨i,d,z1,z2,z3⟩
    ·exact n (.inl z)
    ·exact n (.inr ⟨i,d,Kj (λy=>z1 (Uw _ y)) z2,z3⟩)
   ·rw[z,U]at L;cases L
  refine⟨λi m u C=>m=w.length - i/\i<=w.length/\∃vs done rest,C p=some (.lst vs)/\ZH (Z6 (λb=>A b\/b=p) C) done vs/\done.length<=i/\X5 P t e (YN own fr c) (w.drop i)=some rest/\done++rest=Z/\EnvOk (λb=>A b\/b=p) G (YN own fr c) u C,
   ⟨w.length,rfl,V5 _,[],[],Z,Yr,VP,V5 _,a4,rfl,hB⟩,?_⟩
  rintro i m u C ⟨rfl,hi,vs,done,rest,ep,rd,dl,B,E,S⟩;obtain⟨yi,ys⟩:=yl _ C S.fxs (seen S);by_cases hlt:i<w.length
  ·obtain⟨yg,yy⟩:=yi i w[i] (qH hlt);refine .inr ⟨yg,λM l=>i+1<=w.length/\∃vs done rest,l p=some (.lst vs)/\ZH (Z6 (λb=>A b\/b=p) l) done vs/\done.length<=i+1/\X5 P t e (YN own fr c) (w.drop (i+1))=some rest/\done++rest=Z/\EnvOk (λb=>A b\/b=p) G (YN own fr c) M l,?_,?_⟩
   ·rintro M l ⟨a2,hh⟩;exact⟨w.length - (i+1),by omega,rfl,a2,hh⟩
   ·intro x l hy;obtain⟨sy,ry⟩:=yy x l hy;rw[Ll hlt]at B;obtain⟨Y,X,B⟩:=qA.mp B;obtain⟨b,eb,B⟩:=qA.mp B;have a0:Rp (Z6 (λa=>(A a\/a=p)\/L2.own (YN own fr c) u a) l) w[i] x:=Rp.same (Z6.sub λb z=>z.elim (λy=>y) λ⟨j,d',z,_⟩=>absurd z P9) _ ry;refine h2 _ G (YN own fr c) u l _ x (S.up sy) a0 Y X _ λD W=>?_;refine h3 _ G Y D l W b eb _ λH3 s3=>?_;have O:=W.up s3;obtain⟨gl,gk⟩:=hx _ _ _ X
    have back:∀{H4:Hp},EnvOk (λb=>A b\/b=p) G Y D H4->EnvOk (λb=>A b\/b=p) G (YN own fr c) D H4:=λ{H4} hh=>hh.weaken gl.symm (λj d' ej=>by
     by_cases hj:own.length<=j
     ·rw[gk j hj];exact ej
     ·obtain⟨_,k,rfl,_⟩:=rN ej;omega) λj d'=>P9
    cases b with
    | false=>
     have B:X5 P t e (YN own fr c) (w.drop (i+1))=some rest:=B;exact WB ⟨hlt,vs,done,rest,s3 _ _ (sy _ _ ep),ZH.same (Z6.grow (sy.trans s3)) _ rd,Nat.le_succ_of_le dl,B,E,back O⟩
    | true=>
     have B:((e Y).bind λr=>(X5 P t e (YN own fr c) (w.drop (i+1))).map λZ=>r.d::Z)=some rest:=B;obtain⟨r,er,B⟩:=qA.mp B;obtain⟨R,a1,rfl⟩:=qG.mp B;refine WA (h4 _ G Y D H3 O r er _ λv H4 s4 hv=>?_);have t4:=(sy.trans s3).trans s4;refine⟨vs,t4 _ _ ep,Nf (by rw[<- rd.length];omega),hlt,vs++[v],done++[r.d],R,Yr,?_,by rw[qU];simp;omega,a1,by rw[<- E];simp,(back (O.up s4)).updFx (.inr rfl) U⟩;rw[Z6.upd (.inr rfl)];exact(ZH.same (Z6.grow t4) _ rd).append (UF (Rp.same (Z6.sub λb z=>.inl z) _ hv.rp) VP)
  ·have a3:i=w.length:=by omega
   subst a3;rw[KU]at B;cases B;rw[q9]at E;subst E;refine .inl ⟨ys,q _ C (s.trans S.base) ⟨?_,λ_=>⟨p,rfl,s.free U,?_⟩⟩⟩
   ·show Rp (Z6 (lim I c σ (if WS done=true then[]else bs++Yb fr c)) C) (.list done) (.ref p)
    have nl:∀cs,¬lim I c σ cs p:=λcs z=>by
     obtain⟨o,L⟩:=(h.up s).lims _ p z;rw[U]at L;cases L
    refine zhv (by rw[Z6.get (nl _)];exact ep) ?_;split
    ·rename_i f;exact C0 f rd
    ·exact ZH.same (Z6.sub λb z=>.inl ((F b).mp z)) _ rd
   ·show Wo (Z6 (λb=>lim I c σ (if WS done=true then[]else bs++Yb fr c) b\/b=p) C) C p (.list done);refine⟨vs,ep,?_⟩;split
    ·rename_i f;exact C0 f rd
    ·exact ZH.same (Z6.sub λb z=>z.imp (F b).mp id) _ rd
 ·cases T
section
variable{X:Cx}{K:qC}
theorem xO(e:X.K=K){a:Expr}(d:PE X a g)(f:∀b,isTrue a X.env b=(do let v <- b;standAt a.pos;holding [v] (truthy v))) :
  PT X a (λσ H Q=>g σ H λx c=>∃k,T6 K x c k/\Q k c):=by subst e;exact zm d f
theorem Rc(c:X.K=K):YQ X (.type "tuple") (λb H Q=>∃p a,b=[.ref p]/\((YK K H p a/\∀l,H l=none->Q (.ref l) (upd H l (.tup a)))\/(Yh K H p a/\Q (.ref p) H))):=by subst c;exact iM
theorem Sa(b:X.K=K)(a:X.A.units+64<cLine):X2 X (compareOp .Eq) (λx y H Q=>CJ x y H Q\/UC K false x y H Q):=by subst b;exact wU.or (pS a)
theorem Qj(b:X.K=K)(a:X.A.units+64<cLine):X2 X (compareOp .NotEq) (λx y H Q=>CD x y H Q\/UC K true x y H Q):=by subst b;exact pe.or (yZ a)
def Yk:TF:=λ_=>some true
theorem Ln:ST Qo Yk:=by
 intro d f a σ H e b c Q q;cases c;exact q H (Z3.refl _)
def Vr(a:EF):EF:=λb=>(a b).bind λx=>match x.d with|.int i=>some ⟨.int (-i),false,[]⟩|_=>none
theorem xK(h1:SE e f):SE (DF (rU λi=>.int (-i)) e) (Vr f):=by
 intro g l b σ H h m a Q q;unfold Vr at a;obtain⟨⟨d,fr,bs⟩,ex,a⟩:=qA.mp a
 cases d with
 | int i=>
  cases a;exact h1 g l b σ H h _ ex _ λv c j k=>⟨i,Ws k.rp,q _ c j ⟨VX,λz=>by cases z⟩⟩
 | _=>cases a
end
end L2
namespace PySem
open Sem (wp)
theorem qr:typeLookup (.type "list") "keys"=pure none:=by rw[typeLookup_type,builtinLookup_eq_fast];kernel_rfl
theorem iU{A:Around}{E:Value->Shared->Prop}{s:Shared}{o:Obj}{Q:Value->Shared->Prop}
  (m:s.heap.get? a=some o)(n:o.cls=.type "list")(b:o.data=.seq v k)(q:o.dict=none)(B:A.handled=none)
  (h:∀j r e,Heap.NewExcOf s.heap j e "AttributeError"->E (.ref e) {s with heap:=j,toks:=r}) :
  wpAny (model l w) A (getAttrBy (.ref a) (.str "keys" u) false) Q E s:=by
 obtain⟨c,y,C,t⟩:=o;simp only at n b q;subst n b q;obtain⟨x,g,d,r,z⟩:=s;have p:∀f,(⟨x,g,d,f,z⟩:Shared).TypeIs (.ref a) "list":=λ_=>⟨_,m,rfl⟩;have H:=sub_AttributeError;have M:=rX.lookup;have G:=rX.bind (.ref a);have I:=am_list_getattr_none;unfold getAttrBy
 repeat (any_goals (first|assumption|exact p _|((with_reducible show wpAny _ _ (call (Value.builtin "list.__getattribute__") _ _) _ _ _);refine KZ rX (p _) am_entry_list_getattribute (F.args_list_getattribute_2 _ _) (meets_getattribute_miss_list a v k t "keys" _ qr (by decide) (by size_fits)) ⟨m,B,λj f e i=>?_⟩)|wp_step))
 obtain⟨J,L,D⟩:=i.there;show wpAny _ _ (getattributeRaised _ _ _ _ _ _ _) _ _ _;unfold getattributeRaised
 repeat (any_goals (first|assumption|wp_step))
 exact h _ _ _ i.of
theorem iu{A:Around}{E:Value->Shared->Prop}{s:Shared}{o:Obj}{Q:Option Value->Shared->Prop}
  (p:s.heap.get? a=some o)(n:o.cls=.type "list")(c:o.data=.seq r k)(q:o.dict=none)(j:A.handled=none)
  (h:∀d g,(∀b o,s.heap.get? b=some o->d.get? b=some o)->Q none {s with heap:=d,toks:=g}) :
  wpAny (model i w) A (getAttr? (.ref a) "keys") Q E s:=by
 unfold getAttr? getAttrBy?;refine qF (wpAny_mkText (qF (Dc (iU (s:={s with toks:=s.toks+1}) p n c q j λd g e x=>?_))));obtain⟨l,vs,m,f,_,_⟩:=x.there;show wpAny _ _ (do if <- isInstance (.ref e) (.type "AttributeError")then pure none else throw (.ref e)) _ _ _;refine qF (x8 (T:="AttributeError") ⟨l,m,f⟩ sub_AttributeError ?_);exact qV (h d g x.keeps)
theorem Dm:plainId "dict.update.loop"=true:=by decide +kernel
theorem kH:entryFor table "dict.update.loop"=some Builtin.«dict.update.loop»:=entryFor_of_fast (by kernel_rfl)
end PySem
namespace L2
open PySem PySem.Spec PyProof.Rows
theorem mH{F:α->β->Prop}:∀{l:List α}{r:List β}{i:Nat}{x:α},Paired F l r->l[i]?=some x->∃y,r[i]?=some y/\F x y
 | _,_,_,_,.nil,e=>by simp at e
 | _,_,0,_,.cons h _,e=>by simp at e;subst e;exact⟨_,rfl,h⟩
 | _,_,i+1,x,.cons _ t,e=>by
  obtain⟨y,b,a⟩:=mH (i:=i) (x:=x) t (by simpa using e);exact⟨y,by simpa using b,a⟩
theorem xb(a:List (Y7×Value))(k:Y7)(v:Value):(stored a k v).length<=a.length+1:=by
 unfold stored;split
 ·rw[qD];omega
 ·rw[qU];simp
def _root_.PySem.Heap.IsList0(h:Heap)(l:Addr)(items:Array Value):Prop:=∃o,h.get? l=some o/\o.cls=.type "list"/\∃n,o.data=.seq items n/\o.dict=none
def Qs(c:List (Y7×Value))(a:List (Y7×Value)):List (Y7×Value):=c.foldl (λb p=>stored b p.1 p.2) a
theorem vM{A:Around}{R:Result->Shared->Prop}{h0:Heap}{items:List Value}{I:List (Y7×Value)}(hA:A.in1.handled=none)
  (M:Paired (λ(v:Value) (p:Y7×Value)=>∃t g,v=.ref t/\IsTup h0 t #[g,p.2]/\QM p.1 g=true) items I)(hl:h0.IsList l items.toArray)(hd:h0.get? d=none)(Z:h0.get? C=none)(j:d≠C)(hz:items.length<=qa) :
  ∀(k i:Nat)(s:Shared)(a:List (Y7×Value))(X:Tok),items.length - i=k->i<=items.length->s.heap.IsListIter C l i->s.heap.DictOf (Wv c w) d a->(∀b o,h0.get? b=some o->s.heap.get? b=some o)->a.length<=i->
  (∀r u,r.DictOf (Wv c w) d (Qs (I.drop i) a)->(∀b o,h0.get? b=some o->r.get? b=some o)->R (.ok (.ret .none)) {s with heap:=r,toks:=u})->
  codeAny (model c w) A (.builtin "dict.update.loop" ⟨[.ref d,.ref C,.int i X,.none],[]⟩) R s:=by
 have a0:=M.length;have f:∀{h:Heap},(∀b o,h0.get? b=some o->h.get? b=some o)->h.IsList l items.toArray:=λ{h} q=>Heap.IsList.at hl λo e=>q _ o e;intro k
 induction k with
 | zero=>
  intro i s a X hk H m B q Q N;have Y:i=items.length:=by omega
  subst Y;refine zG kH ?_;rw[jm Dm _];show wpAny _ A.in1 (pyNext (.ref C) >>=_) _ _ s;refine qF (wpAny_pyNext_list_end hA m (f q) (by simp) λr eb=>?_);show wpAny _ _ (Builtin.Dict.addKeywords d [] >>=_) _ _ _;refine qF (qV (qV ?_));refine N r s.toks ?_ λb o e=>eb b o (λz=>by rw[z,Z]at e;cases e) (q b o e);rw[kZ (by omega)];exact B.extBut eb j
 | succ k ih=>
  intro i s a X hk H m B q Q N;have n:i<items.length:=by omega
  obtain⟨p,hp,t,g,ev,ht,hkey⟩:∃p,I[i]?=some p/\∃t g,items[i]=.ref t/\IsTup h0 t #[g,p.2]/\QM p.1 g=true:=by
   have:=M;obtain⟨p,L,E⟩:=mH M (qH n);exact⟨p,L,E⟩
  refine zG kH ?_;rw[jm Dm _];show wpAny _ A.in1 (pyNext (.ref C) >>=_) _ _ s;refine qF (wpAny_pyNext_list_item m (f q) (x:=.ref t) (by rw[<- ev];simp[n]) λL D J=>?_);have y:∀b o,h0.get? b=some o->L.get? b=some o:=λb o e=>(J.2 b (λz=>by rw[z,Z]at e;cases e)).trans (q b o e);have P:L.DictOf (Wv c w) d a:=B.sameBut J j;obtain⟨ot,g1,g2,n3,g3⟩:=ht;refine qF (Mp (qF (wpAny_tryCatch ?_)));unfold Builtin.Dict.pairItems;refine qF (wpAny_typeOf (T:="tuple") ⟨ot,y _ _ g1,g2⟩ ?_);rw[if_pos (by decide)];refine qF (PQ (y _ _ g1) g3 (qV ?_));show wpAny _ _ (holding [g,p.2] (dictSet d g p.2)) _ _ _;refine Mp (wpAny_dictSet_pairs (knd:=Wv c w) (k:=p.1) hkey P (λE S F=>?_) (by omega));have G:E.IsListIter C l (i+1):=by obtain⟨o,q1,q2,q3⟩:=D;exact⟨o,(F.2 _ (Xs j)).trans q1,q2,q3⟩
  refine qV ⟨plainId_quiet Dm _,?_⟩;have W:∀b o,h0.get? b=some o->E.get? b=some o:=λb o e=>(F.2 b (λz=>by rw[z,hd]at e;cases e)).trans (y b o e);refine ih (i+1) {s with heap:=E,toks:=s.toks+1} (stored a p.1 p.2) _ (by omega) n G S W ?_ λr u U O=>?_
  ·have:=xb a p.1 p.2;omega
  ·refine N r u ?_ O
   have e:I.drop i=p::I.drop (i+1):=by
    obtain⟨hh,e⟩:=qK.mp hp;rw[<- e];exact Ll hh
   rw[e];exact U
theorem hZ{A:Around}{E:Value->Shared->Prop}{s:Shared}{items:List Value}{Q:Value->Shared->Prop}(I:A.handled=none)
  (N:Paired (λ(v:Value) (p:Y7×Value)=>∃t C,v=.ref t/\IsTup s.heap t #[C,p.2]/\QM p.1 C=true) items S)(R:Heap.IsList0 s.heap l items.toArray)(O:items.length<=qa)
  (h:∀j U,j.DictOf (Wv c w) s.heap.objs.size (Qs S [])->(∀b o,s.heap.get? b=some o->j.get? b=some o)->Q (.ref s.heap.objs.size) {s with heap:=j,toks:=U}) :
  wpAny (model c w) A (call (.type "dict") [.ref l]) Q E s:=by
 refine callType_codes (Q₁:=λobj d=>obj=.ref s.heap.objs.size/\d={s with heap:=s.heap.push {cls:=.type "dict",data:=.dict #[]}}) F.kt_called_dict (F.kt_typeCall_dict_1 _) F.entry_dict_init (kt_code_dict_new _ ⟨rfl,rfl⟩) ?_;rintro obj d ⟨rfl,rfl⟩;have a:(s.heap.push {cls:=.type "dict",data:=.dict #[]}).DictOf (Wv c w) s.heap.objs.size []:=mq s.heap;obtain⟨n,u,m,L,y,M⟩:=id R;have f:(s.heap.push {cls:=.type "dict",data:=.dict #[]}).get? l=some n:=qE _ u;refine⟨a.typeIs,F.args_dict_init_2 _ _,?_⟩;unfold Builtin.«dict.__init__»;refine qF ?_;unfold Builtin.Dict.selfAndRest;refine qF (wpAny_notOrdered_dict a.typeIs ?_);show wpAny _ _ (pure (s.heap.objs.size,[Value.ref l])) _ _ _;refine qV ?_;show wpAny _ _ (Builtin.Dict.updateFrom "dict.__init__" s.heap.objs.size (.ref l) [] .none) _ _ _;unfold Builtin.Dict.updateFrom;refine qF (wpAny_typeOf (T:="list") ⟨n,f,m⟩ ?_);rw[if_pos (by decide)];refine qF (iu (s:={s with heap:=s.heap.push {cls:=.type "dict",data:=.dict #[]}}) f m y M I λq P k=>?_);rw[if_pos (by rfl)];refine qF (JQ ?_);have D:∀b o,s.heap.get? b=some o->q.get? b=some o:=λb o e=>k b o (qE _ e)
 have g:q.DictOf (Wv c w) s.heap.objs.size []:=by
  obtain⟨o,H,G,B,J⟩:=a;exact⟨o,H,G,k _ _ B,J⟩
 refine qF (Qf (items:=items.toArray) ⟨n,D _ _ u,m,L,y⟩ ?_);refine qV ⟨plainId_quiet Dm _,?_⟩;have i:s.heap.objs.size<q.objs.size:=by obtain⟨o,H,G,B,J⟩:=g;exact qJ B
 refine vM (h0:=s.heap) (by exact I) N ⟨n,u,m,L,y⟩ (Ga (qM _)) (Ga (KB i)) (qt i) O items.length 0 _ [] _ rfl (V5 _) ⟨_,qd _ rfl,rfl,rfl⟩ (g.push _) (λb o e=>qE _ (D b o e)) (V5 _) λj x z r=>?_;exact⟨rfl,h j x z r⟩
def GH:List V->Hp->VK->Prop:=λe H Q=>∃p a b,e=[.ref p]/\H p=some (.lst a)/\Paired (λ(v:V)(c:Y7×V)=>∃t,v=.ref t/\H t=some (.tup [kV c.1,c.2])) a b/\∀d,H d=none->Q (.ref d) (upd H d (.dK (Tx [] b)))
theorem JL:∀{more:List (Y7×V)}{b:List (Y7×Value)}{a:List (Y7×V)}{vs:List (Y7×Value)},KV a vs->KV more b->KV (Tx a more) (Qs b vs)
 | _,_,_,_,h,.nil=>h
 | p::r,q::s,a,vs,h,.cons e t=>by
  obtain⟨d,c⟩:=e;show KV (Tx (XR a p.1 p.2) r) (Qs s (stored vs q.1 q.2));rw[<- d];exact JL (h.put p.1 c) t
theorem HB{s:Shared}(I:Inv X i σ H s):∀{b:List V}{e:List (Y7×V)}{d:List Value},Paired (λ(v:V)(c:Y7×V)=>∃t,v=.ref t/\H t=some (.tup [kV c.1,c.2])) b e->ZJ b d->
  ∃f:List (Y7×Value),KV e f/\Paired (λ(v:Value)(p:Y7×Value)=>∃t c,v=.ref t/\IsTup s.heap t #[c,p.2]/\QM p.1 c=true) d f
 | _,_,_,.nil,.nil=>⟨[],.nil,.nil⟩
 | v::b,c::e,u::d,.cons h t,.cons r rr=>by
  obtain⟨f,q,x⟩:=HB I t rr;obtain⟨a,rfl,l⟩:=h;cases(show u=Value.ref a from r)
  obtain⟨_,j,k,m⟩:=(show XE X.prog X.w H s.heap a (.tup [kV c.1,c.2])from I.hok a _ l);obtain⟨n,y,rfl,o,g⟩:=UL k;exact⟨(c.1,y)::f,.cons ⟨rfl,g⟩ q,.cons ⟨a,n,rfl,m,SK (P:=X.prog) (w:=X.w) o⟩ x⟩
theorem pb{X:Cx}(l:X.calm=true):YQ X (.type "dict") GH:=by
 intro f s σ H z B Q I r h;obtain⟨p,a,b,rfl,k,d,q⟩:=h;obtain⟨u,rfl,m⟩:=U3 r;cases m
 obtain⟨e,g,n,c,o⟩:=(show XE X.prog X.w H s.heap p (.lst a)from I.hok p _ k);obtain⟨y,i,j⟩:=HB I d c;refine hZ (I.ok.hd l) j ⟨_,o,rfl,n,rfl,rfl⟩ (by rw[<- c.length];exact e) λA x v t=>?_;refine⟨.ref s.heap.objs.size,_,I.laid (t':=x) t (qM _) ?_,rfl,q _ (I.hok.fresh (qM _))⟩;refine OW ?_ ?_ (JL .nil i) v
 ·refine WT (B4 b []) ?_;rw[N8,Jn,<- d.length];exact e
 ·have:=I.big;exact beq_eq_false_iff_ne.mpr (O0 this)
def K5:List PyData->Option (List (PyData×PyData))
 | []=>some []
 | .tuple [k,v]::r=>(Zd k).bind λ_=>(K5 r).map λa=>(k,v)::a
 | _=>none
def U0:GF
 | [.list a]=>(K5 a).map λb=>(.dict (Q7 [] b),true)
 | _=>none
theorem Im{A:Addr->Prop}:∀{b:List PyData}{vs:List V}{g:List (PyData×PyData)},ZH (Z6 A H) b vs->K5 b=some g->
  ∃c:List (Y7×V),YP (Z6 A H) g c/\Paired (λ(v:V)(i:Y7×V)=>∃t,v=.ref t/\H t=some (.tup [kV i.1,i.2])) vs c
 | [],vs,g,h,e=>by unfold ZH at h;cases e;subst h;exact⟨[],OA,.nil⟩
 | d::b,vs,g,h,e=>by
  unfold ZH at h;obtain⟨v,C,rfl,m,o⟩:=h;unfold K5 at e;split at e
  ·rename_i f;cases f
  ·rename_i k D r f;cases f;obtain⟨u,l,e⟩:=qA.mp e;obtain⟨s,p,rfl⟩:=qG.mp e;obtain⟨c,q,n⟩:=Im o p;obtain⟨a,B,rfl,j,r⟩:=SL m;obtain⟨x,y,rfl,z,w⟩:=I9 r;rw[SQ z l]at j;exact⟨(u,y)::c,Lp l w q,.cons ⟨a,rfl,WD j⟩ n⟩
  ·cases e
theorem nV:SC GH U0:=by
 intro A H vs w i h d fr e Q q;unfold U0 at e;split at e
 ·obtain⟨u,k,e⟩:=qG.mp e;cases e;obtain⟨v,rfl,j⟩:=UY h;obtain⟨p,g,rfl,s,r⟩:=TC j;obtain⟨a,l,t⟩:=Im r k;refine⟨p,g,a,rfl,WD s,t,λd c=>?_⟩;have m:∀{B:Addr->Prop},(∀b,B b->A b\/b=d)->YP (Z6 B (upd H d (.dK (Tx [] a)))) (Q7 [] u) (Tx [] a):=λ{B} hB=>YP.merge OA (YP.same (Z6.mono (Z3.new c) λb o f n z=>(hB b z).elim n λy=>by rw[y,c]at f;cases f) _ l);exact q _ _ (Z3.new c) (DO (by rw[Z6.get (Us i c)];exact Yr) (m λb z=>.inl z)) λ_=>⟨d,rfl,c,⟨_,Yr,m λb z=>z⟩⟩
 ·cases e
def Mt(i j:Nat)(f:EF):SF:=λenv=>match env[i]?,env[j]? with
 | some (.ac (.list ds)),some (.ac (.list a))=>(f env).bind λr=>match r.d with
  | .int k=>if 0<=k/\k<100000/\ds.length<100000/\i≠j then(a[k.toNat]?).bind λd=>some (.nx ((env.set j (.ac (.list (a.eraseIdx k.toNat)))).set i (.ac (.list (ds++[d])))))else none
  | _=>none
 | _,_=>none
theorem ZH.erase{a:List PyData}{vs:List V}(h:ZH H a vs)(n:Nat):ZH H (a.eraseIdx n) (vs.eraseIdx n):=by
 induction n generalizing a vs with
 | zero=>
  cases a with
  | nil=>unfold ZH at h;subst h;exact VP
  | cons d a=>unfold ZH at h;obtain⟨v,e,rfl,c,b⟩:=h;exact b
 | succ n f=>
  cases a with
  | nil=>unfold ZH at h;subst h;exact VP
  | cons d a=>unfold ZH at h;obtain⟨v,e,rfl,c,b⟩:=h;exact UF c (f b)
theorem xn{K:qC}{i j:Nat}{Y:TE}{f:EF}(h1:SE Y f):SS (XO (QD K "list" KI (YR i) (YW (QD K "list" Jq (YR j) (YW Y XI)) XI))) (Mt i j f):=by
 intro n H0 g σ H D h o e q;unfold Mt at e;split at e
 ·rename_i G r O B;obtain⟨⟨rd,a0,a3⟩,er,e⟩:=qA.mp e
  cases rd with
  | int k=>
   have e:(if 0<=k/\k<100000/\G.length<100000/\i≠j then(r[k.toNat]?).bind λd=>some (RT.nx ((g.set j (.ac (.list (r.eraseIdx k.toNat)))).set i (.ac (.list (G++[d])))))else none)=some o:=e;split at e
   ·rename_i F;obtain⟨d,ed,e⟩:=qA.mp e;cases e;obtain⟨a,E,g2,g3,Z⟩:=h.ac i _ O;obtain⟨J,R,X⟩:=Z;obtain⟨b,C,k2,k3,k4⟩:=h.ac j _ B;obtain⟨l,T,ry⟩:=k4;have M:a≠b:=λz=>F.2.2.2 (h.inj i j _ _ a O B E (by rw[z];exact C));refine⟨_,E,.inl ⟨rfl,_,YK.of R⟩,_,C,.inl ⟨rfl,_,YK.of T⟩,h1 n H0 g σ H h _ er _ λv p s hv=>?_⟩;cases Ws hv.rp;have h':=h.up s;have L:=s _ _ T;have P:=s _ _ R;have x:ZH (Z6 (λb=>n b\/own g σ b) p) r l:=ZH.same (Z6.grow s) _ ry;have a1:ZH (Z6 (λb=>n b\/own g σ b) p) G J:=ZH.same (Z6.grow s) _ X;obtain⟨u,Q,ru⟩:=x.get2 ed;have a2:k.toNat<l.length:=(qK.mp Q).1;have I:seqIndex? k l.length=some k.toNat:=DL F.1 (by omega);refine⟨b,l,k,k.toNat,u,rfl,rfl,L,by omega,by omega,I,Q,?_⟩;have S:=h'.mut B C (d':=.list (r.eraseIdx k.toNat)) (o:=.lst (l.eraseIdx k.toNat)) ⟨_,Yr,x.erase _⟩;have w:(g.set j (.ac (.list (r.eraseIdx k.toNat))))[i]?=some (.ac (.list G)):=by rw[qY (Xs F.2.2.2)];exact O
    have A:(upd p b (.lst (l.eraseIdx k.toNat))) a=some (.lst J):=by rw[Y0 M];exact P
    obtain⟨a',U,_,_,z4⟩:=S.ac i _ w;rw[E]at U;cases U;obtain⟨zs,W,y2⟩:=z4;rw[A]at W;cases W
    have ow:Z3 (Z6 (λb=>n b\/own g σ b) p) (Z6 (λc=>n c\/own (g.set j (.ac (.list (r.eraseIdx k.toNat)))) σ c) (upd p b (.lst (l.eraseIdx k.toNat)))):=by
     have t:Z3 (Z6 (λb=>n b\/own g σ b) (upd p b (.lst (l.eraseIdx k.toNat)))) (Z6 (λc=>n c\/own (g.set j (.ac (.list (r.eraseIdx k.toNat)))) σ c) (upd p b (.lst (l.eraseIdx k.toNat)))):=Z6.sub λc z=>z.imp (λy=>y) λ⟨m,d1,N,w2⟩=>by
      rcases WY N with⟨rfl,_⟩|⟨_,N⟩
      ·exact⟨m,_,B,w2⟩
      ·exact⟨m,d1,N,w2⟩
     rw[Z6.upd (.inr ⟨j,_,B,C⟩)]at t;exact t
    refine⟨a,J,u,rfl,rfl,A,Nf (by rw[<- X.length];exact F.2.2.1),?_⟩;exact q σ _ (S.mut w E ⟨_,Yr,y2.append (UF (Rp.same ow _ ru) VP)⟩)
   ·cases e
  | _=>cases e
 ·cases e
theorem n9{X:Cx}{K:qC}(k:X.K=K){T:String}{a:Str}{g:String}{r:V->List V->Hp->VK->Prop}{o:Expr}{i:TE}{b c:Pos}(j:PlainAttrs T)(f:Slot T a g)(h:typeOf (.builtin g)=pure (.type "method_descriptor"))(l:Lf X g r)(m:PE X o i)
  (d:attributeBase o a X.env (eval o X.env)=eval o X.env:=by rfl)
  (e:(b.endLine==c.line)=true:=by rfl) :
  PE X (.Call (.Attribute o a b) [] [] c) (Qb K T r i):=by subst k;exact xY j f h l m d e
def X8(i:Nat)(b:EF):EF:=λenv=>match env[i]? with
 | some (.pl (.dict kvs))=>(b env).bind λy=>(Zd y.d).bind λk=>(U8 kvs k).bind λd=>some ⟨d,false,[]⟩
 | some (.ac (.dict kvs))=>(b env).bind λy=>(Zd y.d).bind λk=>(U8 kvs k).bind λd=>some ⟨d,false,[]⟩
 | _=>none
theorem yA(I:SE x fb):SE (VN (YR i) x) (X8 i fb):=by
 intro t O f σ H h D e Q q;unfold X8 at e
 have n:∀(a:Addr)(l:List (Y7×V))(c:List (PyData×PyData)),σ[i]?=some (some (.ref a))->H a=some (.dK l)->YP (Z6 (λb=>t b\/own f σ b) H) c l->((fb f).bind λy=>(Zd y.d).bind λk=>(U8 c k).bind λd=>some (⟨d,false,[]⟩:Yo))=some D->VN (YR i) x σ H Q:=by
  intro a l c M m r e;obtain⟨y,E,e⟩:=qA.mp e;obtain⟨k,J,e⟩:=qA.mp e;obtain⟨d,N,e⟩:=qA.mp e;cases e;refine⟨_,M,I t O f σ H h _ E _ λu C o L=>?_⟩;have g:=(YP.same (Z6.grow o) _ r).get (j:=k);rw[N]at g;obtain⟨w,F,G⟩:=g;rw[SQ L.rp J];have A:=VW.k (k:=k) (o _ _ m);rw[F]at A;exact⟨a,w,rfl,A,q w C o ⟨Rp.same (Z6.sub Ho) _ G,λz=>by cases z⟩⟩
 split at e
 ·rename_i c s;obtain⟨v,p,B⟩:=h.pl i _ s;obtain⟨a,l,rfl,m,r⟩:=Kd B;exact n a l c p (WD m) r e
 ·rename_i c s;obtain⟨a,p,B,P,l,m,r⟩:=h.ac i _ s;exact n a l c p m r e
 ·cases e
def ZZ(i:Nat)(b:EF):EF:=λenv=>match env[i]? with
 | some (.ac (.list ds))=>(b env).bind λy=>match y.d with
  | .int k=>(atI ds k).map λd=>⟨d,false,[]⟩
  | _=>none
 | _=>Z2 Xb (Z9 i) b env
theorem Ld{K:qC}{i:Nat}{j:TE}{g:EF}(l:SE j g):SE (Ul (T3 K) (YR i) j) (ZZ i g):=by
 intro f m c σ H h w b Q q;unfold ZZ at b;split at b
 ·rename_i J A;obtain⟨⟨C,I,o⟩,y,b⟩:=qA.mp b
  cases C with
  | int k=>
   obtain⟨d,D,rfl⟩:=qG.mp b;obtain⟨a,t,F,G,x,s,r⟩:=h.ac i _ A;refine⟨_,t,l f m c σ H h _ y _ λu p e B=>?_⟩;cases Ws B.rp;obtain⟨v,E,n⟩:=(ZH.same (Z6.grow e) _ r).atI D;exact⟨x,v,.inl (YK.of (e _ _ s)),E,q _ p e ⟨Rp.same (Z6.sub Ho) _ n,λz=>by cases z⟩⟩
  | _=>cases b
 ·exact UP E2 (Vb i) l f m c σ H h w b Q q
def MM(c:TI)(g:TG)(a:TT)(b:TM):TM:=λσ H Q=>c σ H λJ d=>Rj J g a b σ d Q
section
variable{X:Cx}
theorem um{M:Model}{P:Program}{w:World}{A:Around}{R:Result->Shared->Prop}{s:Shared}{f:Expr}{i:Comprehension}{a iter:Expr}{e:List Expr}{rest:List Comprehension}{b:Scope}{c:Pos}{h g:Value}{d:Env}
  (l:codeAny (model P w) A (.compLoop (.ListComp f (i::⟨a,iter,e,0⟩::rest) b c) 1 h g d) R s)
  (t:∀(A:Around) (E:Value->Shared->Prop),wpAny (model P w) A (pyIter h) (λu m=>u=h/\m=s) E s) :
  codeAny (model P w) A (.compStart (.ListComp f (i::⟨a,iter,e,0⟩::rest) b c) 1 h g d) R s:=by
 refine codeAny_of_tree ?_;show wpAny _ _ ((compStart (.ListComp f (i::⟨a,iter,e,0⟩::rest) b c) 1 h g d).onRaise (λx=>do noteFrame x d;standAt theWindowsPlace)) _ _ s;refine wpAny_notedAt ?_;unfold compStart;show wpAny _ _ (ask >>=_) _ _ s;refine qF (wpAny_askSetting (wpAny_ite ?_));split
 ·first
   | exact qF (qV (qV (And.intro rfl l)))
   | exact qV (And.intro rfl l)
 ·refine qF (JQ ?_)
  first
   | exact qF (N5 (qF (thn (t _ _) λu m z=>by obtain⟨j,k⟩:=z;subst j;subst k;exact qV (And.intro rfl l))))
   | (show wpAny _ _ (standAt iter.pos >>=_) _ _ s;exact qF (N5 (qF (thn (t _ _) λu m z=>by obtain⟨j,k⟩:=z;subst j;subst k;exact qV (And.intro rfl l)))))
theorem ww{a iter:Expr}
  (F:X.xe=λ_ _=>False)(N:X.calm=true)(L:PI X a iter t)(O:PG X a g)(o:PF X f U)(y:PE X elt0 P)
  (R:∀x,foldedSetIterable iter X.env x=pure x) :
  PM X (do
   let x <- eval iter X.env
   standAt iter.pos
   let x <- foldedSetIterable iter X.env x
   let _ <- runOwn (.compStart (.ListComp elt0 [m,⟨a,iter,f,0⟩] i k) 1 (<- holding [x] (pyIter x)) (.ref p) X.env) X.env) (MM t g U (Su p P)):=by
 intro b s σ H Q I h;refine qF (thn (L b s σ H _ I h) λv s1 C=>?_);refine qF (N5 ?_);rw[R];refine qF (qV (qF (Mp (thn C λn u D=>?_))));obtain⟨Z,fp,tn,J,W,e,l,T,c,B,q⟩:=D;subst e;refine qF (thn (wpAny_runOwn (h:=none) (Q:=λ_ S=>∃d j,Inv X b d j S/\Q d j) ?_) λ_ _ z=>qV z);refine um (M:=model X.prog X.w) ?_ λA E=>T.self A 0 u _ E c ⟨rfl,rfl⟩;refine Oh (my (X:=X) (pins:=b) F N (elt0:=elt0) (gens:=[m,⟨a,iter,f,0⟩]) (depth:=1) (ip:=iter.pos) (emit:=(do let _ <- call (.builtin "list.append") [.ref p,<- eval elt0 X.env])) rfl T O o (Mh y) l c B q) λr Y G=>?_;obtain⟨rfl,z⟩:=G;exact z
theorem u4(k a iter d b:Expr)(j g:List Expr)(f:Scope)(h:Pos)(m l:Value)(e:Env) :
  compTurn (.ListComp k [⟨a,iter,j,0⟩,⟨d,b,g,0⟩] f h) 0 m l e=(do
   standAt iter.pos
   match <- pyNext m with
   | none=>pure (.done .next)
   | some v=>
    letOwnedTupleGo a m v
    assign a e v
    let mut ok:=true
    for c in j do
     if ok then ok <- isTrue c e (eval c e)
    if ok then do
     let x <- eval b e
     standAt b.pos
     let x <- foldedSetIterable b e x
     let i <- holding [x] (pyIter x)
     let _ <- runOwn (.compStart (.ListComp k [⟨a,iter,j,0⟩,⟨d,b,g,0⟩] f h) 1 i l e) e
     again (.compLoop (.ListComp k [⟨a,iter,j,0⟩,⟨d,b,g,0⟩] f h) 0 m l e)
    else again (.compLoop (.ListComp k [⟨a,iter,j,0⟩,⟨d,b,g,0⟩] f h) 0 m l e)):=rfl
def T7(d:TI)(g:TG)(e:TT)(b:TI)(f:TG)(a:TT)(c:TE)(own:List Str)(fr:List Nat):TE:=Qi d g e (λp=>MM b f a (Su p c)) own fr
theorem vp{a:Scope}{l own:List Str}{fr:List Nat}{n e iter d b:Expr}{m h:List Expr}{k:Pos}{w o:TI}{g y:TG}{B t:TT}{A:TE}(c:Yv X a l own fr)(z:X.calm=true)(D:PI X e iter w)
  (E:∀(i:List (Str×Addr)) (C:Addr) (s:Shared) (H:Hp) (j:List Addr),PG (ZL X a l own i C s H j) e g/\PF (ZL X a l own i C s H j) m B/\PI (ZL X a l own i C s H j) d b o/\PG (ZL X a l own i C s H j) d y/\PF (ZL X a l own i C s H j) h t/\PE (ZL X a l own i C s H j) n A)
  (F:∀x,foldedSetIterable iter X.env x=pure x:=by intro _;rfl)(u:∀f x,foldedSetIterable b f x=pure x:=by intro _ _;rfl) :
  PE X (.ListComp n [⟨e,iter,m,0⟩,⟨d,b,h,0⟩] a k) (T7 w g B o y t A own fr):=
 zaho (emit:=λq f=>do
   let x <- eval b f
   standAt b.pos
   let x <- foldedSetIterable b f x
   let _ <- runOwn (.compStart (.ListComp n [⟨e,iter,m,0⟩,⟨d,b,h,0⟩] a k) 1 (<- holding [x] (pyIter x)) q f) f) c z (λG q f=>by
   rw[u4];refine bind_congr λ_=>bind_congr λr=>?_
   cases r with
   | none=>rfl
   | some v=>
    refine bind_congr λ_=>bind_congr λ_=>bind_congr λok=>?_
    cases ok with
    | false=>rfl
    | true=>simp only[if_true,bind_assoc,pure_bind]) D
  (λi C s H j p=>let⟨h1,h2,h3,h4,h5,h6⟩:=E i C s H j;⟨h1,h2,ww (X:=ZL X a l own i C s H j) rfl z h3 h4 h5 h6 (λx=>u _ x)⟩) F
end
def Sv(a:ZY):Prop:=∀(i:Nat)(d:PyData),a[i]?≠some (.ac d)
def GZ(e c:Nat)(g:GT):Prop:=∀d a b,g d a=some b->b.length=a.length/\(∀i,(i<e\/c<=i)->b[i]?=a[i]?)/\(Sv a->Sv b)
theorem zF{a:ZY}(h:Sv a):Sv (a.set i (.pl d)):=by
 intro j b e;by_cases q:i=j
 ·subst q;by_cases l:i<a.length
  ·rw[Te l]at e;cases e
  ·rw[jr (by simp;omega)]at e;cases e
 ·rw[qY q]at e;exact h j b e
theorem Fd{b a i:Nat}(h:b<=i)(k:i<a):GZ b a (gN i):=by
 intro d c f e;cases e;exact⟨Wd,λj g=>qY (by omega),zF⟩
theorem ze:∀{c a:List PyData},X5 g t e f c=some a->a.length<=c.length
 | [],a,h=>by cases h;exact qM _
 | d::c,a,h=>by
  unfold X5 at h;obtain⟨k,_,h⟩:=qA.mp h;obtain⟨b,_,h⟩:=qA.mp h;split at h
  ·obtain⟨r,_,h⟩:=qA.mp h;obtain⟨i,j,rfl⟩:=qG.mp h;have:=ze j;simp;omega
  ·have:=ze h;simp;omega
def P6(d:Vs)(b:GT)(c:TF)(e:EF)(a:ZY):Option (List PyData):=(d a).bind λz=>if z.1.length<300 then X5 b c e a z.1 else none
def Rm(g:GT)(t:TF)(c:Vs)(f:GT)(a:TF)(e:EF)(env:ZY):List PyData->Option (List PyData)
 | []=>some []
 | d::ds=>(g d env).bind λh=>(t h).bind λb=>if b=true then(P6 c f a e h).bind λi=>(Rm g t c f a e env ds).map λrs=>i++rs else Rm g t c f a e env ds
def Ro(own:List Str)(fr:List Nat)(f:Vs)(g:GT)(t:TF)(d:Vs)(h:GT)(c:TF)(e:EF):EF:=λa=>(f a).bind λz=>if z.1.length<300 then
 (Rm g t d h c e (YN own fr a) z.1).map λb=>⟨.list b,true,if WS b=true then[]else z.2++Yb fr a⟩else none
theorem xw{B:Addr->Prop}{done rest t:List PyData}{Q:St->Hp->Prop}
  (h5:SI a4 f2)(h6:SG g2 gf2)(hy:GZ k n gf2)(h7:ST a6 N)(h4:SE te e)(W:Sv u)(no:∀(i:Nat) (d:PyData),k<=i->i<n->u[i]?≠some (.pl d))
  (hB:B p)(hp:H1 p=none)(Z:EnvOk B H1 u σ H)(ep:H p=some (.lst vs))(rd:ZH (Z6 B H) done vs)(ei:f2 u=some (t,bs))(dl:done.length+t.length<100000)(ec:X5 gf2 N e u t=some rest)
  (q:∀l w R,w p=some (.lst R)->ZH (Z6 B w) (done++rest) R->EnvOk B H1 u l w->Q l w):MM a4 g2 a6 (Su p te) σ H Q:=by
 refine h5 B H1 u σ H Z t bs ei _ λJ O Y yl=>?_;have A:=Z.up Y;have n4:Z6 (λb=>b=p) O p=none:=Z6.out rfl
 refine⟨λi m l w=>m=t.length - i/\i<=t.length/\∃vs c f,w p=some (.lst vs)/\ZH (Z6 B w) c vs/\c.length<=done.length+i/\X5 gf2 N e u (t.drop i)=some f/\c++f=done++rest/\EnvOk B (Z6 (λb=>b=p) O) u l w,
  ⟨t.length,rfl,V5 _,vs,done,rest,Y _ _ ep,ZH.same (Z6.grow Y) _ rd,qM _,ec,rfl,⟨A.len,A.pl,λi d z=>absurd z (W i d),A.inj,Z6.same _ _,A.fxs⟩⟩,?_⟩
 rintro i m l w ⟨rfl,hi,vs,c,f,I,C,a7,g,E,s⟩
 obtain⟨yi,ys⟩:=yl B w s.fxs λb o z=>by
  obtain⟨z1,z2⟩:=Z6.of z;have hb:¬B b:=λy=>z1 (.inl y);rw[Z6.get hb];exact s.base b o (by rw[Z6.get λy=>hb (by rw[y];exact hB)];exact z2)
 by_cases hlt:i<t.length
 ·obtain⟨yg,yy⟩:=yi i t[i] (qH hlt);refine .inr ⟨yg,λF h=>i+1<=t.length/\∃vs c f,h p=some (.lst vs)/\ZH (Z6 B h) c vs/\c.length<=done.length+(i+1)/\X5 gf2 N e u (t.drop (i+1))=some f/\c++f=done++rest/\EnvOk B (Z6 (λb=>b=p) O) u F h,?_,?_⟩
  ·rintro F h ⟨a3,hh⟩;exact⟨t.length - (i+1),by omega,rfl,a3,hh⟩
  ·intro x h a1;obtain⟨U,ry⟩:=yy x h a1;rw[Ll hlt]at g;obtain⟨S,T,g⟩:=qA.mp g;obtain⟨b,eb,g⟩:=qA.mp g;have a0:Rp (Z6 (λa=>B a\/L2.own u l a) h) t[i] x:=Rp.same (Z6.sub λb z=>z.elim (λy=>y) λ⟨j,d',z,_⟩=>absurd z (W _ _)) _ ry;refine h6 _ _ u l h _ x (s.up U) a0 S T _ λD P=>?_;refine h7 _ _ S D h P b eb _ λH3 X=>?_;have G:=P.up X;obtain⟨gl,gk,_⟩:=hy _ _ _ T
   have back:∀{M:Hp},EnvOk B (Z6 (λb=>b=p) O) S D M->EnvOk B (Z6 (λb=>b=p) O) u D M:=λ{M} hh=>hh.weaken gl.symm (λj d' ej=>by
    by_cases hj:j<k\/n<=j
    ·rw[gk j hj];exact ej
    ·exact absurd ej (no j d' (by omega) (by omega))) W
   cases b with
   | false=>
    have g:X5 gf2 N e u (t.drop (i+1))=some f:=g;exact WB ⟨hlt,vs,c,f,X _ _ (U _ _ I),ZH.same (Z6.grow (U.trans X)) _ C,Nat.le_succ_of_le a7,g,E,back G⟩
   | true=>
    have g:((e S).bind λr=>(X5 gf2 N e u (t.drop (i+1))).map λrs=>r.d::rs)=some f:=g;obtain⟨r,er,g⟩:=qA.mp g;obtain⟨L,a2,rfl⟩:=qG.mp g;refine WA (h4 _ _ S D H3 G r er _ λv H5 s5 hv=>?_);have t5:=(U.trans X).trans s5;refine⟨vs,t5 _ _ I,Nf (by rw[<- C.length];omega),hlt,vs++[v],c++[r.d],L,Yr,?_,by rw[qU];simp;omega,a2,by rw[<- E];simp,(back (G.up s5)).updFx hB n4⟩;rw[Z6.upd hB];refine(ZH.same (Z6.grow t5) _ C).append (UF (Rp.same (Z6.sub λb z=>.inl z) _ hv.rp) VP)
 ·have a5:i=t.length:=by omega
  subst a5;rw[KU]at g;cases g;rw[q9]at E;subst E;exact .inl ⟨ys,q l w vs I C ⟨s.len,s.pl,λi d z=>absurd z (W i d),s.inj,λb o z=>s.base b o (by rw[Z6.get λy=>by rw[y,hp]at z;cases z];exact Y b o (Z.base b o z)),s.fxs⟩⟩
theorem oy{own:List Str}(h:i<own.length):(YN own fr a)[i]?=some .no:=by
 unfold YN;rw[qc (by simpa using h),qW,qH h];rfl
theorem zx{own:List Str}(h1:SI wi fi)(h2:SG g O)(hx:GZ 0 k O)(hk:k<=own.length)(h3:ST tt t)
  (h5:SI a4 S)(h6:SG g2 gf2)(hy:GZ k own.length gf2)(h7:ST a6 P)(h4:SE te e) :
  SE (T7 wi g tt a4 g2 a6 te own fr) (Ro own fr fi O t S gf2 P e):=by
 intro E H0 c σ H h rr T Q q;unfold Ro at T;obtain⟨⟨r,bs⟩,ei,T⟩:=qA.mp T;split at T
 ·rename_i G;have G:r.length<300:=G;obtain⟨rs,b3,rfl⟩:=qG.mp T;refine h1 E H0 c σ H h r bs ei _ λJ D s yl=>λp hp=>?_;have hB:=Gf h s hp own fr bs;generalize hA:(λb=>lim E c σ (bs++Yb fr c) b)=A;have I:∀b,lim E c σ (bs++Yb fr c) b↔A b:=λb=>by rw[<- hA]
  have eA:(λb=>lim E c σ (bs++Yb fr c) b\/b=p)=λb=>A b\/b=p:=by rw[<- hA]
  rw[eA]at hB
  have seen:∀{v:St}{w:Hp},EnvOk (λb=>A b\/b=p) D (YN own fr c) v w->Z3 (Z6 (λb=>E b\/L2.own (frzs c bs) σ b) D) (Z6 (λb=>A b\/b=p) w):=λ{v w} R=>Z6.mono R.base λb o Y n z=>by
   rcases z with z|z
   ·rcases(I b).mpr z with z|⟨i,d,z1,z2,z3⟩
    ·exact n (.inl z)
    ·exact n (.inr ⟨i,d,Kj (λy=>z1 (Uw _ y)) z2,z3⟩)
   ·rw[z,hp]at Y;cases Y
  refine⟨λi m v w=>m=r.length - i/\i<=r.length/\∃vs done rest,w p=some (.lst vs)/\ZH (Z6 (λb=>A b\/b=p) w) done vs/\done.length<=i * 300/\Rm O t S gf2 P e (YN own fr c) (r.drop i)=some rest/\done++rest=rs/\EnvOk (λb=>A b\/b=p) D (YN own fr c) v w,
   ⟨r.length,rfl,V5 _,[],[],rs,Yr,VP,V5 _,b3,rfl,hB⟩,?_⟩
  rintro i m v w ⟨rfl,hi,vs,done,rest,ep,rd,dl,u,C,R⟩;obtain⟨yi,ys⟩:=yl _ w R.fxs (seen R);by_cases hlt:i<r.length
  ·obtain⟨yg,yy⟩:=yi i r[i] (qH hlt);refine .inr ⟨yg,λF l=>i+1<=r.length/\∃vs done rest,l p=some (.lst vs)/\ZH (Z6 (λb=>A b\/b=p) l) done vs/\done.length<=(i+1) * 300/\Rm O t S gf2 P e (YN own fr c) (r.drop (i+1))=some rest/\done++rest=rs/\EnvOk (λb=>A b\/b=p) D (YN own fr c) F l,?_,?_⟩
   ·rintro F l ⟨a8,hh⟩;exact⟨r.length - (i+1),by omega,rfl,a8,hh⟩
   ·intro x l b0;obtain⟨sy,ry⟩:=yy x l b0;rw[Ll hlt]at u;obtain⟨e1,a1,u⟩:=qA.mp u;obtain⟨b,eb,u⟩:=qA.mp u;have a7:Rp (Z6 (λa=>(A a\/a=p)\/L2.own (YN own fr c) v a) l) r[i] x:=Rp.same (Z6.sub λb z=>z.elim (λy=>y) λ⟨j,d',z,_⟩=>absurd z P9) _ ry;refine h2 _ D (YN own fr c) v l _ x (R.up sy) a7 e1 a1 _ λa2 U=>?_;refine h3 _ D e1 a2 l U b eb _ λH3 Z=>?_;have W:=U.up Z;obtain⟨gl,gk,gn⟩:=hx _ _ _ a1;have na:Sv e1:=gn λ_ _=>P9
    have back:∀{L:St}{H4:Hp},EnvOk (λb=>A b\/b=p) D e1 L H4->EnvOk (λb=>A b\/b=p) D (YN own fr c) L H4:=λ{L H4} hh=>hh.weaken gl.symm (λj d' ej=>by
     by_cases hj:own.length<=j
     ·rw[gk j (.inr (by omega))];exact ej
     ·obtain⟨_,k,rfl,_⟩:=rN ej;omega) λj d'=>P9
    cases b with
    | false=>
     have u:Rm O t S gf2 P e (YN own fr c) (r.drop (i+1))=some rest:=u;exact WB ⟨hlt,vs,done,rest,Z _ _ (sy _ _ ep),ZH.same (Z6.grow (sy.trans Z)) _ rd,by omega,u,C,back W⟩
    | true=>
     have u:((P6 S gf2 P e e1).bind λr1=>(Rm O t S gf2 P e (YN own fr c) (r.drop (i+1))).map λrs=>r1++rs)=some rest:=u;obtain⟨r1,N,u⟩:=qA.mp u;obtain⟨M,b1,rfl⟩:=qG.mp u;obtain⟨⟨a0,b5⟩,e2,N⟩:=qA.mp N;split at N
     ·rename_i X;have X:a0.length<300:=X;have l2:=ze N;refine WA (xw (B:=λb=>A b\/b=p) (p:=p) (vs:=vs) (done:=done) h5 h6 hy h7 h4 na (λj d' h8 h9 ej=>?_) (.inr rfl) hp W (Z _ _ (sy _ _ ep)) (ZH.same (Z6.grow (sy.trans Z)) _ rd) e2 (by omega) N λb7 H5 b2 a9 a3 b4=>?_)
      ·rw[gk j (.inr h8),oy h9]at ej;cases ej
      ·have b6:r1.length<=a0.length:=l2;exact⟨hlt,b2,done++r1,M,a9,a3,by rw[qU];omega,b1,by rw[<- C,C7],back b4⟩
     ·cases N
  ·have a5:i=r.length:=by omega
   subst a5;rw[KU]at u;cases u;rw[q9]at C;subst C;refine .inl ⟨ys,q _ w (s.trans R.base) ⟨?_,λ_=>⟨p,rfl,s.free hp,?_⟩⟩⟩
   ·show Rp (Z6 (lim E c σ (if WS done=true then[]else bs++Yb fr c)) w) (.list done) (.ref p)
    have nl:∀cs,¬lim E c σ cs p:=λcs z=>by
     obtain⟨o,Y⟩:=(h.up s).lims _ p z;rw[hp]at Y;cases Y
    refine zhv (by rw[Z6.get (nl _)];exact ep) ?_;split
    ·rename_i f;exact C0 f rd
    ·exact ZH.same (Z6.sub λb z=>.inl ((I b).mp z)) _ rd
   ·show Wo (Z6 (λb=>lim E c σ (if WS done=true then[]else bs++Yb fr c) b\/b=p) w) w p (.list done);refine⟨vs,ep,?_⟩;split
    ·rename_i f;exact C0 f rd
    ·exact ZH.same (Z6.sub λb z=>z.imp (I b).mp id) _ rd
 ·cases T
end L2
namespace PySem
open Sem (wp)
end PySem
namespace L2
open PySem PySem.Spec PyProof.Rows
end L2
namespace PySem
open Sem (wp)
def Yy(b:Bool)(h:Heap)(a l:Addr)(i:Nat):Prop:=match b with
 | true=>h.IsListIter a l i
 | false=>h.IsTupleIter a l i
def W1(b:Bool)(h:Heap)(l:Addr)(a:Array Value):Prop:=match b with
 | true=>h.IsList l a
 | false=>h.IsTuple l a
theorem Yy.moved{h h':Heap}(x:Yy b h a l i)(e:∀o,h.get? a=some o->h'.get? a=some o):Yy b h' a l i:=by
 cases b with
 | true=>obtain⟨o,q,r⟩:=x;exact⟨o,e o q,r⟩
 | false=>obtain⟨o,q,r⟩:=x;exact⟨o,e o q,r⟩
theorem W1.moved{h h':Heap}(x:W1 b h l a)(e:∀o,h.get? l=some o->h'.get? l=some o):W1 b h' l a:=by
 cases b with
 | true=>obtain⟨o,q,r⟩:=x;exact⟨o,e o q,r⟩
 | false=>obtain⟨o,q,r⟩:=x;exact⟨o,e o q,r⟩
theorem Yy.at{h h':Heap}(x:Yy b h a l i)(e:∀o,h.get? a=some o->h'.get? a=some o):Yy b h' a l i:=x.moved e
theorem Yy.extBut(x:Yy b h a l i)(s:Heap.ExtBut c h d)(n:a≠c):Yy b d a l i:=x.moved λo e=>s _ o n e
theorem W1.extBut(x:W1 b h l a)(s:Heap.ExtBut c h d)(n:l≠c):W1 b d l a:=x.moved λo e=>s _ o n e
theorem Yy.obj{h:Heap}(x:Yy b h a l i):∃o,h.get? a=some o/\∀v,o.data≠.cell v:=by
 cases b with
 | true=>obtain⟨o,q,_,r⟩:=x;exact⟨o,q,λv z=>by rw[r]at z;cases z⟩
 | false=>obtain⟨o,q,_,r⟩:=x;exact⟨o,q,λv z=>by rw[r]at z;cases z⟩
section
variable{prog:Program}{w:World}{A:Around}{E:Value->Shared->Prop}{s:Shared}
theorem jf{a}{Q:Value->Shared->Prop}(b:s.heap.IsTupleIter c l i)
  (k:s.heap.IsTuple l a)(n:a[i]?=some x)
  (j:∀h,h.IsTupleIter c l (i+1)->Heap.SameBut c s.heap h->Q x {s with heap:=h}) :
  wpAny (model prog w) A (QI (.ref c)) Q E s:=by
 obtain⟨o,e,m,d⟩:=id b;obtain⟨q,f,_,p,g⟩:=k;unfold QI
 refine qF (FP (name:=Str.ofString "__next__") b.typeIs Cb
  (HL Cb b.typeIs jS ?_ (l7 _)))
 show wpAny _ _ (field (.ref c) 0 >>=_) _ _ s;refine qF (Vh e d (x:=.ref l) rfl ?_);show wpAny _ _ (if(Value.ref l==Value.none)=true then _ else _) _ _ s;rw[if_neg (show ¬((Value.ref l==Value.none)=true)from qQ)];show wpAny _ _ (field (.ref c) 1 >>=_) _ _ s;refine qF (Vh e d (x:=.int i 0) rfl ?_);show wpAny _ _ (seqItems? (.ref l) >>=_) _ _ s;refine qF (PQ f g ?_);simp only[Jl,n];refine qF (LZ e d (by simp) (qV ⟨x,rfl,qV (j _ ?_ (kS ..))⟩))
 exact⟨_,Om _ e (Lk (QE d _)),(Obj.cls_mapFields ..).trans m,by
  rw[QE d];simp[rawInt]⟩
theorem yG{b}{Q:Value->Shared->Prop}(n:A.handled=none)
  (c:s.heap.IsTupleIter d l i)(q:s.heap.IsTuple l b)(r:b[i]?=none)
  (p:∀j e,Heap.ExtBut d s.heap j->(∃o,j.get? e=some o/\o.cls=.type "StopIteration")->E (.ref e) {s with heap:=j}) :
  wpAny (model prog w) A (QI (.ref d)) Q E s:=by
 obtain⟨o,h,u,k⟩:=id c;obtain⟨v,f,_,t,g⟩:=q;unfold QI
 refine qF (FP (name:=Str.ofString "__next__") c.typeIs Cb
  (HL Cb c.typeIs jS ?_ (l7 _)))
 show wpAny _ _ (field (.ref d) 0 >>=_) _ _ s;refine qF (Vh h k (x:=.ref l) rfl ?_);show wpAny _ _ (if(Value.ref l==Value.none)=true then _ else _) _ _ s;rw[if_neg (show ¬((Value.ref l==Value.none)=true)from qQ)];show wpAny _ _ (field (.ref d) 1 >>=_) _ _ s;refine qF (Vh h k (x:=.int i 0) rfl ?_);show wpAny _ _ (seqItems? (.ref l) >>=_) _ _ s;refine qF (PQ f g ?_);simp only[Jl,r];refine qF (JQ (qF (LZ h k (by simp) ?_)));show wpAny _ _ (newExc (.type "StopIteration") [] >>=_) _ _ _;refine qF ?_;simp only[newExc,newTuple];refine qF (B2 ?_ (by size_fits));refine qF (m:=firstArgMember _ _) (wpAny_of_eq (a:=Value.none) (by first|rfl|(simp only[firstArgMember];rfl)) ?_);refine B2 ?_ (by size_fits);simp only[raiseNew];refine qF (wpAny_handled ?_)
 first|rw[show A.in1.handled=none from n]|rw[n]
 refine qF (qV (wpAny_throw ?_));exact p _ _ (((kS ..).extBut.push _).push _) ⟨_,qd _ rfl,rfl⟩
theorem CM{Q:Value->Shared->Prop}(a:Yy b s.heap c l i)(f:W1 b s.heap l h)(g:h[i]?=some x)
  (e:∀d,Yy b d c l (i+1)->Heap.SameBut c s.heap d->Q x {s with heap:=d}):wpAny (model prog w) A (QI (.ref c)) Q E s:=by
 cases b with
 | true=>exact wpAny_nextOf_list_item a f g e
 | false=>exact jf a f g e
theorem OQ{Q:Value->Shared->Prop}(d:A.handled=none)(a:Yy b s.heap g l i)(f:W1 b s.heap l j)(h:j[i]?=none)
  (c:∀h' e,Heap.ExtBut g s.heap h'->(∃o,h'.get? e=some o/\o.cls=.type "StopIteration")->E (.ref e) {s with heap:=h'}):wpAny (model prog w) A (QI (.ref g)) Q E s:=by
 cases b with
 | true=>exact wpAny_nextOf_list_end d a f h c
 | false=>exact yG d a f h c
theorem tN{Q:Value->Shared->Prop}(D:ZipApart z TI TO J I l1 l2)
  (T:IsZip s.heap z TI TO .none)(a8:IsPair s.heap TI (.ref J) (.ref I))(a3:IsPair s.heap TO a b)
  (h1:Yy b1 s.heap J l1 k1)(h2:Yy b2 s.heap I l2 k2)(a7:W1 b1 s.heap l1 xs)(a4:W1 b2 s.heap l2 ys)(hx:xs[k1]?=some x)(hy:ys[k2]?=some y)
  (hQ:∀L,IsZip L z TI TO (rawInt s.heap.objs.size)->IsPair L TO x y->Yy b1 L J l1 (k1+1)->Yy b2 L I l2 (k2+1)->IsPair L s.heap.objs.size x y->L.objs.size=s.heap.objs.size+1->
   (∀c o,c≠z->c≠TO->c≠J->c≠I->s.heap.get? c=some o->L.get? c=some o)->Q (.ref s.heap.objs.size) {s with heap:=L}) :
  wpAny (model prog w) A (Builtin.«zip.__next__» ⟨[.ref z],[]⟩) (λa2 s'=>∃v,a2=.done (.ret v)/\Q v s') E s:=by
 show wpAny _ _ (field (.ref z) 2 >>=_) _ _ _;refine qF (Vh T rfl (x:=.bool false) rfl ?_);show wpAny _ _ (field (.ref z) 3 >>=_) _ _ _;refine qF (Vh T rfl (x:=.ref TI) rfl ?_);refine qF (PQ a8 rfl ?_);show wpAny _ _ (Builtin.SmallTypes.ownedTupleIsFree (.ref z) >>=_) _ _ _;refine qF ?_;unfold Builtin.SmallTypes.ownedTupleIsFree;refine qF (Vh T rfl (x:=.none) rfl (qV ?_));simp only[if_true];refine qF (JQ ?_);refine qF (Vh T rfl (x:=.ref TO) rfl ?_);refine qF (Kt T (by simp) λX t f=>?_);replace t:IsZip X z TI TO .ellipsis:=t;refine qF ?_;simp only[oJ,List.zipIdx_nil,DQ,List.forIn_nil];refine qF (qF (Jj ?_));show wpAny _ _ (QI (.ref J) >>=_) _ _ _;refine qF (CM (h1.extBut f.extBut D.i1z) (a7.extBut f.extBut D.l1z) hx λZ P h=>qV ?_);have B:IsPair Z TO a b:=h.extBut _ _ D.TOi1 (f.extBut _ _ D.TOz a3);refine qF (PQ B rfl ?_);refine qF (x6 B λW m i=>?_);replace m:IsPair W TO x b:=m;refine qF (wpAny_letGo (qV ?_));refine qF (qF (Jj ?_));show wpAny _ _ (QI (.ref I) >>=_) _ _ _
 refine qF (CM (((h2.extBut f.extBut D.i2z).extBut h.extBut D.i12.symm).extBut i.extBut D.TOi2.symm)
  (((a4.extBut f.extBut D.l2z).extBut h.extBut D.l2i1).extBut i.extBut D.l2TO) hy λU S k=>qV ?_)
 have u:IsPair U TO x b:=k.extBut _ _ D.TOi2 m;refine qF (PQ u rfl ?_);refine qF (x6 u λd g j=>?_);replace g:IsPair d TO x y:=g;refine qF (wpAny_letGo (qV (qV ?_)));refine qF (PQ g rfl ?_);refine qF (wpAny_newTuple ?_);have a0:d.objs.size=s.heap.objs.size:=by rw[j.1,k.1,i.1,h.1,f.1]
 have H:IsZip d z TI TO .ellipsis:=j.extBut _ _ D.TOz.symm (k.extBut _ _ D.i2z.symm (i.extBut _ _ D.TOz.symm (h.extBut _ _ D.i1z.symm t)))
 have R:∀c o,c≠z->c≠TO->c≠J->c≠I->s.heap.get? c=some o->d.get? c=some o:=λc o N c2 c3 c4 e=>
  j.extBut _ _ c2 (k.extBut _ _ c4 (i.extBut _ _ c2 (h.extBut _ _ c3 (f.extBut _ _ N e))))
 have C:Yy b1 d J l1 (k1+1):=((P.extBut i.extBut D.TOi1.symm).extBut k.extBut D.i12).extBut j.extBut D.TOi1.symm;have F:Yy b2 d I l2 (k2+1):=S.extBut j.extBut D.TOi2.symm;have M:z<d.objs.size:=qJ H;have a5:TO<d.objs.size:=qJ g;have a6:J<d.objs.size:=by obtain⟨_,e,_⟩:=C.obj;exact qJ e
 have a9:I<d.objs.size:=by obtain⟨_,e,_⟩:=F.obj;exact qJ e
 show wpAny _ _ (Builtin.SmallTypes.ownedTupleHandOut (.ref z) (.ref d.objs.size) >>=_) _ _ _;refine qF ?_;unfold Builtin.SmallTypes.ownedTupleHandOut;have O:IsZip (d.push {cls:=.type "tuple",data:=.seq #[x,y]}) z TI TO .ellipsis:=qE _ H;refine qF (Kt O (by simp) λa1 p q=>?_);replace p:IsZip a1 z TI TO (rawInt d.objs.size):=p;refine Kt p (by simp) λn l r=>?_;replace l:IsZip n z TI TO (rawInt d.objs.size):=l;have up:∀c o,c≠z->d.get? c=some o->n.get? c=some o:=λc o N e=>r.extBut _ _ N (q.extBut _ _ N (qE _ e));have G:IsPair n d.objs.size x y:=r.extBut _ _ (O0 M) (q.extBut _ _ (O0 M) (qd _ rfl));have Y:n.objs.size=d.objs.size+1:=by rw[r.1,q.1,QO]
 rw[a0]at l G Y;refine qV ⟨_,rfl,?_⟩;show Q (.ref d.objs.size) _;rw[a0];exact hQ n l (up _ _ D.TOz g) (C.at λo e=>up _ o D.i1z e) (F.at λo e=>up _ o D.i2z e) G Y λc o N c2 c3 c4 e=>up c o N (R c o N c2 c3 c4 e)
theorem yF{Q:Fin->Shared->Prop}(hh:A.handled=none)(D:ZipApart z TI TO J I Z l2)
  (y:IsZip s.heap z TI TO .none)(U:IsPair s.heap TI (.ref J) (.ref I))(P:IsPair s.heap TO a b)
  (h1:Yy b1 s.heap J Z X)(h2:Yy b2 s.heap I l2 k2)(G:W1 b1 s.heap Z xs)(S:W1 b2 s.heap l2 Y)(F:xs[X]?=none\/Y[k2]?=none)
  (W:∀T e,(∀c o,c≠z->c≠TO->c≠J->c≠I->s.heap.get? c=some o->T.get? c=some o)->(∃o,T.get? e=some o/\o.cls=.type "StopIteration")->E (.ref e) {s with heap:=T}) :
  wpAny (model prog w) A (Builtin.«zip.__next__» ⟨[.ref z],[]⟩) Q E s:=by
 show wpAny _ _ (field (.ref z) 2 >>=_) _ _ _;refine qF (Vh y rfl (x:=.bool false) rfl ?_);show wpAny _ _ (field (.ref z) 3 >>=_) _ _ _;refine qF (Vh y rfl (x:=.ref TI) rfl ?_);refine qF (PQ U rfl ?_);show wpAny _ _ (Builtin.SmallTypes.ownedTupleIsFree (.ref z) >>=_) _ _ _;refine qF ?_;unfold Builtin.SmallTypes.ownedTupleIsFree;refine qF (Vh y rfl (x:=.none) rfl (qV ?_));simp only[if_true];refine qF (JQ ?_);refine qF (Vh y rfl (x:=.ref TO) rfl ?_);refine qF (Kt y (by simp) λC i d=>?_);replace i:IsZip C z TI TO .ellipsis:=i;refine qF ?_;simp only[oJ,List.zipIdx_nil,DQ,List.forIn_nil];refine qF (qF (Jj ?_));show wpAny _ _ (QI (.ref J) >>=_) _ _ _
 cases hx:xs[X]? with
 | none=>
  refine qF (OQ hh (h1.extBut d.extBut D.i1z) (G.extBut d.extBut D.l1z) hx λq e f M=>?_);obtain⟨R,j,p⟩:=M;have r:IsZip q z TI TO .ellipsis:=f _ _ D.i1z.symm i;have u:e≠z:=λx=>by subst x;rw[r]at j;cases j;simp at p
  refine Kt r (by simp) λt _ g=>W t e (λc o v _ N _ x=>g.extBut _ _ v (f _ _ N (d.extBut _ _ v x))) ⟨R,g.extBut _ _ u j,p⟩
 | some x=>
  have hy:Y[k2]?=none:=by rcases F with h|h;rw[hx]at h;cases h;exact h
  refine qF (CM (h1.extBut d.extBut D.i1z) (G.extBut d.extBut D.l1z) hx λq O f=>qV ?_);have k:IsPair q TO a b:=f.extBut _ _ D.TOi1 (d.extBut _ _ D.TOz P);refine qF (PQ k rfl ?_);refine qF (x6 k λt L g=>?_);refine qF (wpAny_letGo (qV ?_));refine qF (qF (Jj ?_));show wpAny _ _ (QI (.ref I) >>=_) _ _ _
  refine qF (OQ hh (((h2.extBut d.extBut D.i2z).extBut f.extBut D.i12.symm).extBut g.extBut D.TOi2.symm)
   (((S.extBut d.extBut D.l2z).extBut f.extBut D.l2i1).extBut g.extBut D.l2TO) hy λB e n M=>?_)
  obtain⟨R,j,p⟩:=M;have m:IsZip B z TI TO .ellipsis:=n _ _ D.i2z.symm (g.extBut _ _ D.TOz.symm (f.extBut _ _ D.i1z.symm i));have u:e≠z:=λx=>by subst x;rw[m]at j;cases j;simp at p
  refine Kt m (by simp) λH _ l=>W H e (λc o v c2 N c4 x=>l.extBut _ _ v (n _ _ c4 (g.extBut _ _ c2 (f.extBut _ _ N (d.extBut _ _ v x))))) ⟨R,l.extBut _ _ u j,p⟩
structure UB(b1 b2:Bool)(h:Heap)(z TI TO i1 i2 l1 l2:Addr)(f0:Value)(k:Nat):Prop where
 z:IsZip h z TI TO f0
 ti:IsPair h TI (.ref i1) (.ref i2)
 to:∃a b,IsPair h TO a b
 i1:Yy b1 h i1 l1 k
 i2:Yy b2 h i2 l2 k
theorem ro{Q:Value->Shared->Prop}(D:ZipApart z TI TO h d f j)
  (q:UB b1 b2 s.heap z TI TO h d f j .none k)(i:W1 b1 s.heap f C)(g:W1 b2 s.heap j t)(u:C[k]?=some x)(B:t[k]?=some y)
  (J:∀h',UB b1 b2 h' z TI TO h d f j (rawInt s.heap.objs.size) (k+1)->IsPair h' s.heap.objs.size x y->
   (∀c o,c≠z->c≠TO->c≠h->c≠d->s.heap.get? c=some o->h'.get? c=some o)->Q (.ref s.heap.objs.size) {s with heap:=h'}) :
  wpAny (model prog w) A (Builtin.«zip.__next__» ⟨[.ref z],[]⟩) (λe M=>∃v,e=.done (.ret v)/\Q v M) E s:=by
 obtain⟨F,m,⟨a,b,G⟩,r,p⟩:=q;exact tN D F m G r p i g u B λh' L I N n H _ l=>J h' ⟨L,l _ _ D.TIz D.TITO D.TIi1 D.TIi2 m,⟨x,y,I⟩,N,n⟩ H l
theorem wy{Q:Fin->Shared->Prop}(u:A.handled=none)(D:ZipApart z TI TO i j h l)
  (p:UB b1 b2 s.heap z TI TO i j h l .none k)(f:W1 b1 s.heap h m)(g:W1 b2 s.heap l v)(d:m[k]?=none\/v[k]?=none)
  (t:∀h' e,(∀c o,c≠z->c≠TO->c≠i->c≠j->s.heap.get? c=some o->h'.get? c=some o)->(∃o,h'.get? e=some o/\o.cls=.type "StopIteration")->E (.ref e) {s with heap:=h'}) :
  wpAny (model prog w) A (Builtin.«zip.__next__» ⟨[.ref z],[]⟩) Q E s:=by
 obtain⟨r,x,⟨a,b,y⟩,q,n⟩:=p;exact yF u D r x y q n f g d t
end
end PySem
namespace L2
open PySem PySem.Spec PyProof.Rows
def Ux(b:Bool)(K:qC)(H:Hp)(a:Addr)(c:List V):Prop:=match b with
 | true=>YK K H a c
 | false=>Yh K H a c
section
variable{X:Cx}{pins:List (Addr×Obj)}{σ:St}{H:Hp}{s:Shared}
theorem Inv.sq{d:List V}(I:Inv X pins σ H s)(h:Ux b X.K H a d):∃c:List Value,ZJ d c/\W1 b s.heap a c.toArray/\d.length<=qa:=by
 cases b with
 | true=>obtain⟨c,r,p,z⟩:=I.list h;exact⟨c,r,p.isList,z⟩
 | false=>obtain⟨c,r,p,z⟩:=I.tuple h;exact⟨c,r,(show s.heap.IsTuple a c.toArray from p),z⟩
theorem Inv.sq_inj(I:Inv X pins σ H s)(h:Ux b X.K H a d)(h':Ux b X.K H a c):d=c:=by
 cases b with
 | true=>exact I.list_inj h h'
 | false=>exact I.tuple_inj h h'
end
def lL(K:qC)(b1:Bool)(c:Addr)(b2:Bool)(d:Addr):It:=
 ⟨λi H=>∃a b x y,Ux b1 K H c a/\Ux b2 K H d b/\a[i]?=some x/\b[i]?=some y,
  λi H v e=>∃p x y,v=.ref p/\H p=none/\e=upd H p (.tup [x,y])/\(∀a,Ux b1 K H c a->a[i]?=some x)/\∀b,Ux b2 K H d b->b[i]?=some y,
  λi H=>∃a b,Ux b1 K H c a/\Ux b2 K H d b/\(a.length<=i\/b.length<=i)⟩
theorem xk{P:Program}{w:World}{K:qC}{a2:List Expr}{x1}{W:Pos}{b1 b2:Bool}{z TI TO l j l1 l2:Addr}(D:ZipApart z TI TO l j l1 l2) :
  VC P w K (.Tuple a2 x1 W) (lL K b1 l1 b2 l2) [z,TI,TO,l,j] z (λi h=>UB b1 b2 h z TI TO l j l1 l2 .none i) where
 mem:=by simp
 obj:=λi h g b d=>by
  obtain⟨a,c,p⟩:=g.to;simp only[qN,Pz,or_false]at d;rcases d with rfl|rfl|rfl|rfl|rfl
  ·exact⟨_,g.z,λv q=>by simp at q⟩
  ·exact⟨_,g.ti,λv q=>by simp at q⟩
  ·exact⟨_,p,λv q=>by simp at q⟩
  ·exact g.i1.obj
  ·exact g.i2.obj
 keep:=λi h h' g k=>by
  obtain⟨a,c,p⟩:=g.to;exact⟨k z (by simp) _ g.z,k TI (by simp) _ g.ti,⟨a,c,k TO (by simp) _ p⟩,g.i1.moved λo q=>k l (by simp) o q,g.i2.moved λo q=>k j (by simp) o q⟩
 item:=by
  intro X hP hw hK f i Y s σ H E I u g hg;subst hP hw hK;obtain⟨xs,ys,x,y,q1,q2,hx,hy⟩:=hg;obtain⟨a0,C,p1,_⟩:=I.sq q1;obtain⟨a1,B,p2,_⟩:=I.sq q2;obtain⟨u1,a3,a8⟩:=C.get hx;obtain⟨u2,a5,a7⟩:=B.get hy;have U:s.TypeIs (.ref z) "zip":=⟨_,g.z,rfl⟩;unfold pyNext
  refine qF (Dc (FP (name:=Str.ofString "__next__") U DG (HL DG U F.entry_zip_next
   (ro D g p1 p2 (x:=u1) (y:=u2) (by simpa using a3) (by simpa using a5) λh1 R tp kp=>qV ?_) (F.args_zip_next_1 _))))
  refine⟨_,rfl,wpAny_letOwnedTupleGo_zip (s:={s with heap:=h1}) R.z λh2 z2 t=>?_⟩;have L:H s.heap.objs.size=none:=I.hok.fresh (qM _);have N:=u z (by simp);have Q:=u TO (by simp);have S:=u l (by simp);have O:=u j (by simp)
  have lt:∀b∈[z,TI,TO,l,j],b≠s.heap.objs.size:=λb d=>by
   obtain⟨a,c,p⟩:=g.to;simp only[qN,Pz,or_false]at d;rcases d with rfl|rfl|rfl|rfl|rfl
   ·exact qt (qJ g.z)
   ·exact qt (qJ g.ti)
   ·exact qt (qJ p)
   ·obtain⟨o,q,_⟩:=g.i1.obj;exact qt (qJ q)
   ·obtain⟨o,q,_⟩:=g.i2.obj;exact qt (qJ q)
  have k2:∀b o,b≠z->b≠TO->b≠l->b≠j->s.heap.get? b=some o->h2.get? b=some o:=λb o J Z e3 M q=>(t.2 b J).trans (kp b o J Z e3 M q);have t2:IsPair h2 s.heap.objs.size u1 u2:=(t.2 _ (Xs (lt z (by simp)))).trans tp;have G:∀b,b∉[z,TO,l,j]->b≠z/\b≠TO/\b≠l/\b≠j:=λb d=>⟨λq=>d (by simp[q]),λq=>d (by simp[q]),λq=>d (by simp[q]),λq=>d (by simp[q])⟩;have A:∀b o,b∉[z,TO,l,j]->s.heap.get? b=some o->h2.get? b=some o:=λb o d q=>let⟨J,Z,e3,M⟩:=G b d;k2 b o J Z e3 M q
  have nH:∀c v,H c=some v->c∉[z,TO,l,j]:=λc v q f=>by
   have:H c=none:=by
    simp only[qN,Pz,or_false]at f;rcases f with rfl|rfl|rfl|rfl
    ·exact N.1
    ·exact Q.1
    ·exact S.1
    ·exact O.1
   rw[this]at q;cases q
  refine⟨.ref s.heap.objs.size,upd H s.heap.objs.size (.tup [x,y]),?_,rfl,⟨_,x,y,rfl,L,rfl,λzs q=>by rw[I.sq_inj q q1];exact hx,λzs q=>by rw[I.sq_inj q q2];exact hy⟩,?_,λb d=>by rw[Y0 (lt b d)];exact(u b d).1⟩
  ·refine Inv.step (s:=s) (h':=h2) (g':=s.gens) (d':=s.drawn) (t':=s.toks) (ch:=[z,TO,l,j]) I (λb d=>?_) (λb o _ _ f q _=>A b o f q) (λb o _ _ f q _=>⟨o.slots,A b o f q⟩)
    (λb o _ q n=>by rw[Y0 (qt (qJ q))];exact n) (λb o f q=>⟨o,A b o f q⟩)
    (λb xs q=>by rw[Y0 (VG q L)];exact q) (λb o v q=>by rw[Y0 (VG q L)];exact q) (λb ps q=>⟨#[],by rw[Y0 (VG q L),q];simp⟩) (λm hm=>?_) (λb v q=>?_) I.bare
   ·have:=u b (by
     simp only[qN,Pz,or_false]at d ⊢;rcases d with rfl|rfl|rfl|rfl<;>simp)
    exact⟨this.2.2.2.1,this.2.1,this.2.2.2.2.1,this.2.2.2.2.2⟩
   ·obtain⟨o,es,ep,ho,r⟩:=hm;exact⟨o,es,ep,k2 _ o (Xs N.2.1) (Xs Q.2.1) (Xs S.2.1) (Xs O.2.1) ho,r⟩
   ·by_cases d:b=s.heap.objs.size
    ·subst d;rw[Yr]at q;cases q;exact⟨by show 2<=qa;decide,[u1,u2],.cons a8 (.cons a7 .nil),_,t2,rfl,_,rfl⟩
    ·rw[Y0 d]at q;refine(I.hok b v q).stay (λc w' f r=>?_) (λc r=>by rw[Y0 (VG r L)];exact r) λc ys r=>by rw[Y0 (VG r L)];exact r
     rcases f with rfl|f
     ·exact A c w' (nH c v q) r
     ·exact A c w' (nH c _ f) r
  ·obtain⟨a,c,p⟩:=R.to;exact⟨z2,(t.2 _ D.TIz).trans R.ti,⟨a,c,(t.2 _ D.TOz).trans p⟩,R.i1.moved λo q=>(t.2 _ D.i1z).trans q,R.i2.moved λo q=>(t.2 _ D.i2z).trans q⟩
 done:=by
  intro X hP hw hK f i Y s σ H E I u g hg;subst hP hw hK;obtain⟨xs,ys,q1,q2,a4⟩:=hg;obtain⟨a0,C,p1,_⟩:=I.sq q1;obtain⟨a1,B,p2,_⟩:=I.sq q2;have b0:=C.length;have a9:=B.length;have U:s.TypeIs (.ref z) "zip":=⟨_,g.z,rfl⟩;unfold pyNext
  refine qF (Dc (FP (name:=Str.ofString "__next__") U DG (HL DG U F.entry_zip_next
   (wy (by exact I.ok.hd f) D g p1 p2 (by rcases a4 with q|q;exact .inl (by simp;omega);exact .inr (by simp;omega)) λh' e kp he=>?_) (F.args_zip_next_1 _))))
  obtain⟨o,ho,a6⟩:=he;refine qF (x8 (T:="StopIteration") (b:=true) ⟨o,ho,a6⟩ isSubtype_stop (qV ⟨rfl,?_⟩));have N:=u z (by simp);have Q:=u TO (by simp);have S:=u l (by simp);have O:=u j (by simp);have G:∀b,b∉[z,TO,l,j]->b≠z/\b≠TO/\b≠l/\b≠j:=λb d=>⟨λq=>d (by simp[q]),λq=>d (by simp[q]),λq=>d (by simp[q]),λq=>d (by simp[q])⟩;have A:∀b o,b∉[z,TO,l,j]->s.heap.get? b=some o->h'.get? b=some o:=λb o d q=>let⟨J,Z,e3,M⟩:=G b d;kp b o J Z e3 M q
  have nH:∀c v,H c=some v->c∉[z,TO,l,j]:=λc v q f=>by
   have:H c=none:=by
    simp only[qN,Pz,or_false]at f;rcases f with rfl|rfl|rfl|rfl
    ·exact N.1
    ·exact Q.1
    ·exact S.1
    ·exact O.1
   rw[this]at q;cases q
  refine Inv.step (s:=s) (h':=h') (g':=s.gens) (d':=s.drawn) (t':=s.toks) (ch:=[z,TO,l,j]) I (λb d=>?_) (λb o _ _ f q _=>A b o f q) (λb o _ _ f q _=>⟨o.slots,A b o f q⟩)
    (λb o _ q n=>n) (λb o f q=>⟨o,A b o f q⟩) (λb xs q=>q) (λb o v q=>q) (λb ps q=>⟨#[],by rw[q];simp⟩) (λm hm=>?_) (λb v q=>?_) I.bare
  ·have:=u b (by
     simp only[qN,Pz,or_false]at d ⊢;rcases d with rfl|rfl|rfl|rfl<;>simp)
   exact⟨this.2.2.2.1,this.2.1,this.2.2.2.2.1,this.2.2.2.2.2⟩
  ·obtain⟨o,es,ep,ho,r⟩:=hm;exact⟨o,es,ep,kp _ o (Xs N.2.1) (Xs Q.2.1) (Xs S.2.1) (Xs O.2.1) ho,r⟩
  ·refine(I.hok b v q).stay (λc w' f r=>?_) (λc r=>r) λc ys r=>r;rcases f with rfl|f
   ·exact A c w' (nH c v q) r
   ·exact A c w' (nH c _ f) r
 self:=λ_ _ _ _ _ g h=>wpAny_pyIter_zip g.z h
end L2
namespace PySem
open Sem (wp)
def Qk(b:Bool)(l:Addr):Obj:=match b with
 | true=>{cls:=.type "list_iterator",data:=.fields #[.ref l,.int 0 0]}
 | false=>{cls:=.type "tuple_iterator",data:=.fields #[.ref l,.int 0 0]}
def IA(b1:Bool)(h:Heap)(a:Addr):Heap:=h.push (Qk b1 a)
def KP(b1 b2:Bool)(h:Heap)(a b:Addr):Heap:=(IA b1 h a).push (Qk b2 b)
def K4(b1 b2:Bool)(h:Heap)(a b:Addr):Heap:=(KP b1 b2 h a b).push {cls:=.type "tuple",data:=.seq #[.ref h.objs.size,.ref (IA b1 h a).objs.size]}
def J1(b1 b2:Bool)(h:Heap)(a b:Addr):Heap:=(K4 b1 b2 h a b).push {cls:=.type "tuple",data:=.seq #[.none,.none]}
def Kl(b1 b2:Bool)(h:Heap)(a b:Addr):Heap:=(J1 b1 b2 h a b).push {cls:=.type "zip",data:=.fields #[.none,.bool false,.bool false,.ref (KP b1 b2 h a b).objs.size,.ref (K4 b1 b2 h a b).objs.size]}
theorem yO(b1 b2:Bool)(a b:Addr)(m k:Array Value) :
  Meets (Builtin.«zip.__new__» ⟨[.type "zip",.ref a,.ref b],[]⟩) (λ_ R s=>W1 b1 s.heap a m/\W1 b2 s.heap b k/\R (.ok (.ret (.ref (J1 b1 b2 s.heap a b).objs.size))) {s with heap:=Kl b1 b2 s.heap a b}):=
 .of_wp λn w A R s h=>by
  obtain⟨f,g,d,e,i⟩:=s;obtain⟨p,l,h⟩:=h;have o:=sub_zip
  cases b1 with
  | true=>
   have j:Heap.IsList (Shared.heap ⟨f,g,d,e,i⟩) a m:=p
   cases b2 with
   | true=>
    have c:Heap.IsList (Shared.heap ⟨f.push {cls:=.type "list_iterator",data:=.fields #[.ref a,.int 0 0]},g,d,e,i⟩) b k:=jO l _
    wp_walk using Qf j,Qf c
    exact⟨_,rfl,h⟩
   | false=>
    have c:Heap.IsTuple (Shared.heap ⟨f.push {cls:=.type "list_iterator",data:=.fields #[.ref a,.int 0 0]},g,d,e,i⟩) b k:=mX l _
    wp_walk using Qf j,N9 c
    exact⟨_,rfl,h⟩
  | false=>
   have j:Heap.IsTuple (Shared.heap ⟨f,g,d,e,i⟩) a m:=p
   cases b2 with
   | true=>
    have c:Heap.IsList (Shared.heap ⟨f.push {cls:=.type "tuple_iterator",data:=.fields #[.ref a,.int 0 0]},g,d,e,i⟩) b k:=jO l _
    wp_walk using N9 j,Qf c
    exact⟨_,rfl,h⟩
   | false=>
    have c:Heap.IsTuple (Shared.heap ⟨f.push {cls:=.type "tuple_iterator",data:=.fields #[.ref a,.int 0 0]},g,d,e,i⟩) b k:=mX l _
    wp_walk using N9 j,N9 c
    exact⟨_,rfl,h⟩
theorem AQ{h:Heap}(e:h.get? a=some (Qk b l)):Yy b h a l 0:=by
 cases b with
 | true=>exact⟨_,e,rfl,rfl⟩
 | false=>exact⟨_,e,rfl,rfl⟩
theorem uX{E:Value->Shared->Prop}{s:Shared}{Q:Value->Shared->Prop}(h1:W1 b1 s.heap a p)(h2:W1 b2 s.heap b t)
  (h:∀g,UB b1 b2 g (s.heap.objs.size+4) (s.heap.objs.size+2) (s.heap.objs.size+3) s.heap.objs.size (s.heap.objs.size+1) a b .none 0->(∀c o,s.heap.get? c=some o->g.get? c=some o)->Q (.ref (s.heap.objs.size+4)) {s with heap:=g}) :
  wpAny (model k w) A (call (.type "zip") [.ref a,.ref b]) Q E s:=by
 refine callType_new F.called_zip (by decide) (F.typeCall_zip_2 _ _) (F.newCall_zip_2 _ _) (λobj=>F.args_object_init_3 obj _ _) F.entry_zip_new (yO b1 b2 a b p t) ⟨h1,h2,?_⟩;have i:(IA b1 s.heap a).objs.size=s.heap.objs.size+1:=QO ..;have e:(KP b1 b2 s.heap a b).objs.size=s.heap.objs.size+2:=by unfold KP;rw[QO,i]
 have d:(K4 b1 b2 s.heap a b).objs.size=s.heap.objs.size+3:=by unfold K4;rw[QO,e]
 have l:(J1 b1 b2 s.heap a b).objs.size=s.heap.objs.size+4:=by unfold J1;rw[QO,d]
 have fr:∀o:Obj,(Kl b1 b2 s.heap a b).get? (J1 b1 b2 s.heap a b).objs.size=some {cls:=.type "zip",dict:=none,data:=.fields #[.none,.bool false,.bool false,.ref (KP b1 b2 s.heap a b).objs.size,.ref (K4 b1 b2 s.heap a b).objs.size],slots:=#[]}:=λ_=>qd _ rfl;have f:=fr {cls:=.none,data:=.seq #[]};have j:(Kl b1 b2 s.heap a b).get? (K4 b1 b2 s.heap a b).objs.size=some {cls:=.type "tuple",data:=.seq #[.none,.none]}:=qE _ (qd _ rfl);have m:(Kl b1 b2 s.heap a b).get? (KP b1 b2 s.heap a b).objs.size=some {cls:=.type "tuple",data:=.seq #[.ref s.heap.objs.size,.ref (IA b1 s.heap a).objs.size]}:=qE _ (qE _ (qd _ rfl));have n:(Kl b1 b2 s.heap a b).get? (IA b1 s.heap a).objs.size=some (Qk b2 b):=qE _ (qE _ (qE _ (qd _ (by cases b2<;>rfl))));have r:(Kl b1 b2 s.heap a b).get? s.heap.objs.size=some (Qk b1 a):=qE _ (qE _ (qE _ (qE _ (qd _ (by cases b1<;>rfl)))));show _/\_;rw[e,d,l]at f;rw[i,e]at m;rw[d]at j;rw[i]at n;rw[l];exact⟨⟨_,f,rfl⟩,h _ ⟨f,m,⟨_,_,j⟩,AQ r,AQ n⟩ λc o q=>qE _ (qE _ (qE _ (qE _ (qE _ q))))⟩
end PySem
namespace L2
open PySem PySem.Spec PyProof.Rows
theorem tG:bootBuiltins "zip"=some (.type "zip"):=by decide +kernel
def P7(K:qC)(f:TA):TI:=λσ H R=>f σ H λvs a=>∃b1 b2 b c,vs=[.ref b,.ref c]/\(∃d,Ux b1 K a b d)/\(∃e,Ux b2 K a c e)/\R (lL K b1 b b2 c) a
theorem W1.there{h:Heap}(x:W1 b h l a):l<h.objs.size:=by
 cases b with
 | true=>obtain⟨o,q,_⟩:=x;exact qJ q
 | false=>obtain⟨o,q,_⟩:=x;exact qJ q
theorem tW{n a b:Nat}(h1:a<n)(h2:b<n):ZipApart (n+4) (n+2) (n+3) n (n+1) a b:=by
 constructor<;>first|exact qt (by omega)|exact O0 (by omega)
theorem rP{X:Cx}{K:qC}(y:X.K=K){a b:Expr}{r:TA}{p e:Pos}{i:List Expr}{L}{g:Pos}(E:Gl X "zip")(J:X.mg "zip"=none)(x:PA X [a,b] r)(P:starEach [a,b] X.env=(false,eval a X.env)::starEach [b] X.env:=by rfl)(k:(backTo e (starEach [b] X.env)).any (·.1)=false:=by rfl) :
  PI X (.Tuple i L g) (.Call (.Name "zip" p) [a,b] [] e) (P7 K r):=by
 subst y;intro d s σ H R I h;refine Call_ (L6 I E J tG (callWith_type1 (thn (x e d s σ H _ I h) λus s1 ⟨vs,H1,I1,r1,q1⟩=>?_) P k));obtain⟨b1,b2,T,Y,rfl,⟨U,C⟩,⟨Q,G⟩,q⟩:=q1;obtain⟨S,W,rfl,j,l⟩:=UL r1;cases j;cases l;obtain⟨t,O,n,_⟩:=I1.sq C;obtain⟨u,B,v,_⟩:=I1.sq G;have N:=W1.there n;have A:=W1.there v;refine uX n v λM m F=>wpAny_pyIter_zip m.z ?_;have w:Inv X d σ H1 {s1 with heap:=M}:=I1.kept (t':=s1.toks) F;have D:=tW N A;refine⟨s1.heap.objs.size+4,[s1.heap.objs.size+4,s1.heap.objs.size+2,s1.heap.objs.size+3,s1.heap.objs.size,s1.heap.objs.size+1],_,_,H1,rfl,w,xk D,m,λc o=>?_,q⟩
 have f:s1.heap.objs.size<=c:=by
  simp only[qN,Pz,or_false]at o;rcases o with rfl|rfl|rfl|rfl|rfl
  ·exact Ks _ _
  ·exact Ks _ _
  ·exact Ks _ _
  ·exact qM _
  ·exact Ks _ _
 exact I1.fpOk f (I1.hok.fresh f)
def TV(f:AF):Vs:=λenv=>(f env).bind λa=>match a with
 | [r,t]=>(Vg r.d).bind λc=>(Vg t.d).map λb=>(List.zipWith (λd e=>.tuple [d,e]) c b,r.bs++t.bs)
 | _=>none
theorem Ng{K:qC}{A:Addr->Prop}{H:Hp}{d:PyData}{i:List PyData}{v:V}(h:Rp (Z6 A H) d v)(e:Vg d=some i):∃(b:Bool)(a:Addr)(c:List V),v=.ref a/\ZH (Z6 A H) i c/\∀(B:Addr->Prop)(f:Hp),Z3 (Z6 A H) (Z6 B f)->Ux b K f a c:=by
 cases d with
 | list j=>
  cases e;obtain⟨a,c,rfl,g,r⟩:=TC h;exact⟨true,a,c,rfl,r,λB f s=>YK.of (WD (s _ _ g))⟩
 | tuple j=>
  cases e;obtain⟨a,c,rfl,g,r⟩:=SL h;exact⟨false,a,c,rfl,r,λB f s=>Yh.of (WD (s _ _ g))⟩
 | _=>cases e
theorem Aq{f c:List PyData}{i:Nat}{d:PyData}(h:(List.zipWith (λd e=>PyData.tuple [d,e]) f c)[i]?=some d):∃a b,f[i]?=some a/\c[i]?=some b/\d=.tuple [a,b]:=by
 rw[List.getElem?_zipWith]at h
 cases e1:f[i]? with
 | none=>rw[e1]at h;cases h
 | some a=>
  cases e2:c[i]? with
  | none=>rw[e1,e2]at h;cases h
  | some b=>rw[e1,e2]at h;cases h;exact⟨a,b,rfl,rfl,rfl⟩
theorem vD{K:qC}{X:TA}{f:AF}(h1:SA X f):SI (P7 K X) (TV f):=by
 intro c H0 a σ H h ds bs e R q;unfold TV at e;obtain⟨rs,er,e⟩:=qA.mp e;split at e
 ·rename_i r t;obtain⟨d1,D,e⟩:=qA.mp e;obtain⟨d2,N,e⟩:=qG.mp e;cases e;refine h1 c H0 a σ H h _ er _ λvs G s hv=>?_
  cases hv with
  | cons C F=>
   cases F with
   | cons E l=>
    cases l;have j:∀b,(c b\/own (frzs a (r.bs++t.bs)) σ b)->lim c a σ r.bs b:=λb z=>Nr (λi B=>Uw _ B) b (RG b z);have m:∀b,(c b\/own (frzs a (r.bs++t.bs)) σ b)->lim c a σ t.bs b:=λb z=>Nr (λi B=>qf _ B) b (RG b z);obtain⟨b1,a1,k,rfl,r1,T⟩:=Ng (K:=K) (Rp.same (Z6.sub j) _ C.rp) D;obtain⟨b2,a2,g,rfl,Z,Y⟩:=Ng (K:=K) (Rp.same (Z6.sub m) _ E.rp) N;refine⟨b1,b2,a1,a2,rfl,⟨k,T _ G (Z3.refl _)⟩,⟨g,Y _ G (Z3.refl _)⟩,q _ G s ?_⟩;intro A P hA n;have L:=T A P n;have I:=Y A P n;have M:=ZH.same n _ r1;have O:=ZH.same n _ Z;refine⟨λi d e=>?_,⟨k,g,L,I,?_⟩⟩
    ·obtain⟨c1,c2,o,u,rfl⟩:=Aq e;obtain⟨v1,W,J⟩:=M.get2 o;obtain⟨v2,Q,v⟩:=O.get2 u;refine⟨⟨k,g,v1,v2,L,I,W,Q⟩,λx a0 y=>?_⟩;obtain⟨p,x',y',rfl,w,rfl,y1,y2⟩:=y;have S:=y1 k L;rw[W]at S;cases S;have U:=y2 g I;rw[Q]at U;cases U;exact⟨Z3.new w,KH w (Us hA w) (UF J (UF v VP))⟩
    ·rw[List.length_zipWith,r1.length,Z.length];rcases Nat.le_total k.length g.length with z|z
     ·exact .inl (by rw[Nat.min_eq_left z];exact qM _)
     ·exact .inr (by rw[Nat.min_eq_right z];exact qM _)
 ·cases e
def M0(K:qC)(a:Bool):R2:=λx y H Q=>∃d c b,VL K H d x/\VL K H c y/\Vg c=some b/\qm d=true/\qm c=true/\Q (.bl (if a then !(b.any λe=>Xn e d)else b.any λe=>Xn e d)) H
section
variable{X:Cx}
theorem DS{d:PyData}(h:qm d=true):d.canLay0=true/\d.depth<=64:=by
 unfold qm at h;rw[qe]at h;exact⟨h.1,of_decide_eq_true h.2⟩
theorem ij{K:qC}(m:X.K=K)(B:X.A.units+64<cLine):X2 X (compareOp .In) (M0 K false):=by
 subst m;intro b s σ H x y v u Q I z t h;obtain⟨d,c,a,w,p,g,o,n,q⟩:=h;obtain⟨D,k⟩:=OG I d w z;obtain⟨bs,j⟩:=OG I c p t;obtain⟨i,C⟩:=DS o;obtain⟨l,f⟩:=DS n;have q:EP X b σ Q (.bool (a.any λe=>Xn e d)) s:=⟨.bl (a.any λe=>Xn e d),H,I,rfl,q⟩
 cases c with
 | list r=>
  cases g;have f:qb a+1<=64:=f;exact SeqAt.in_list_reads j k l i (by have:=ID (qb a) d.depth;omega) q
 | tuple r=>
  cases g;have f:qb a+1<=64:=f;exact SeqAt.in_tuple_reads j k l i (by have:=ID (qb a) d.depth;omega) q
 | _=>cases g
theorem Hb{K:qC}(m:X.K=K)(B:X.A.units+64<cLine):X2 X (compareOp .NotIn) (M0 K true):=by
 subst m;intro b s σ H x y v u Q I z t h;obtain⟨d,c,a,w,p,g,o,n,q⟩:=h;obtain⟨D,k⟩:=OG I d w z;obtain⟨bs,j⟩:=OG I c p t;obtain⟨i,C⟩:=DS o;obtain⟨l,f⟩:=DS n;have q:EP X b σ Q (.bool (!(a.any λe=>Xn e d))) s:=⟨.bl (!(a.any λe=>Xn e d)),H,I,rfl,q⟩
 cases c with
 | list r=>
  cases g;have f:qb a+1<=64:=f;exact SeqAt.notIn_list_reads j k l i (by have:=ID (qb a) d.depth;omega) q
 | tuple r=>
  cases g;have f:qb a+1<=64:=f;exact SeqAt.notIn_tuple_reads j k l i (by have:=ID (qb a) d.depth;omega) q
 | _=>cases g
end
def Tv(neg:Bool):OF:=λd c=>match Vg c with
 | some ds=>if qm d=true/\qm c=true then some (.bool (if neg then !(ds.any λe=>Xn e d)else ds.any λe=>Xn e d),false)else none
 | none=>none
theorem HZ{K:qC}{a:Bool}:SO (M0 K a) (Tv a):=by
 intro A H x y dx b j g f d fr e Q q;unfold Tv at e;split at e
 ·rename_i i c;split at e
  ·rename_i h;cases e;refine⟨dx,b,i,L7 (Ox h.1) (Rp.same (Z6.same A H) _ g),L7 (Ox h.2) (Rp.same (Z6.same A H) _ f),c,h.1,h.2,q _ H (Z3.refl _) ?_ (λz=>by cases z)⟩;cases a<;>exact TB
  ·cases e
 ·cases e
end L2
namespace PySem
open Sem (wp)
open AutoSeq1 (wpAny_loadPart')
theorem tY{A:Around}(r:A.handled=none)(b:Bool)(f l:Addr)(j:l≠f)(a:Array Value) :
  Draws k w A f [f,l] a.size (λi v=>a[i]?=some v) (λi h=>Yy b h f l i/\W1 b h l a) where
 live:=λ_ _ c=>let⟨o,ho,_⟩:=c.1.obj;⟨o,ho⟩
 frame:=λ_ _ _ c n=>⟨c.1.moved λo e=>n f (by simp) o e,c.2.moved λo e=>n l (by simp) o e⟩
 item:=λi s Q E m c p=>by
  refine CM c.1 c.2 (x:=a[i]) (by simp[m]) λt g d=>?_;exact p _ t s.toks (by simp[m]) ⟨g,c.2.moved λo e=>d.extBut _ o j e⟩ d
 done:=λs Q E c q=>OQ r c.1 c.2 (by simp) q
theorem ik(l:Addr)(a:Array Value)(n:Nat)(f:Option Addr)(o:Array (Option Value)) :
  Meets (Builtin.«enumerate.__new__» ⟨[.type "enumerate",.ref l],[]⟩) (λ_ R s=>s.heap.get? l=some {cls:=.type "tuple",dict:=f,data:=.seq a n,slots:=o}/\
   R (.ok (.ret (.ref (s.heap.push (Qk false l)).objs.size))) {s with heap:=(s.heap.push (Qk false l)).push {cls:=.type "enumerate",data:=.fields #[.none,.bool false,.ref s.heap.objs.size,rawInt 0,.none,.none]}}):=
 .of_wp λi w A R s h=>by
  obtain⟨m,g,d,k,p⟩:=s;obtain⟨b,h⟩:=h;have j:=sub_enumerate;have e:Heap.IsTuple (Shared.heap ⟨m,g,d,k,p⟩) l a:=⟨_,b,rfl,n,rfl⟩
  wp_walk using C5 b
  refine wpAny_stack_any λq=>qV ?_;split
  ·rename_i c _ _ _ _ _;cases(c==Value.type "enumerate")
   ·wp_walk using C5 b,N9 e
    exact⟨_,rfl,h⟩
   ·wp_walk using C5 b,N9 e
    exact⟨_,rfl,h⟩
  ·wp_walk using C5 b,N9 e
   exact⟨_,rfl,h⟩
theorem oO{E:Value->Shared->Prop}{s:Shared}{Q:Value->Shared->Prop}(p:W1 b s.heap l a)
  (h:∀d,IsEnum d (s.heap.objs.size+1) s.heap.objs.size 0 .none->Yy b d s.heap.objs.size l 0->(∀c o,s.heap.get? c=some o->d.get? c=some o)->Q (.ref (s.heap.objs.size+1)) {s with heap:=d}) :
  wpAny (model q w) A (call (.type "enumerate") [.ref l]) Q E s:=by
 cases b with
 | true=>exact call_enumerate_list p λd e i _ k=>h d e i k
 | false=>
  obtain⟨⟨c,g,dt,t⟩,u,j,n,m⟩:=p;replace j:c=.type "tuple":=j;replace m:dt=.seq a n:=m;subst j m;refine callType_new F.called_enumerate (by decide) (F.typeCall_enumerate_1 _) (F.newCall_enumerate_1 _) (λobj=>F.args_object_init_2 obj _) F.entry_enumerate_new (ik l a n g t) ⟨u,?_⟩;have r:(s.heap.push (Qk false l)).objs.size=s.heap.objs.size+1:=QO ..;have f:=qd (s.heap.push (Qk false l)) (o:={cls:=.type "enumerate",data:=.fields #[.none,.bool false,.ref s.heap.objs.size,rawInt 0,.none,.none]}) rfl;show _/\_;rw[r]at f ⊢;exact⟨⟨_,f,rfl⟩,h _ f (AQ (b:=false) (qE _ (qd _ rfl))) λc o x=>qE _ (qE _ x)⟩
end PySem
namespace L2
open PySem PySem.Spec PyProof.Rows
def lZ(K:qC)(b:Bool)(a:Addr):It:=
 ⟨λi H=>∃c x,Ux b K H a c/\c[i]?=some x,λi H x d=>∃p y,x=.ref p/\H p=none/\d=upd H p (.tup [.int i,y])/\∀c,Ux b K H a c->c[i]?=some y,λi H=>∃c,Ux b K H a c/\c.length<=i⟩
theorem pI{P:Program}{w:World}{K:qC}{U:List Expr}{x1}{O:Pos}{b:Bool}(a e f:Addr)(G:e≠f)(a5:e≠a)(a1:a≠f) :
  VC P w K (.Tuple U x1 O) (lZ K b a) [e,f] e (λi h=>Yy b h f a i/\∃l,IsEnum h e f (i:Int) l) where
 mem:=by simp
 obj:=λi h t c d=>by
  obtain⟨h1,l,h4⟩:=t;rcases qN.mp d with rfl|d
  ·exact⟨_,h4,λv z=>by simp at z⟩
  ·have q:c=f:=by simpa using d
   subst q;exact h1.obj
 keep:=λi h h' t k=>⟨t.1.moved λo q=>k f (by simp) o q,let⟨l,q⟩:=t.2;⟨l,k e (by simp) _ q⟩⟩
 item:=by
  intro X hP hw hK d i Q s σ H E I Y t hg;subst hP hw hK;obtain⟨xs,x,Z,hx⟩:=hg;obtain⟨A,rv,p,hz⟩:=I.sq Z;obtain⟨u,hu,ru⟩:=rv.get hx;obtain⟨B,l,N⟩:=t;have D:=Y e (by simp);have J:=Y f (by simp)
  have a2:i<A.toArray.size:=by
   obtain⟨hh,_⟩:=qK.mp hu;simpa using hh
  refine wpAny_pyNext_enum_itemD (tY (by exact I.ok.hd d) b f a a1 A.toArray) N ⟨B,p⟩ a2 G (by simp[G,a5]) λS h1 tk pu e1 i1 t1 z1 k1=>?_
  have a4:S=u:=by
   have pu:A.toArray[i]?=some S:=pu;rw[List.getElem?_toArray,hu]at pu;exact(qZ pu).symm
  subst a4;refine⟨_,rfl,wpAny_letOwnedTupleGo_enum (s:={s with heap:=h1,toks:=tk+1}) e1 λh2 e2 C=>?_⟩;have L:H s.heap.objs.size=none:=I.hok.fresh (qM _);have R:e≠s.heap.objs.size:=qt (qJ N);have M:∀c o,c≠e->c≠f->s.heap.get? c=some o->h2.get? c=some o:=λc o q1 q2 q=>(C.2 c q1).trans (k1 c o q1 q2 q);have t2:h2.get? s.heap.objs.size=some {cls:=.type "tuple",data:=.seq #[.int i tk,S]}:=(C.2 _ (Xs R)).trans t1;have j:∀c,c∉[e,f]->c≠e/\c≠f:=λc g=>⟨λz=>g (by simp[z]),λz=>g (by simp[z])⟩;refine⟨.ref s.heap.objs.size,upd H s.heap.objs.size (.tup [.int i,x]),?_,rfl,⟨_,x,rfl,L,rfl,λys hy=>by rw[I.sq_inj hy Z];exact hx⟩,⟨?_,S,e2⟩,λc g=>?_⟩
  ·refine Inv.step (s:=s) (h':=h2) (g':=s.gens) (d':=s.drawn) (t':=tk+1) (ch:=[e,f]) I (λc g=>?_) (λc o _ _ d q _=>M c o (j c d).1 (j c d).2 q) (λc o _ _ d q _=>⟨o.slots,M c o (j c d).1 (j c d).2 q⟩)
    (λc o _ q n=>by rw[Y0 (qt (qJ q))];exact n) (λc o d q=>⟨o,M c o (j c d).1 (j c d).2 q⟩)
    (λc xs q=>by rw[Y0 (VG q L)];exact q) (λc o v q=>by rw[Y0 (VG q L)];exact q) (λc ps q=>⟨#[],by rw[Y0 (VG q L),q];simp⟩) (λm hm=>?_) (λc v q=>?_) I.bare
   ·rcases qN.mp g with rfl|g
    ·exact⟨D.2.2.2.1,D.2.1,D.2.2.2.2.1,D.2.2.2.2.2⟩
    ·have z:c=f:=by simpa using g
     subst z;exact⟨J.2.2.2.1,J.2.1,J.2.2.2.2.1,J.2.2.2.2.2⟩
   ·obtain⟨o,es,ep,ho,r⟩:=hm;exact⟨o,es,ep,M _ o (Xs D.2.1) (Xs J.2.1) ho,r⟩
   ·by_cases g:c=s.heap.objs.size
    ·subst g;rw[Yr]at q;cases q;exact⟨by show 2<=qa;decide,[.int i tk,S],.cons ⟨_,rfl⟩ (.cons ru .nil),_,t2,rfl,_,rfl⟩
    ·rw[Y0 g]at q;have nt:∀c W,H c=some W->c≠e/\c≠f:=λc W z=>⟨(λy=>by rw[y,D.1]at z;cases z),(λy=>by rw[y,J.1]at z;cases z)⟩;refine(I.hok c v q).stay (λc W d r=>?_) (λc r=>by rw[Y0 (VG r L)];exact r) λc ys r=>by rw[Y0 (VG r L)];exact r
     rcases d with rfl|d
     ·exact M c W (nt c v q).1 (nt c v q).2 r
     ·exact M c W (nt c _ d).1 (nt c _ d).2 r
  ·exact i1.1.moved λo q=>(C.2 _ (Xs G)).trans q
  ·rcases qN.mp g with rfl|g
   ·rw[Y0 R];exact D.1
   ·have z:c=f:=by simpa using g
    subst z;obtain⟨o,q1,_⟩:=B.obj;rw[Y0 (qt (qJ q1))];exact J.1
 done:=by
  intro X hP hw hK d i Q s σ H E I Y t hg;subst hP hw hK;obtain⟨xs,Z,hx⟩:=hg;obtain⟨A,rv,p,hz⟩:=I.sq Z;obtain⟨B,l,N⟩:=t;obtain⟨f0,f1,f2,f3,f4,f5⟩:=Y f (by simp);have hl:=rv.length;have hT:s.TypeIs (.ref e) "enumerate":=⟨_,N,rfl⟩;unfold pyNext;refine qF (Dc (FP (name:=Str.ofString "__next__") hT F.slot_enumerate_next (HL F.slot_enumerate_next hT F.entry_enumerate_next ?_ (F.args_enumerate_next_1 _))));show wpAny _ _ (field (.ref e) 2 >>=_) _ _ _;refine qF (Vh N rfl (x:=.ref f) rfl ?_);refine qF (OQ (by exact I.ok.hd d) B p (by simp;omega) λh' x a0 a6=>?_);obtain⟨o,ho,a3⟩:=a6;refine qF (x8 (T:="StopIteration") (b:=true) ⟨o,ho,a3⟩ isSubtype_stop (qV ⟨rfl,?_⟩));exact I.turned (t':=s.toks) (λc o g q=>a0 c o g q) f0 f1 f3 f4 f5
 self:=λ_ _ _ _ _ t h=>let⟨_,q⟩:=t.2;wpAny_pyIter_enum q h
def WM(K:qC)(d:TA):TI:=λσ H R=>d σ H λvs c=>∃b a,vs=[.ref a]/\(∃e,Ux b K c a e)/\R (lZ K b a) c
theorem zH{X:Cx}{K:qC}(w:X.K=K){a:Expr}{o:TA}{p f:Pos}{i:List Expr}{B}{g:Pos}(y:Gl X "enumerate")(A:X.mg "enumerate"=none)(v:PA X [a] o)(E:starEach [a] X.env=[(false,eval a X.env)]:=by rfl) :
  PI X (.Tuple i B g) (.Call (.Name "enumerate" p) [a] [] f) (WM K o):=by
 subst w;intro d s σ H R I h;refine Call_ (L6 I y A boot_enumerate (uk (thn (v f d s σ H _ I h) λus s1 ⟨vs,H1,I1,r1,q1⟩=>?_) E rfl));obtain⟨b,l,rfl,⟨J,C⟩,q⟩:=q1;obtain⟨u,rfl,x⟩:=U3 r1;cases x;obtain⟨t,F,n,G⟩:=I1.sq C;have lt:=W1.there n;refine oO n λD m j z=>wpAny_pyIter_enum m ?_;have r:Inv X d σ H1 {s1 with heap:=D}:=I1.kept (t':=s1.toks) z;refine⟨s1.heap.objs.size+1,[s1.heap.objs.size+1,s1.heap.objs.size],_,_,H1,rfl,r,pI l _ _ (Nat.succ_ne_self _) (O0 (Nat.lt_succ_of_lt lt)) (qt lt),⟨j,_,m⟩,λc k=>?_,q⟩;rcases qN.mp k with rfl|k
 ·exact I1.fpOk (Cw _) (I1.hok.fresh (Cw _))
 ·have e:c=s1.heap.objs.size:=by simpa using k
  subst e;exact I1.fpOk (qM _) (I1.hok.fresh (qM _))
def Kn(f:AF):Vs:=λenv=>(f env).bind λrs=>match rs with
 | [r]=>(Vg r.d).map λa=>(QS a,r.bs)
 | _=>none
theorem GM{K:qC}{z:TA}{f:AF}(h1:SA z f):SI (WM K z) (Kn f):=by
 intro E N j σ H h Q bs e R q;unfold Kn at e;obtain⟨P,J,e⟩:=qA.mp e;split at e
 ·rename_i r;obtain⟨m,l,e⟩:=qG.mp e;cases e;refine h1 E N j σ H h _ J _ λvs B s c=>?_
  cases c with
  | cons c t=>
   cases t;obtain⟨b,a,g,rfl,u,w⟩:=Ng (K:=K) (Rp.same (Z6.sub (RG (bs:=r.bs))) _ c.rp) l;refine⟨b,a,rfl,⟨g,w _ B (Z3.refl _)⟩,q _ B s ?_⟩;intro A I L C;have n:=w A I C;have o:=ZH.same C _ u;have M:(QS m).length=m.length:=by unfold QS;simp
   refine⟨λi d e=>?_,⟨g,n,by rw[M,u.length];exact qM _⟩⟩;unfold QS at e;rw[qW,l4]at e
   cases e0:m[i]? with
   | none=>rw[e0]at e;cases e
   | some G=>
    rw[e0]at e;obtain⟨v,c,D⟩:=o.get2 e0;have e:PyData.tuple [.int ((0+i:Nat):Int),G]=d:=qZ e;rw[Jn]at e;subst e;refine⟨⟨g,v,n,c⟩,λx F y=>?_⟩;obtain⟨p,O,rfl,k,rfl,y⟩:=y;have:=y g n;rw[c]at this;cases this;exact⟨Z3.new k,KH k (Us L k) (UF VX (UF D VP))⟩
 ·cases e
theorem om{K:qC}{c:TA}{f:AF}(h1:SA c f):SI (WM K c) (Lm f):=λi k a σ H h l bs e R q=>
 GM h1 i k a σ H h l bs (by
  unfold Lm at e;unfold Kn;obtain⟨j,g,e⟩:=qA.mp e;rw[g]
  cases j with
  | nil=>cases e
  | cons r t=>
   cases t with
   | nil=>
    obtain⟨d,fr,b⟩:=r;cases d<;>first|exact e|cases e
   | cons _ _=>cases e) R q
def Xd:Expr->Bool
 | .Starred ..=>true
 | _=>false
theorem XD(h:Xd e=false):starEach (e::b) a=(false,eval e a)::starEach b a:=by
 cases e<;>first
  | rfl
  | cases h
theorem rV(c:PE X e a)(b:PA X f t)(d:Xd e=false:=by rfl):PA X (e::f) (YW a t):=Oy c b (XD d)
end L2
namespace PySem.SeqAt
open AutoSeq1 (wpAny_loadPart')
open MeetsSeq PyProof.Rows
end PySem.SeqAt
namespace L2
open PySem PySem.Spec PyProof.Rows
theorem ZH.setAt{a:List PyData}{vs:List V}(h:ZH H a vs)(i:Rp H d v)(n:Nat):ZH H (a.set n d) (vs.set n v):=by
 induction n generalizing a vs with
 | zero=>
  cases a with
  | nil=>unfold ZH at h;subst h;exact VP
  | cons e a=>unfold ZH at h;obtain⟨w,f,rfl,c,b⟩:=h;exact UF i b
 | succ n g=>
  cases a with
  | nil=>unfold ZH at h;subst h;exact VP
  | cons e a=>unfold ZH at h;obtain⟨w,f,rfl,c,b⟩:=h;exact UF c (g b)
def Ud(i:Nat)(b a:EF):SF:=λenv=>match env[i]? with
 | some (.ac (.list ds))=>(a env).bind λr=>(b env).bind λk=>match k.d with
  | .int z=>(UM ds.length z).bind λj=>if i∉r.bs then some (.nx ((frzs env r.bs).set i (.ac (.list (ds.set j r.d)))))else none
  | _=>none
 | _=>none
theorem qs(h1:SE Z T)(h2:SE U N):SS (Xy U (Lz (YR i) Z MA)) (Ud i T N):=by
 intro k C c σ H D h o e q;unfold Ud at e;split at e
 ·rename_i n B;obtain⟨r,M,e⟩:=qA.mp e;obtain⟨⟨Q,X,J⟩,W,e⟩:=qA.mp e
  cases Q with
  | int z=>
   have e:((UM n.length z).bind λj=>if i∉r.bs then some (RT.nx ((frzs c r.bs).set i (.ac (.list (n.set j r.d)))))else none)=some o:=e;obtain⟨j,S,e⟩:=qA.mp e;split at e
   ·rename_i R;cases e;obtain⟨a,l,g2,g3,E⟩:=h.ac i _ B;obtain⟨x,L,Y⟩:=E;refine h2 k C c σ H h r M _ λv I s hv=>⟨_,l,h1 k C c σ I (h.up s) _ W _ λu F p O=>?_⟩;cases Ws O.rp;have t:=s.trans p;have A:=(h.up t).frzs r.bs;have f:=Kj R B;have g:=t _ _ L
    have m:ZH (Z6 (λb=>k b\/own (frzs c r.bs) σ b) F) n x:=by
     obtain⟨a',w,_,_,P⟩:=A.ac i _ f;rw[l]at w;cases w;obtain⟨ys,y,G⟩:=P;rw[g]at y;cases y;exact G
    refine⟨a,x,z,j,rfl,rfl,g,by rw[<- Y.length];exact S,?_⟩;exact q σ _ (A.mut f l ⟨_,Yr,m.setAt (Rp.same (Z6.sub RG) _ (hv.later (Z3.refl _) p λ_ z=>z).rp) j⟩)
   ·cases e
  | _=>cases e
 ·cases e
structure Bx(p:Prop):Prop where
 out:p
theorem Bx.pt(h:Bx (PW X e t)):Bx (PT X e t):=⟨h.out.pt⟩
theorem Zn:Bx (PE X (YT.Constant (Const.int i) j a) (tC (V.int i))):=⟨Tq⟩
theorem ZS:Bx (PA X [] XI):=⟨Oe⟩
theorem ur(c:Bx (PE X e a))(b:Bx (PA X f t))(d:L2.Xd e=false):Bx (PA X (e::f) (YW a t)):=⟨rV c.out b.out d⟩
theorem YX{a b:YT}(g:X2 X (PySem.binaryOp d) r)(e:Bx (PE X a h))(f:Bx (PE X b i)):Bx (PE X (a.BinOp d b c) (Ul r h i)):=⟨Uu g e.out f.out⟩
theorem Zf{X:Cx}{a:Stmt}{t:TS}(h1:Bx (PS X a t)):Bx (W2 X [a] t):=⟨Mf h1.out⟩
theorem Zx{X:Cx}{a:Stmt}{rest:List Stmt}{t u:TS}(h1:Bx (PS X a t))(h2:Bx (W2 X rest u)):Bx (W2 X (a::rest) (L2.WE t u)):=⟨K9 h1.out h2.out⟩
theorem yh {X:Cx} {x:Str} (D:L2.Dn X.prog X.w X.K X.mg X.base x l k i) (g:L2.Y5 k X.A) (j:Gl X x) (f:Bx (PA X (e::a) t)) (d:(x==Ut "__debug__")=false) (h:Vc (e::a) X.env=(false,eval e X.env)::Vc a X.env) (c:((backTo b (Vc a X.env)).any λ(x:Bool×PySem.Sem Value)=>x.fst)=false):Bx (PE X ((YT.Name x p).Call (e::a) [] b) (L2.X7 i [] L2.E0 t)):=⟨vx D g j f.out d h c⟩
theorem Yf(b:Bx (PE X e c)):Bx (PS X (Stmt.Return (some e) a) (L2.WR c)):=⟨GS b.out⟩
theorem Bs{X:Cx}{a:VH}(c:X.N.Nodup)(h:X.N[i]?=some x)(k:L2.QN X.env.scope x)(j:Bx (PE X e d))(f:swapsWith e (some (YT.Name x b)) a.line X.env=Pure.pure false)(g:X.fn x=true\/List.lookup x X.env.scope.names=some PySem.NameKind.local):Bx (PS X (Stmt.Assign [YT.Name x b] e a) (Xy d (Y6 i))):=⟨QC c h k j.out f g⟩
theorem xG {X:Cx} {x:Str} {p a:VH} {e:YT} {b:List YT} {t:TA} {f:String} {r:List V->Hp->VK->Prop} (k:YQ X (Value.builtin f) r) (l:Gl X x) (i:X.mg x=none) (m:PySem.bootBuiltins x=some (Value.builtin f)) (g:Bx (PA X (e::b) t)) (h:x≠Ut "__name__") (d:(x==Ut "__debug__")=false) (j:Vc (e::b) X.env=(false,eval e X.env)::Vc b X.env) (c:((backTo a (Vc b X.env)).any λ(x:Bool×PySem.Sem Value)=>x.fst)=false):Bx (PE X ((YT.Name x p).Call (e::b) [] a) (QV r t)):=⟨Jt k l i m g.out h d j c⟩
theorem UJ:Bx (PE X (YT.Constant (Const.bool b) j a) (tC (V.bl b))):=⟨BN⟩
theorem xl{a b:YT}(e:Ou X r)(d:Bx (PE X a h))(g:Bx (PE X b i))(f:L2.VE b):Bx (PE X (a.Subscript b c) (Ul r h i)):=⟨D8 e d.out g.out f⟩
theorem Xh(h:Bx (PT X c e))(f:Bx (W2 X a t))(g:Bx (W2 X b u)):Bx (PS X (Stmt.If c a b d) (L2.Uo e t u)):=⟨Ey h.out f.out g.out⟩
theorem WW:Bx (W2 X [] L2.U2):=⟨Be⟩
theorem RA(c:Bx (PT X a d)):Bx (PT X (YT.UnaryOp UnaryOp.Not a b) (L2.PB d)):=⟨yf c.out⟩
theorem VO:∀{X:Cx}{K:qC},
 X.K=K->
  ∀{a:YT}{c:TE},
   Bx (PE X a c)->
    (∀(b:PySem.Sem Value),
      PySem.isTrue a X.env b=do
       let v <- b
       PySem.standAt a.pos
       PySem.holding [v] (PySem.truthy v))->
     Bx (PT X a λ(σ:L2.St)(H:Hp)(Q:Bool->Hp->Prop)=>c σ H λ(x:V)(d:Hp)=>∃(k:Bool),L2.T6 K x d k/\Q k d):=by
 intro X K f a c e g;exact⟨xO f e.out g⟩
theorem rW{X:Cx}(a:X.N.Nodup)(d:X.N[i]?=some x)(e:L2.QN X.env.scope x)(c:X.fn x=true\/List.lookup x X.env.scope.names=some PySem.NameKind.local):Bx (PG X (YT.Name x b) (Y6 i)):=⟨Mc a d e c⟩
theorem VM(h:Bx (PA X b t)):Bx (PE X (YT.List b a) (OV t)):=⟨Hv h.out⟩
theorem Wp{X:Cx}(h:PySem.PassesOwn (PySem.model X.prog X.w) X.A X.env X.xe)(j:X.calm=true)(i:Bx (PI X b iter e))(l:Bx (PG X b g))(f:Bx (W2 X a k))(d:(∀(x:Value),foldedSetIterable iter X.env x=Pure.pure x)):Bx (PS X (Stmt.For b iter a [] c) (L2.RI e g k)):=⟨Mg h j i.out l.out f.out d⟩
theorem W9{a b:YT}(h:X2 X (PySem.compareOp c) r)(e:Bx (PE X a i))(g:Bx (PE X b j))(f:behindInMarks c b=false):Bx (PT X (a.Compare [c] [b] d) (L2.UN (Ul r i j))):=⟨Hc h e.out g.out f⟩
theorem Uz:Bx (PE X (YT.Constant (Const.str x) j a) (tC (V.str x))):=⟨wZ⟩
theorem WG{X:Cx}{a:VH}(c:Bx (PE X e d))(b:swapsWith e none a.line X.env=Pure.pure false):Bx (PS X (Stmt.Expr e a) (L2.XO d)):=⟨B1 c.out b⟩
theorem Wl(h:Bx (PA X b t)):Bx (PE X (YT.Tuple b c a) (SY t)):=⟨xJ h.out⟩
theorem M2(h:Bx (PE X a t)):Bx (PE X (YT.BoolOp c [a] b) t):=⟨xT h.out⟩
theorem Le{a b:YT}(h:X2 X (PySem.compareOp c) r)(e:Bx (PE X a i))(g:Bx (PE X b j))(f:behindInMarks c b=false):Bx (PE X (a.Compare [c] [b] d) (Ul r i j)):=⟨rA h e.out g.out f⟩
theorem o4 {X:Cx} {x:Str} {r:List V->Hp->VK->Prop} (j:YQ X (Value.type T) r) (k:Gl X x) (h:X.mg x=none) (l:PySem.bootBuiltins x=some (Value.type T)) (f:Bx (PA X (e::a) t)) (g:x≠Ut "__name__") (d:(x==Ut "__debug__")=false) (i:Vc (e::a) X.env=(false,eval e X.env)::Vc a X.env) (c:((backTo b (Vc a X.env)).any λ(x:Bool×PySem.Sem Value)=>x.fst)=false):Bx (PE X ((YT.Name x p).Call (e::a) [] b) (QV r t)):=⟨oz j k h l f.out g d i c⟩
theorem Jm{X:Cx}(e:Gl X x)(d:X.mg x=none)(a:PySem.bootBuiltins x=some u)(r:L2.ZF v u)(c:x≠Ut "__name__")(f:(x==Ut "__debug__")=false):Bx (PE X (YT.Name x b) (tC v)):=⟨BL e d a r c f⟩
theorem FL(c:Bx (PT X a d)):Bx (PW X (YT.BoolOp BoolOp.Or [a] b) d):=⟨uT c.out⟩
theorem Lo {X:Cx} {a b:YT} {c:VH} {e d:TT} {rest:List YT} (f:Bx (PT X a e)) (g:Bx (PW X (YT.BoolOp BoolOp.Or (b::rest) c) d)):Bx (PW X (YT.BoolOp BoolOp.Or (a::b::rest) c) (L2.ub e d)):=⟨sO f.out g.out⟩
theorem U7(h:Bx (PE X e a)):Bx (PO X (some e) (Tj a)):=⟨Hx h.out⟩
theorem Rn:Bx (PO X none L2.Ww):=⟨Hh⟩
theorem Ti{X:Cx}{e:YT}{c:TE}{f d:Option YT}{g b:TO}{a l:VH}{r:V->Option Int->Option Int->Hp->VK->Prop}(h:Li X r)(j:Bx (PE X e c))(k:Bx (PO X f g))(i:Bx (PO X d b)):Bx (PE X (e.Subscript (YT.Slice f d none l) a) (L2.DJ r c g b)):=⟨Ef h j.out k.out i.out⟩
theorem T1 {X:Cx} {b:Scope} {N' own:List Str} {fr:List Nat} {e a iter:YT} {d:List YT} {f:VH} {k:TI} {g:TG} {l:TT} {j:TE} (c:Yv X b N' own fr) (p:X.calm=true) (o:Bx (PI X a iter k)) (n:(∀(h:List (Str×Addr))(C:Addr)(s:Shared)(H:Hp)(i:List Addr),PG (ZL X b N' own h C s H i) a g/\PF (ZL X b N' own h C s H i) d l/\PE (ZL X b N' own h C s H i) e j)) (m:(∀(x:Value),foldedSetIterable iter X.env x=Pure.pure x)):Bx (PE X (e.ListComp [{target:=a,iter:=iter,ifs:=d,is_async:=0}] b f) (L2.Xf k g l j own fr)):=⟨p7 c p o.out n m⟩
theorem V7 {X:Cx} {K:qC} (p:X.K=K) {T:String} {b:Str} {k:String} {r:V->List V->Hp->VK->Prop} {o e:YT} {g:List YT} {m:TE} {t:TA} {d a:VH} (q:PySem.PlainAttrs T) (j:PySem.Slot T b k) (l:PySem.typeOf (Value.builtin k)=Pure.pure (Value.type "method_descriptor")) (s:Lf X k r) (v:Bx (PE X o m)) (n:Bx (PA X (e::g) t)) (f:PySem.attributeBase o b X.env (eval o X.env)=eval o X.env) (i:((((backTo a (Vc (e::g) X.env)).all λ(x:Bool×PySem.Sem Value)=>!x.fst)&&(PySem.backToKw a (PySem.keywordEach [] X.env)).all λ(x:Option Str×PySem.Sem Value)=>x.fst.isSome)&&Decidable.decide (((e::g).length+([]:List Keyword).length+if([]:List Keyword).isEmpty=true then 0 else 1)<30))=true) (h:(d.endLine==a.line)=true) (u:Vc (e::g) X.env=(false,eval e X.env)::Vc g X.env) (c:((backTo a (Vc g X.env)).any λ(x:Bool×PySem.Sem Value)=>x.fst)=false):Bx (PE X ((o.Attribute b d).Call (e::g) [] a) (L2.QD K T r m t)):=⟨NF p q j l s v.out n.out f i h u c⟩
theorem MV {X:Cx} {a b:YT} {d e:TE} {c:VH} {rest:List YT} (f:Bx (PE X a d)) (g:Bx (PE X (YT.BoolOp BoolOp.And (b::rest) c) e)):Bx (PE X (YT.BoolOp BoolOp.And (a::b::rest) c) (L2.Tr d e)):=⟨re f.out g.out⟩
theorem oV:Bx (N2 X a [] [] []):=⟨sL⟩
theorem vJ(h:Bx (PE X k d))(g:Bx (PE X v f))(c:Bx (N2 X a e vs b)):Bx (N2 X a (some k::e) (v::vs) ((d,f)::b)):=⟨vK h.out g.out c.out⟩
theorem XA{X:Cx}{K:qC}(d:X.K=K){c l:YT}{a:TE}(b:Bx (PE X l a)):Bx (PI X c l (L2.Rt K a)):=⟨pH d b.out⟩
theorem Kz{X:Cx}(g:Gl X (Ut "range"))(e:X.mg (Ut "range")=none)(c:Bx (PA X [a] f))(d:Vc [a] X.env=[(false,eval a X.env)]):Bx (PI X h ((YT.Name (Ut "range") p).Call [a] [] b) (L2.S9 f)):=⟨Ip g e c.out d⟩
theorem T2:Bx (PF X [] L2.Qo):=⟨wc⟩
theorem NY:Bx (PE X (YT.Constant Const.none j a) (tC V.non)):=⟨rh⟩
theorem DH:Bx (PE X (YT.Dict [] [] a) L2.Vp):=⟨AB⟩
theorem wJ{a:List (Option YT)}{b:List YT}(h:Bx (N2 X d a b e))(c:(a.all λ(x:Option YT)=>x.isSome)=true)(g:a.length=b.length)(i:a≠[])(f:a.length<=15):Bx (PE X (YT.Dict a b d) (L2.RB e)):=⟨yv h.out c g i f⟩
theorem Qm(h:Bx (PT X c t)):Bx (PF X [c] t):=⟨xg h.out⟩
theorem RY{X:Cx}{o i:YT}(b:X.A.units+1<PySem.cLine)(e:Bx (PE X o g))(f:Bx (PE X i d))(c:L2.LP i):Bx (PE X (o.Subscript i a) (L2.VN g d)):=⟨AU b e.out f.out c⟩
theorem o9(c:Bx (PT X a d)):Bx (PW X (YT.BoolOp BoolOp.And [a] b) d):=⟨Ac c.out⟩
theorem DN {X:Cx} {a b:YT} {c:VH} {e d:TT} {rest:List YT} (f:Bx (PT X a e)) (g:Bx (PW X (YT.BoolOp BoolOp.And (b::rest) c) d)):Bx (PW X (YT.BoolOp BoolOp.And (a::b::rest) c) (L2.Pe e d)):=⟨Br f.out g.out⟩
theorem tX{X:Cx}(e:PySem.PassesOwn (PySem.model X.prog X.w) X.A X.env X.xe)(g:Bx (PT X c d))(f:Bx (W2 X a h)):Bx (PS X (Stmt.While c a [] b) (L2.Vt d h)):=⟨wK e g.out f.out⟩
theorem CK{X:Cx}{a:Stmt}:Bx (PS X a L2.TR):=⟨By⟩
theorem B8{X:Cx}{o i a:YT}{c b:VH}(d:X.A.units+1<PySem.cLine)(g:Bx (PE X o j))(h:Bx (PE X i e))(l:Bx (PE X a k))(f:swapsWith a (some (o.Subscript i b)) c.line X.env=Pure.pure false):Bx (PS X (Stmt.Assign [o.Subscript i b] a c) (L2.RW j e k)):=⟨uz d g.out h.out l.out f⟩
theorem Mu {X:Cx} {b:Scope} {N' own:List Str} {fr:List Nat} {h a iter:YT} {d:List YT} {f:VH} {m:TI} {g:TG} {p:TT} {n:TE} {e o:VH} {i:Nat} {y:Str} (c:Yv X b N' own fr) (u:X.calm=true) (t:Bx (PI X a iter m)) (v:(∀(j:List (Str×Addr))(C:Addr)(s:Shared)(H:Hp)(k:List Addr),PG (ZL X b N' own j C s H k) a g/\PF (ZL X b N' own j C s H k) d p/\PE (ZL X b N' own j C s H k) h n)) (l:swapsWith (h.ListComp [{target:=a,iter:=iter,ifs:=d,is_async:=0}] b f) (some (YT.Name y o)) e.line X.env=Pure.pure true) (q:X.N.Nodup) (r:X.N[i]?=some y) (w:List.lookup y X.env.scope.names=some PySem.NameKind.local) (z:(∀(x:Value),foldedSetIterable iter X.env x=Pure.pure x)):Bx (PS X (Stmt.Assign [YT.Name y o] (h.ListComp [{target:=a,iter:=iter,ifs:=d,is_async:=0}] b f) e) (L2.Vo m g p n own fr i)):=⟨tF c u t.out v l q r w z⟩
theorem MB {X:Cx} {a:VH} (f:Bx (PE X e c)) (h:Bx (PG X b g)) (d:PySem.swapsWithSole [b] e a.line X.env=Pure.pure false) (hw:PySem.swappedStores [b] e X.env=Pure.pure none) (h1:List.map (λ(x:Bool×(Value->PySem.Sem Unit))=>x.snd) (assignEach [b] X.env)=[assign b X.env]):Bx (PS X (Stmt.Assign [b] e a) (Xy c g)):=⟨FS f.out h.out d hw h1⟩
theorem FE {X:Cx} {K:qC} (i:X.K=K) {a b:YT} {g:TA} {p d:VH} {e:List YT} {k:Nat} {c:VH} (m:Gl X (Ut "zip")) (j:X.mg (Ut "zip")=none) (h:Bx (PA X [a,b] g)) (l:Vc [a,b] X.env=(false,eval a X.env)::Vc [b] X.env) (f:((backTo d (Vc [b] X.env)).any λ(x:Bool×PySem.Sem Value)=>x.fst)=false):Bx (PI X (YT.Tuple e k c) ((YT.Name (Ut "zip") p).Call [a,b] [] d) (L2.P7 K g)):=⟨rP i m j h.out l f⟩
theorem vg{X:Cx}{K:qC}(g:X.K=K){a:YT}{e:TA}{p d:VH}{c:List YT}{i:Nat}{b:VH}(k:Gl X (Ut "enumerate"))(h:X.mg (Ut "enumerate")=none)(f:Bx (PA X [a] e))(j:Vc [a] X.env=[(false,eval a X.env)]):Bx (PI X (YT.Tuple c i b) ((YT.Name (Ut "enumerate") p).Call [a] [] d) (L2.WM K e)):=⟨zH g k h f.out j⟩
theorem Wb:Bx (Pt X [] L2.SW):=⟨tj⟩
theorem Yd {X:Cx} (h1:Bx (PG X e t)) (h2:Bx (Pt X a u)) (b:List.map (λ(x:Bool×(Value->PySem.Sem Unit))=>x.snd) (assignEach (e::a) X.env)=assign e X.env::List.map (λ(x:Bool×(Value->PySem.Sem Unit))=>x.snd) (assignEach a X.env)):Bx (Pt X (e::a) (L2.W3 t u)):=⟨uA h1.out h2.out b⟩
theorem We {X:Cx} {K:qC} (e:X.K=K) {a:List YT} {k:Nat} {t:O3} {n:Nat} {b:VH} (f:X.calm=true) (h:Bx (Pt X a t)) (d:(assignEach a X.env).length=n) (c:List.findIdx? (λ(x:Bool×(Value->PySem.Sem Unit))=>x.fst) (assignEach a X.env)=none):Bx (PG X (YT.Tuple a k b) (L2.T4 K n t)):=⟨AY e f h.out d c⟩
theorem IP{r:V->Hp->VK->Prop}(d:L2.DE X (PySem.unaryOp f) r)(c:Bx (PE X a e)):Bx (PE X (YT.UnaryOp f a b) (L2.DF r e)):=⟨Bn d c.out⟩
theorem nF {X:Cx} {a:Scope} {N' own:List Str} {fr:List Nat} {n b iter d e:YT} {f h:List YT} {k:VH} {q l:TI} {g r:TG} {u m:TT} {t:TE} (c:Yv X a N' own fr) (w:X.calm=true) (v:Bx (PI X b iter q)) (y:(∀(i:List (Str×Addr))(C:Addr)(s:Shared)(H:Hp)(j:List Addr),PG (ZL X a N' own i C s H j) b g/\PF (ZL X a N' own i C s H j) f u/\PI (ZL X a N' own i C s H j) d e l/\PG (ZL X a N' own i C s H j) d r/\PF (ZL X a N' own i C s H j) h m/\PE (ZL X a N' own i C s H j) n t)) (z:(∀(x:Value),foldedSetIterable iter X.env x=Pure.pure x)) (p:(∀(o:PySem.Env)(x:Value),foldedSetIterable e o x=Pure.pure x)):Bx (PE X (n.ListComp [{target:=b,iter:=iter,ifs:=f,is_async:=0},{target:=d,iter:=e,ifs:=h,is_async:=0}] a k) (L2.T7 q g u l r m t own fr)):=⟨vp c w v.out y z p⟩
theorem n8{X:Cx}{K:qC}(k:X.K=K){T:String}{a:Str}{g:String}{r:V->List V->Hp->VK->Prop}{o:YT}{i:TE}{b c:VH}(j:PySem.PlainAttrs T)(f:PySem.Slot T a g)(h:PySem.typeOf (Value.builtin g)=Pure.pure (Value.type "method_descriptor"))(l:Lf X g r)(m:Bx (PE X o i))(d:PySem.attributeBase o a X.env (eval o X.env)=eval o X.env)(e:(b.endLine==c.line)=true):Bx (PE X ((o.Attribute a b).Call [] [] c) (L2.Qb K T r i)):=⟨n9 k j f h l m.out d e⟩
theorem E4{X:Cx}(a:X.A.units+1<PySem.cLine)(d:Bx (PE X i b))(c:Bx (PE X o e)):Bx (PC X CmpOp.In i o (L2.PR b e)):=⟨sj a d.out c.out⟩
theorem J0{a b:YT}(h:Bx (PC X c a b t))(h1:behindInMarks c b=false):Bx (PE X (a.Compare [c] [b] d) t):=⟨uL h.out h1⟩
theorem bv{X:Cx}(i:Nat)(c:X.N[i]?=some x:=by rfl)(b:WI X.env.scope x=true:=by rfl)(e:(x==("__debug__":Str))=false:=by decide)
  (a:(x==("__classdict__":Str))=false:=by decide):Bx (PE X (.Name x d) (YR i)):=⟨Nt c (WI.of b) e a⟩
theorem wL{X:Cx}{b a:Pos}(j:Bx (PE X o (YR i)))(n:Bx (PE X k h))(m:Bx (PE X e l))
  (f:∀v,assign (.Subscript o k a) X.env v=(do
   let c <- holding [v] (eval o X.env)
   let d <- holding [v,c] (eval k X.env)
   standAt a
   holding [v,c,d] (setItem c d v)
   release [v,c,d] []))
  (g:swapsWithSole [.Subscript o k a] e b.line X.env=pure false)(hw:swappedStores [.Subscript o k a] e X.env=pure none)(h1:(assignEach [.Subscript o k a] X.env).map (·.2)=[assign (.Subscript o k a) X.env]) :
  Bx (PS X (.Assign [.Subscript o k a] e b) (Xy l (Lz (YR i) h MA))):=⟨FS m.out (xA j.out n.out zv f) g hw h1⟩
def Ej(e:Addr->Prop)(c:Hp)(J:Nat->Prop)(b:St)(D:XU):RT->Prop
 | .nx a=>∀σ H,EnvOk e c a σ H->(∀j,J j->σ[j]?=b[j]?)->D.nx σ H
 | .bk a=>∀σ H,EnvOk e c a σ H->(∀j,J j->σ[j]?=b[j]?)->D.bk σ H
 | .ct a=>∀σ H,EnvOk e c a σ H->(∀j,J j->σ[j]?=b[j]?)->D.ct σ H
 | .rt d fr=>∀v H,Z3 c H->Uc e c d fr v H->D.rt v H
def jX(J:Nat->Prop)(d:TS)(F:SF):Prop:=∀(c:Addr->Prop)(b:Hp)(a:ZY)(σ:St)(H:Hp)(D:XU),EnvOk c b a σ H->∀o,F a=some o->Ej c b J σ D o->d D σ H
section
variable{J:Nat->Prop}
theorem L3(h1:SE g f)(c:¬J i):jX J (Xy g (Y6 i)) (Z1 i f):=by
 intro d m a σ H D h o e q;unfold Z1 at e;obtain⟨r,b,rfl⟩:=qG.mp e;exact h1 d m a σ H h r b _ λv l s n=>q _ l (h.put s n i) λj k=>qY λz=>c (by rw[z];exact k)
end
end L2
namespace HT
open PySem PySem.Spec PyProof.Rows L2
end HT
namespace L2
open PySem PySem.Spec PyProof.Rows
end L2
namespace PySem
open Sem (wp)
end PySem
namespace L2
open PySem PySem.Spec PyProof.Rows
end L2
namespace PySem
open Sem (wp)
end PySem
namespace L2
open PySem PySem.Spec PyProof.Rows
section
variable{X:Cx}
theorem Z5(h1:Bx (PE X e b))(h2:Bx (PA X a t))(h3:Xd e=false:=by rfl):Bx (PA X (e::a) (YW b t)):=ur h1 h2 h3
theorem Zv{x:Str}(D:Dn X.prog X.w X.K X.mg X.base x n k i)(d:Y5 m X.A)(c:Bx (PA X (e::b) t))(g:k<=m:=by decide)(j:Gl X x:=by rfl)(l:(x==("__debug__":Str))=false:=by decide)
  (f:Xd e=false:=by rfl) (h:((backTo a (starEach b X.env)).any λx=>x.1)=false:=by rfl):Bx (PE X (.Call (.Name x p) (e::b) [] a) (X7 i [] E0 t)):=yh D (d.mono g) j c l (XD f) h
theorem YI{x:Str}{p a:Pos}{e:Expr}{b:List Expr}{t:TA}{c:String}{r:List V->Hp->VK->Prop}(j:YQ X (.builtin c) r)(g:X.mg x=none)(i:bootBuiltins x=some (.builtin c))(d:Bx (PA X (e::b) t))(k:Gl X x:=by rfl)(h1:x≠("__name__":Str):=by decide)(h2:(x==("__debug__":Str))=false:=by decide)
  (f:Xd e=false:=by rfl) (h:((backTo a (starEach b X.env)).any λx=>x.1)=false:=by rfl):Bx (PE X (.Call (.Name x p) (e::b) [] a) (QV r t)):=xG j k g i d h1 h2 (XD f) h
theorem Xx{x:Str}{r:List V->Hp->VK->Prop}(i:YQ X (.type T) r)(f:X.mg x=none)(g:bootBuiltins x=some (.type T))(c:Bx (PA X (e::b) t))(j:Gl X x:=by rfl)(h1:x≠("__name__":Str):=by decide)(h2:(x==("__debug__":Str))=false:=by decide)
  (d:Xd e=false:=by rfl) (h:((backTo a (starEach b X.env)).any λx=>x.1)=false:=by rfl):Bx (PE X (.Call (.Name x p) (e::b) [] a) (QV r t)):=o4 i j f g c h1 h2 (XD d) h
theorem XS{a:Pos}(c:X.N.Nodup)(h:X.N[i]?=some x)(k:QN X.env.scope x)(j:Bx (PE X e d))(f:swapsWith e (some (.Name x b)) a.line X.env=pure false:=by rfl)(g:X.fn x=true\/X.env.scope.names.lookup x=some .local:=by exact .inl rfl):Bx (PS X (.Assign [.Name x b] e a) (Xy d (Y6 i))):=Bs c h k j f g
theorem Zg(d:Ou X r)(h1:Bx (PE X a f))(h2:Bx (PE X b g))(e:VE b:=by exact λ_ _=>rfl):Bx (PE X (.Subscript a b c) (Ul r f g)):=xl d h1 h2 e
theorem Wn(a:X.N.Nodup)(d:X.N[i]?=some x)(e:QN X.env.scope x)(c:X.fn x=true\/X.env.scope.names.lookup x=some .local:=by first|exact .inl rfl|exact .inr rfl|assumption):Bx (PG X (.Name x b) (Y6 i)):=rW a d e c
end
def Sk(K:qC)(C:Addr):Bool:=match K.lookup C with
 | some ⟨.type "type",_,.cls b,c⟩=>(match b.mro,c.toList with
  | .ref d::a,[_,_,_,_,some (.builtin n),_]=>d==C&&!b.hasDel&&b.hasDict&&n=="ValueError.__new__"&&a.contains (.type "ValueError")&&a.contains (.type "BaseException")&&!a.contains (.type "AttributeError")&&!a.contains (.type "NameError")
  | _,_=>false)
 | _=>false
theorem oU{K:qC}{h:Heap}(X:K.In h)(q:Sk K C=true):∃nm r N bs b m sub o c k g e i j f,
  h.get? C=some (excClassObj nm r C N bs b true m sub o c k g e i j f "ValueError.__new__")/\(Value.ref C::b).contains (.type "ValueError")=true/\(Value.ref C::b).contains (.type "BaseException")=true/\(Value.ref C::b).contains (.type "AttributeError")=false/\(Value.ref C::b).contains (.type "NameError")=false:=by
 unfold Sk at q;split at q
 ·rename_i k D s B;split at q
  ·rename_i F b g e i j n f t u;simp only[qe,beq_iff_eq,zc]at q;obtain⟨⟨⟨⟨⟨⟨⟨rfl,a⟩,d⟩,rfl⟩,E⟩,A⟩,v⟩,w⟩:=q;obtain⟨nm,bs,x,z,r,G,m,sub,o,c,y⟩:=D;dsimp only at t a d;subst t a d
   have p:s=#[g,e,i,j,some (.builtin "ValueError.__new__"),f]:=by
    obtain⟨l⟩:=s;simp only at u;rw[u]
   subst p;refine⟨nm,r,z,bs,b,m,sub,o,c,k,g,e,i,j,f,X _ _ B,?_,?_,?_,?_⟩
   ·rw[R8,E,Sg]
   ·rw[R8,A,Sg]
   ·rw[R8,v];rfl
   ·rw[R8,w];rfl
  ·cases q
 ·cases q
end L2
namespace PySem
open Sem (wp)
section
variable{prog:Program}{w:World}{A:Around}{E:Value->Shared->Prop}{h:Heap}{g:Array GenState}{d:Drawn}{t:Nat}{os:OsState}
variable{nm q:Str}{C N:Addr}{bs bm:List Value}{sn:List Str}{sub:List Value}{ab:Bool}{col:Option Bool}{dd:Option Addr}{k0 k1 k2 k3 k5:Option Value}
theorem pf{Q:Unit->Shared->Prop}(a:h.get? C=some (excClassObj nm q C N bs bm true sn sub ab col dd k0 k1 k2 k3 k5 "ValueError.__new__"))(c:(Value.ref C::bm).contains (.type "ValueError")=true)
  (b:Q () ⟨h,g,d,t,os⟩):wpAny M A (checkBuiltinCall "ValueError.__new__" ⟨.ref C::rest,[]⟩) Q E ⟨h,g,d,t,os⟩:=by
 have F:=Cz;have e:=F.noStar;simp only[checkBuiltinCall,F.newKind,F.newSplit,F.newRow]
 repeat (first|refine qp a ?_|(refine OO a ?_;rw[c])|refine wpAny_staticBase_exc a ?_|refine wpAny_madeBy_exc a ?_|simp only[bne_self_eq_false,Dx,if_false]|wp_step)
 exact b
theorem AZ{rest:List Value}{R:Result->Shared->Prop}(a:h.get? C=some (excClassObj nm q C N bs bm true sn sub ab col dd k0 k1 k2 k3 k5 "ValueError.__new__"))(c:(Value.ref C::bm).contains (.type "ValueError")=true)(e:(Value.ref C::bm).contains (.type "AttributeError")=false)(f:(Value.ref C::bm).contains (.type "NameError")=false)
  (i:R (.ok (.ret (.ref (h.objs.size+1)))) ⟨(h.push {cls:=.type "tuple",data:=.seq rest.toArray}).push {cls:=.ref C,data:=.fields #[.ref h.objs.size,.none,.none,.none,.bool false,.none]},g,d,t,os⟩) (j:rest.length<=qa) :
  codeAny (model prog w) A (.builtin "ValueError.__new__" ⟨.ref C::rest,[]⟩) R ⟨h,g,d,t,os⟩:=by
 have F:=Cz;have k:=F.ends;refine codeAny_builtinAt F.entry ?_;unfold Builtin.«BaseException.__new__»;refine wpAt_bind ?_;show wpAt _ _ _ (stack >>=_) _ _ _;refine wpAt_bind (wpAt_stack λp b=>wpAt_of_wpAny ?_)
 wp_walk
 refine wpAt_of_wpAny ?_;rw[F.owner]
 repeat (first|with_reducible refine wpAny_madeHere_exc F.canon a ?_|with_reducible refine qp a ?_|(with_reducible refine OO a ?_;first|rw[c]|rw[e]|rw[f])|wp_step)
 show R _ _;rw[QO];exact i
theorem pz{rest:List Value}{n:Obj}{Q:Value->Shared->Prop}(a:h.get? C=some (excClassObj nm q C N bs bm true sn sub ab col dd k0 k1 k2 k3 k5 "ValueError.__new__"))(s:(Value.ref C::bm).contains (.type "ValueError")=true)(u:(Value.ref C::bm).contains (.type "AttributeError")=false)(v:(Value.ref C::bm).contains (.type "NameError")=false)
  (B:W.Looks (model prog w) h (typeLookup (.ref C) "__init__") (some (.ref m)))(j:h.get? m=some n)(f:n.cls=.type "function")(y:rest.length<=qa)
  (z:∀h' e,Heap.MadeExcOf h h' e (.ref C) rest->wpAny (model prog w) (A.under (.builtin "type.__call__" ⟨.ref C::rest,[]⟩)) (call (.ref m) (.ref e::rest)) (λr p=>r=.none/\Q (.ref e) p) E ⟨h',g,d,t,os⟩) :
  wpAny (model prog w) A (call (.ref C) rest) Q E ⟨h,g,d,t,os⟩:=by
 have F:=Cz;have I:=tc_lookup;have H:=tc_bind (.ref C);have J:(⟨h,g,d,t,os⟩:Shared).TypeIs (.ref C) "type":=⟨_,a,rfl⟩;refine Lb (codeAny_of_tree ?_);show wpAny _ _ (callAny (.ref C) _) _ _ _
 repeat (any_goals (first|assumption|with_reducible refine qp a ?_|wp_step))
 refine⟨rfl,?_⟩;refine codeAny_call_builtin_at (u0 _ (by decide +kernel)) entry_typeCall (wpAny_check_type_call_sub a ?_)
 repeat (first|with_reducible refine qp a ?_|with_reducible refine wpAny_madeBy_exc a ?_|wp_step)
 refine codeAny_call_builtin_code (u0 _ F.quiet) (pf a s ?_);refine AZ a s u v ?_ y;show wpAny _ _ _ _ _ _;have c:∀b o,h.get? b=some o->((h.push {cls:=.type "tuple",data:=.seq rest.toArray}).push {cls:=.ref C,data:=.fields #[.ref h.objs.size,.none,.none,.none,.bool false,.none]}).get? b=some o:=λb o e=>qE _ (qE _ e);have i:=c _ _ a;have l:((h.push {cls:=.type "tuple",data:=.seq rest.toArray}).push {cls:=.ref C,data:=.fields #[.ref h.objs.size,.none,.none,.none,.bool false,.none]}).get? (h.objs.size+1)=some {cls:=.ref C,data:=.fields #[.ref h.objs.size,.none,.none,.none,.bool false,.none]}:=by heap_get
 have k:(Value.ref C::bm).contains (.ref C)=true:=by simp
 unfold isInstance
 repeat (first|with_reducible refine qp l ?_|(refine OO i ?_;rw[k])|wp_step)
 show wpAny _ _ (typeLookup (.ref C) _) _ _ _;refine(B.keeps c).here ?_;refine Mp (qF ?_);unfold bindSpecial;refine qF (wpAny_typeOf (T:="function") ⟨_,c _ _ j,f⟩ ?_);rw[if_pos (by decide)];refine qV (qF (TJ (z _ (h.objs.size+1) ⟨c,Ga (Cw _),h.objs.size,l,Ga (qM _),?_⟩) (λr p G=>?_) λ_ _ x=>x))
 ·exact qE _ (Heap.get?_push_at rfl rfl)
 ·obtain⟨rfl,D⟩:=G
  wp_walk
  exact D
end
open Builtin Builtin.ObjectAttr
def Rf:List Value:=[.type "ValueError",.type "Exception",.type "BaseException",.type "object"]
def S4:List Value->Bool
 | .ref _::r=>S4 r
 | l=>l==Rf
theorem lN(c:Value)(b:Str):∀{l:List Value},S4 l=true->refuseLoop c b l=refuseLoop c b Rf
 | [],h=>by cases h
 | v::r,h=>by
  cases v with
  | ref a=>rw[refuseLoop_ref];exact lN c b h
  | _=>rw[eq_of_beq (show(_==Rf)=true from h)]
theorem N3(b:Rf.contains T=true):∀{l:List Value},S4 l=true->l.contains T=true
 | [],h=>by cases h
 | v::r,h=>by
  cases v with
  | ref a=>rw[R8,N3 b (l:=r) h,Sg]
  | _=>rw[eq_of_beq (show(_==Rf)=true from h)];exact b
section
variable{prog:Program}{w:World}{A:Around}{E:Value->Shared->Prop}{h:Heap}{g:Array GenState}{d:Drawn}{t:Nat}{os:OsState}
variable{nm q:Str}{C N x:Addr}{bs bm:List Value}{sn:List Str}{sub:List Value}{ab:Bool}{col:Option Bool}{dd:Option Addr}{k0 k1 k2 k3 k5:Option Value}{newId:String}{name:Str}{v:Value}
theorem y6{o:Obj}{Q:Unit->Shared->Prop}(c:S4 bm=true)
  (b:h.get? C=some (excClassObj nm q C N bs bm true sn sub ab col dd k0 k1 k2 k3 k5 newId))(i:h.get? x=some o)(e:o.cls=.ref C)(f:Q () ⟨h,g,d,t,os⟩) :
  wpAny M A (checkBuiltinCall "object.__setattr__" ⟨[.ref x,nameV,v],[]⟩) Q E ⟨h,g,d,t,os⟩:=by
 have SF:=pD;have a:(Value.ref C::bm).contains (.type "object")=true:=by rw[R8,N3 (by decide) c,Sg]
 have j:=SF.args (.ref x) nameV v;simp only[checkBuiltinCall,SF.kind,SF.split];refine qF ?_
 ·unfold isInstance
  repeat (first|(with_reducible refine qp i ?_;rw[e])|(with_reducible refine OO b ?_;rw[a])|wp_step)
  exact f
theorem sm{Q:Fin->Shared->Prop}{o:Obj}(P:S4 bm=true)
  (X:h.get? C=some (excClassObj nm q C N bs bm true sn sub ab col dd k0 k1 k2 k3 k5 newId))(m:h.get? x=some o)(R:o.cls=.ref C)(F:∀c,o.data≠.cls c)(z:o.dict=none)
  (O:W.Looks (model prog w) h (typeLookup (.ref C) name) none)
  (U:∀j B dx,h.objs.size<=dx->j.Ns1 dx (λy=>if y=name then some v else none)->j.get? x=some {o with dict:=some dx}->
   (∀b o,b≠x->h.get? b=some o->j.get? b=some o)->Q (.done (.ret .none)) ⟨j,g,d,B,os⟩) :
  wpAny (model prog w) A (Builtin.«object.__setattr__» ⟨[.ref x,.str name Y,v],[]⟩) Q E ⟨h,g,d,t,os⟩:=by
 have SF:=pD;have i:refuseLoop (.ref x) "__setattr__" bm=pure ():=by rw[lN _ _ P];exact SF.passes (.ref x)
 unfold Builtin.«object.__setattr__»
 repeat (first|rw[refuse_eq]|(rw[refuseLoop_ref,i])|(with_reducible refine qp m ?_;rw[R])|with_reducible refine wpAny_mroOf_exc X ?_|(with_reducible refine O.here ?_)|wp_step)
 rw[z,if_neg (by simp[typeHasDict])];split
 ·rename_i f;cases f
 split
 ·rename_i c f;exact absurd f (F c)
 ·have a:(h.push {cls:=.type "dict",data:=.dict #[]}).get? x=some o:=qE _ m;have l:x≠h.objs.size:=qt (qJ m);refine qF (wpAny_alloc' ?_);refine qF (wpAny_update' a ?_);refine qV ?_
  have p:((h.push {cls:=.type "dict",data:=.dict #[]}).update x λo=>{cls:=o.cls,dict:=some h.objs.size,data:=o.data,slots:=o.slots}).get? h.objs.size
    = some {cls:=.type "dict",data:=.dict #[]}:=
   (j3 _ _ _ _ l.symm).trans (Heap.get?_push_at rfl rfl)
  have I:((h.push {cls:=.type "dict",data:=.dict #[]}).update x λo=>{cls:=o.cls,dict:=some h.objs.size,data:=o.data,slots:=o.slots}).Ns h.objs.size (λ_=>none):=
   ⟨_,#[],_,p,rfl,λe M=>absurd M (by simp),λ_=>rfl⟩
  show wpAny _ _ (storeInDict h.objs.size (.str name Y) name v) _ _ _;unfold storeInDict newKeyGuard;refine qF (qV (qF (wpAny_nsSet1EFk (Heap.Ns1.of_empty I) λj k L n=>?_)));obtain⟨oD,Z,S,s,G,u⟩:=k.count (Within.cons name v Within.nil);refine qF (wpAny_lookBehind s (by rw[G];exact pastItsLine_dict (WT u (by rw[qu,N8,QP];omega))) ?_)
  wp_walk
  refine U j _ h.objs.size (qM _) k ?_ (λb ob r J=>?_)
  ·refine(L.2 x l).trans (Om _ a ?_);have H:=(Heap.get?_some_iff.mp m).2;obtain⟨oc,od,D,T⟩:=o;cases D<;>first|rfl|exact H
  ·exact(L.2 b (qt (qJ J))).trans ((j3 _ _ _ _ r).trans (qE _ J))
theorem zQ{Q:Unit->Shared->Prop}{o:Obj}(l:S4 bm=true)
  (k:h.get? C=some (excClassObj nm q C N bs bm true sn sub ab col dd k0 k1 k2 k3 k5 newId))(j:h.get? x=some o)(i:o.cls=.ref C)(e:∀c,o.data≠.cls c)(f:o.dict=none)
  (n:W.Looks (model prog w) h (typeLookup (.ref C) "__setattr__") (some (.builtin "object.__setattr__")))(z:W.Looks (model prog w) h (typeLookup (.ref C) name) none)
  (s:∀h' a dx,h.objs.size<=dx->h'.Ns1 dx (λy=>if y=name then some v else none)->h'.get? x=some {o with dict:=some dx}->
   (∀b o,b≠x->h.get? b=some o->h'.get? b=some o)->Q () ⟨h',g,d,a,os⟩) :
  wpAny (model prog w) A (setAttr (.ref x) name v) Q E ⟨h,g,d,t,os⟩:=by
 have SF:=pD;have B:=SF.slot.bind (.ref x);unfold setAttr callSpecial? specialOf
 repeat (any_goals (first|assumption|(with_reducible refine qp j ?_;rw[i])|(with_reducible refine n.here ?_)|wp_step))
 refine EB SF.slot.plain SF.entry (y6 l k j i (sm l k j i e f z λh' a dx p u m r=>?_))
 repeat (any_goals (first|assumption|wp_step))
 exact s h' a dx p u m r
theorem rT{Q:Value->Shared->Prop}{o:Obj}{l:Str->Option Value}(u:S4 bm=true)
  (m:h.get? C=some (excClassObj nm q C N bs bm true sn sub ab col dd k0 k1 k2 k3 k5 newId))(b:h.get? x=some o)(c:o.cls=.ref C)(G:o.data=.fields vs)(e:o.dict=some dx)
  (j:h.Ns dx l)(I:l name=some v)
  (r:W.Looks (model prog w) h (typeLookup (.ref C) "__getattribute__") (some (.builtin "BaseException.__getattribute__")))(p:W.Looks (model prog w) h (typeLookup (.ref C) "__getattr__") none)(s:W.Looks (model prog w) h (typeLookup (.ref C) name) none)
  (H:W.handedIn v=true)(D:∀i,Q v ⟨h,g,d,i,os⟩) :
  wpAny (model prog w) A (getAttr (.ref x) name expr) Q E ⟨h,g,d,t,os⟩:=by
 have z:builtinKind "BaseException.__getattribute__"=some .slot:=by decide +kernel
 have a:splitId "BaseException.__getattribute__"=some ("BaseException","__getattribute__"):=by decide +kernel
 have k:(Value.ref C::bm).contains (.type "BaseException")=true:=by rw[R8,N3 (by decide) u,Sg]
 have B:(expr&&onTheHeap (Value.builtin "BaseException.__getattribute__"))=false:=by cases expr<;>rfl
 have f:(Value.builtin "BaseException.__getattribute__"==Value.builtin "object.__getattribute__")=false:=by decide +kernel
 have y:(onTheHeap (Value.ref C)&&Value.builtin "BaseException.__getattribute__"==Value.builtin "object.__getattribute__")=false:=by rw[f];rfl
 have n:=F.attr_ValueError;have L:=n.ga.bind (.ref x);have J:=F.args_bexc_ga (.ref x);unfold getAttr getAttrBy
 repeat (any_goals (first|assumption|(with_reducible refine qp b ?_;rw[c])|(with_reducible refine r.here ?_)|(with_reducible refine p.here ?_)|wp_step))
 refine EB n.ga.plain F.entry_bexc_ga ?_;simp only[checkBuiltinCall,z,a];refine qF ?_;unfold isInstance
 repeat (first|(with_reducible refine qp b ?_;rw[c])|(with_reducible refine OO m ?_;rw[k])|wp_step)
 repeat (any_goals (first|assumption|(with_reducible refine qp b ?_;rw[c])|(with_reducible refine s.here ?_)|wp_step))
 rw[G];dsimp only;unfold instanceDict
 repeat (any_goals (first|assumption|(with_reducible refine qp b ?_;rw[c])|(with_reducible refine qp m ?_)|wp_step))
 rw[e];dsimp only;refine qV ?_;unfold inDict;refine wpAny_nsGet j ?_;rw[I];dsimp only
 repeat (any_goals (first|assumption|wp_step))
 show wpAny _ _ (handedOut v) _ _ _;rw[W.handedOut_of H];exact qV (D _)
theorem BF{Q:Value->Shared->Prop}{o:Obj}{vs:Array Value}{rest:List Value}(u:S4 bm=true)(J:rest.length<=qa)
  (r:h.get? C=some (excClassObj nm q C N bs bm true sn sub ab col dd k0 k1 k2 k3 k5 newId))(m:h.get? x=some o)(y:o.cls=.ref C)(i:o.data=.fields vs)(s:0<vs.size)
  (D:∀h' p,h'.get? x=some {o with data:=.fields (vs.setIfInBounds 0 (.ref p))}->(∀b o,b≠x->h.get? b=some o->h'.get? b=some o)->Q .none ⟨h',g,d,t,os⟩) :
  wpAny (model prog w) A (call (.builtin "ValueError.__init__") (.ref x::rest)) Q E ⟨h,g,d,t,os⟩:=by
 have F:=Cz;have l:(Value.ref C::bm).contains (.type "ValueError")=true:=by rw[R8,N3 (by decide) u,Sg]
 have j:=F.noStar;refine Lb (EB F.init.plain F.initEntry ?_);simp only[checkBuiltinCall,F.initKind,F.initSplit,F.initRow]
 repeat (first|(with_reducible refine qp m ?_;rw[y])|with_reducible refine qp r ?_|(with_reducible refine OO r ?_;rw[l])|wp_step)
 refine Jj ?_
 rw[show ∀(a b:String)(n:Nat),Bind.check ⟨.positional,"*","ValueError",.self,[⟨"args",.varPos,false⟩]⟩ a b n (List.map (λx=>x.fst) ({pos:=Value.ref x::rest}:Args).kw)=pure ()from
  λa b n=>check_star_args _ _ _ _ _ _]
 refine qV ?_;unfold Builtin.«BaseException.__init__»
 repeat (any_goals (first|assumption|wp_step))
 rw[i];dsimp only;refine qV ?_;rw[Array.getElem?_eq_getElem s];dsimp only;refine qV (qF ?_);have f:(h.push {cls:=.type "tuple",data:=.seq rest.toArray}).get? x=some o:=qE _ m;refine LZ f i s ?_
 have k:Q .none ⟨(h.push {cls:=.type "tuple",data:=.seq rest.toArray}).update x (Obj.mapFields (·.setIfInBounds 0 (Value.ref h.objs.size))),g,d,t,os⟩:=by
  refine D _ h.objs.size ?_ λb I B e=>by rw[P5 _ _ (Xs B)];exact qE _ e
  have c:=QE i (·.setIfInBounds 0 (Value.ref h.objs.size));rw[Om _ f (Lk c)];unfold Obj.mapFields;obtain⟨H,L,G,z⟩:=o;cases i;rfl
 cases vs[0]<;>(repeat (any_goals (first|exact k|assumption|wp_step)))
end
def Heap.Tb(h:Heap)(T:Addr):Prop:=∃a b,h.get? T=some a/\a.data=.fields b/\b[3]?=some .none
section
variable{M:Model}{A:Around}{E:Value->Shared->Prop}{s:Shared}{base:Heap}{env:Env}{outer:List Env}{L e:Addr}{oe:Obj}{vs:Array Value}
theorem zA{o:Obj}(c:o.data=.fields vs)(f:Array Value->Array Value):Obj.mapFields f o={o with data:=.fields (f vs)}:=by
 unfold Obj.mapFields;obtain⟨d,g,b,a⟩:=o;cases c;rfl
theorem ji{Q:Unit->Shared->Prop}
  (F:A.frames=some (env::outer))(H:s.heap.FunFrames base (env::outer))(J:env.frame=some L)(G:s.heap.get? e=some oe)(y:oe.data=.fields vs)(u:1<vs.size)
  (O:∀v T,s.heap.objs.size<=T->T≠e->(∀b o,b≠e->b∉(env::outer).filterMap (·.frame)->s.heap.get? b=some o->v.get? b=some o)->
   (∀b o,b≠e->s.heap.get? b=some o->∃z,v.get? b=some {o with slots:=z})->v.get? e=some {oe with data:=.fields (vs.setIfInBounds 1 (.ref T))}->v.Tb T->Q () {s with heap:=v}) :
  wpAny M A (do let a <- frameOf env;let m <- entryPlaceOf L hadNext;let b <- EntryCells.newEntry head a .none (rawInt L) .none m;setField (.ref e) 1 b) (λ_ R=>wpAny M A (setFlight (.ref e) none) Q E R) E s:=by
 have t:e∉(env::outer).filterMap (·.frame):=λN=>by
  obtain⟨_,o,n,D⟩:=H.mem N;rw[G]at n;injection n with n;subst n;exact D vs y
 refine qF (wpAny_frameOf_fun F H J λc d=>?_);refine qF (wpAny_entryPlaceOf λm w=>?_);unfold EntryCells.newEntry newFields;refine qF (B2 ?_ (w.sizeOk5 _ _ _ _ _));have j:c.get? e=some oe:=(d.2.1 e t).trans G;have i:=qE (h:=c) {cls:=.type "traceback",dict:=none,data:=.fields ([head,.ref L,.none,rawInt L,.none]++(if m.isEmpty then List.replicate 6 Value.none else m)).toArray} j;refine LZ i y u ?_;have q:c.objs.size≠e:=O0 (qJ j);have l:=QE y (·.setIfInBounds 1 (Value.ref c.objs.size));have k:=Om (Obj.mapFields (·.setIfInBounds 1 (Value.ref c.objs.size))) i (Lk l)
 have g:=(P5 (c.push {cls:=.type "traceback",dict:=none,data:=.fields ([head,.ref L,.none,rawInt L,.none]++(if m.isEmpty then List.replicate 6 Value.none else m)).toArray})
  (Obj.mapFields (·.setIfInBounds 1 (Value.ref c.objs.size))) (Xs q)).trans (qd c rfl)
 unfold setFlight;refine qF (Vh k l (x:=.ref c.objs.size) (by simp[u]) ?_);rw[if_pos (show(Value.ref c.objs.size != Value.none)=true from by simp)];refine LZ g rfl (by simp only[qO,qU,qu,N8]<;>omega) ?_
 have p:∀b o,b≠e->c.get? b=some o->
   (((c.push {cls:=.type "traceback",dict:=none,data:=.fields ([head,.ref L,.none,rawInt L,.none]++(if m.isEmpty then List.replicate 6 Value.none else m)).toArray}).update e (Obj.mapFields (·.setIfInBounds 1 (Value.ref c.objs.size)))).update c.objs.size
    (Obj.mapFields (·.setIfInBounds 3 ((none:Option Addr).elim Value.none λf=>rawInt f)))).get? b=some o:=λb o B r=>by
  have C:c.objs.size≠b:=O0 (qJ r);rw[P5 _ _ C,P5 _ _ (Xs B)];exact qE _ r
 refine O _ c.objs.size (Nat.le_of_eq d.1.symm) q (λb o r I n=>p b o r ((d.2.1 b I).trans n)) (λb o r n=>?_) ?_ ?_
 ·obtain⟨z,P⟩:=d.2.2 b o n;exact⟨z,p b _ r P⟩
 ·rw[P5 _ _ q,k,zA y]
 ·exact⟨_,_,Om _ g (Lk (QE rfl _)),QE rfl _,by first|(simp;done)|(rcases w with rfl|⟨_,_,_,_,_,_,_,rfl⟩<;>simp)⟩
theorem sC{Q:Unit->Shared->Prop}
  (i:A.frames=some (env::outer))(F:s.heap.FunFrames base (env::outer))(w:env.frame=some L)(k:s.heap.get? e=some oe)(r:oe.data=.fields vs)
  (h1:vs[1]?=some .none\/∃T,vs[1]?=some (.ref T)/\T≠e/\s.heap.Tb T)
  (H:∀d T,s.heap.objs.size<=T->T≠e->(∀b o,b≠e->vs[1]?≠some (.ref b)->b∉(env::outer).filterMap (·.frame)->s.heap.get? b=some o->d.get? b=some o)->
   (∀b o,b≠e->vs[1]?≠some (.ref b)->s.heap.get? b=some o->∃C,d.get? b=some {o with slots:=C})->(∀b,vs[1]?=some (.ref b)->d.Tb b)->
   d.get? e=some {oe with data:=.fields (vs.setIfInBounds 1 (.ref T))}->d.Tb T->Q () {s with heap:=d}) :
  wpAny M A (noteFrame (.ref e) env) (λ_ s'=>wpAny M A (setFlight (.ref e) none) Q E s') E s:=by
 unfold noteFrame;simp only[w];rcases h1 with h1|⟨T,h1,j,O,I,m,c,D⟩
 ·refine(qF (Vh k r h1 ?_));rw[if_neg (by decide)];exact ji i F w k r (Lh.mp h1).1 λd T p B t l x v=>H d T p B (λb o q _=>t b o q) (λb o q _=>l b o q) (λb q=>by rw[h1]at q;cases q) x v
 ·refine(qF (Vh k r h1 ?_));rw[if_pos (show(Value.ref T != Value.none)=true from by simp)];refine qF (Vh m c D ?_);rw[if_neg (show ¬((Value.none==rawInt L)=true)from by simp[rawInt])];have g:=(Lh.mp D).1;refine qF (LZ m c g ?_);have a:∀b,b≠T->(s.heap.update T (Obj.mapFields (·.setIfInBounds 3 Value.none))).get? b=s.heap.get? b:=λb f=>P5 _ _ (Xs f);have u:=Om (Obj.mapFields (·.setIfInBounds 3 Value.none)) m (Lk (QE c _))
  have noRecord:∀b o,s.heap.get? b=some o->(∀vs,o.data≠.fields vs)->b≠T:=λb o f h q=>by
   rw[q,m]at f;injection f with f;subst f;exact h I c
  have G:∀{b:Addr},vs[1]?≠some (.ref b)->b≠T:=λq z=>q (by rw[h1,z]);refine ji i (F.of_keeps λb o f h=>⟨o,(a b (noRecord b o f h)).trans f,rfl⟩) w ((a e (Xs j)).trans k) r (Lh.mp h1).1 λd J p B t l x v=>?_;refine H d J (by rw[Heap.size_update]at p;exact p) B (λb o q n z y=>t b o q z ((a b (G n)).trans y)) (λb o q n y=>l b o q ((a b (G n)).trans y)) (λb q=>?_) x v;rw[h1]at q;cases q;obtain⟨C,N⟩:=l T _ j u;exact⟨_,_,N,QE c _,by simp[g]⟩
theorem zY{Q:Unit->Shared->Prop}(i:s.heap.get? e=some oe)(k:oe.data=.fields vs)(h1:vs[1]?=some (.ref T))(d:s.heap.Tb T)
  (f:∀h',(∀b o,b≠T->s.heap.get? b=some o->h'.get? b=some o)->h'.Tb T->Q () {s with heap:=h'}):wpAny M A (setFlight (.ref e) none) Q E s:=by
 obtain⟨m,l,d,c,j⟩:=d;have a:=(Lh.mp j).1;unfold setFlight;refine qF (Vh i k h1 ?_);rw[if_pos (show(Value.ref T != Value.none)=true from by simp)];refine LZ d c a (f _ (λb o g h=>by rw[P5 _ _ (Xs g)];exact h) ?_);exact⟨_,_,Om _ d (Lk (QE c _)),QE c _,by simp[a]⟩
end
end PySem
namespace L2
open PySem PySem.Spec PyProof.Rows
def Wu(e C dx:Addr)(b:Value)(h:Heap):Prop:=∃vs a,h.get? e=some {cls:=.ref C,dict:=some dx,data:=.fields vs,slots:=a}/\vs[1]?=some b
theorem Wu.stay(h1 h2:Heap)(h:Wu e C dx c h1)(k:∀o,h1.get? e=some o->h2.get? e=some o):Wu e C dx c h2:=
 let⟨vs,sl,a,b⟩:=h;⟨vs,sl,k _ a,b⟩
theorem AL(h1 h2:Heap)(h:h1.Tb T)(k:∀o,h1.get? T=some o->h2.get? T=some o):h2.Tb T:=
 let⟨oT,ts,a,b⟩:=h;⟨oT,ts,k _ a,b⟩
theorem E6(q:Wu e C dx d h):XE P w H h e (.ext (Wu e C dx d)):=
 ⟨q,let⟨_,_,a,_⟩:=q;⟨_,a⟩,λc b=>Wu.stay c b⟩
theorem Lr{h:Heap}(q:h.Tb T):XE P w H h T (.ext λh=>h.Tb T):=
 ⟨q,let⟨_,_,a,_⟩:=q;⟨_,a⟩,λc b=>AL c b⟩
theorem XE.there{h:Heap}(x:XE P w H h a o):∃b,h.get? a=some b:=by
 cases o with
 | lst d=>obtain⟨_,_,_,_,e⟩:=x;exact⟨_,e⟩
 | tup d=>obtain⟨_,_,_,b,e,_⟩:=x;exact⟨_,e⟩
 | dK c=>obtain⟨_,_,_,_,o,_,_,e,_⟩:=x;exact⟨_,e⟩
 | dT c=>obtain⟨_,_,_,_,o,_,_,e,_⟩:=x;exact⟨_,e⟩
 | set S n=>obtain⟨o,_,_,_,e,_⟩:=x;exact⟨_,e⟩
 | ins C dx fs=>obtain⟨_,_,_,e,_⟩:=x;exact⟨_,e⟩
 | own y=>exact x
 | xd fs=>obtain⟨_,⟨_,_,_,e,_⟩,_⟩:=x;exact⟨_,e⟩
 | rng i g=>obtain⟨_,_,_,e⟩:=x;exact⟨_,e⟩
 | frz b u=>obtain⟨e,_⟩:=x;exact⟨_,e⟩
 | tbl j=>exact⟨_,x⟩
 | tabO q=>obtain⟨_,e,_⟩:=x;exact⟨_,e⟩
 | met f y=>exact⟨_,x⟩
 | ext φ=>exact x.2.1
theorem Yt.no{h:Heap}(x:Yt P w H h)(n:h.get? a=none):H a=none:=by
 cases q:H a with
 | none=>rfl
 | some u=>obtain⟨b,z⟩:=(x a u q).there;rw[n]at z;cases z
def OI(H a:Hp):Prop:=∀b o,H b=some o->(∀φ,o≠.ext φ)->a b=some o
def OH(H0:Hp)(E:XK):XK:=λc dx d=>∀a,(∀b o,H0 b=some o->d b=some o->a b=some o)->OI d a->E c dx a
structure N1(h:Heap)(H':Hp)(e C dx:Addr):Prop where
 new:h.get? e=none
 st:∃tv,H' e=some (.ext (Wu e C dx tv))/\(tv=.none\/∃T,tv=.ref T/\T≠e/\h.get? T=none/\H' T=some (.ext λh=>h.Tb T))
def W6(P:Program)(w:World):Uq:=λa H s E e s'=>∃c C dx b,e=.ref c/\s'.os=s.os/\AllBare s'.gens/\Un (VR a) [] H b s.heap s'.heap/\Yt P w b s'.heap/\N1 s.heap b c C dx/\OH H E (.ref C) (some dx) b
section
variable{X:Cx}{pins:List (Addr×Obj)}{σ:St}{H1:Hp}{s:Shared}{e C dx:Addr}{E:Value->Shared->Prop}
theorem Ha{l:Heap}{Q:Unit->Shared->Prop}(I:Inv X pins σ H1 s)(j:X.stack=X.env::X.outer)(U:X.env.frame=some X.env.locals)(hz:∀b r,l.get? b=some r->∃o',s.heap.get? b=some o')(F:N1 l H1 e C dx)
  (k:∀s' g,Inv X pins σ g s'->(∃T,g e=some (.ext (Wu e C dx (.ref T)))/\T≠e/\l.get? T=none/\g T=some (.ext λh=>h.Tb T))->
   (∀b o r,l.get? b=some r->H1 b=some o->g b=some o)->OI H1 g->(s.heap.objs.size<=s'.heap.objs.size)->Q () s') :
  wpAny (model X.prog X.w) X.A (noteFrame (.ref e) X.env) (λ_ s'=>wpAny (model X.prog X.w) X.A (setFlight (.ref e) none) Q E s') E s:=by
 obtain⟨tv,H,Z⟩:=F.st;obtain⟨⟨vs,sl,oe,J⟩,_,_⟩:=I.hok e _ H;have S:∀b,b∈(X.env::X.outer).filterMap (·.frame)->H1 b=none:=λb i=>I.stkFree b (by unfold VR;rw[j];exact i);have O:tv=.none\/∃T,tv=.ref T/\T≠e/\s.heap.Tb T:=Z.imp id λ⟨T,a,b,c,d⟩=>⟨T,a,b,(I.hok T _ d).1⟩;refine sC (base:=X.base) (L:=X.env.locals) (by rw[<- j];exact I.ok.frames) (by rw[<- j];exact I.stack) U oe rfl (O.imp (λz=>by rw[J,z]) λ⟨T,a,b,c⟩=>⟨T,by rw[J,a],b,c⟩) λG T N a2 W a4 a5 a6 a7=>?_;have Y:H1 T=none:=I.hok.fresh N
 have P:∀b,vs[1]?=some (.ref b)->H1 b=some (.ext λh=>h.Tb b)/\b≠e/\l.get? b=none:=λb q=>by
  rw[J]at q;rcases Z with z|⟨T0,z,b1,c1,d1⟩
  ·rw[z]at q;cases q
  ·rw[z]at q;cases q;exact⟨d1,b1,c1⟩
 let g:Hp:=upd (upd H1 T (.ext λh=>h.Tb T)) e (.ext (Wu e C dx (.ref T)))
 have M:∀b,b≠e->b≠T->g b=H1 b:=λb q z=>by show upd _ _ _ b=_;rw[Y0 q,Y0 z]
 have B:g e=some (.ext (Wu e C dx (.ref T))):=Yr;have D:g T=some (.ext λh=>h.Tb T):=by show upd _ _ _ T=_;rw[Y0 a2,Yr]
 have f:∀b o,H1 b=some o->(∀φ,o≠.ext φ)->g b=some o:=λb o q n=>by
  rw[M b (λz=>by rw[z,H]at q;cases q;exact n _ rfl) (λz=>by rw[z,Y]at q;cases q)];exact q
 have kp:∀b o,H1 b=some o->b≠e->vs[1]?≠some (.ref b)->∀u,s.heap.get? b=some u->G.get? b=some u:=λb o q n n2 u z=>W b u n n2 (λm=>by rw[S b m]at q;cases q) z;have v:1<vs.size:=(Lh.mp J).1
 have R:Yt X.prog X.w g G:=λb o q=>by
  by_cases i:b=e
  ·subst i;rw[B]at q;cases q;exact E6 ⟨_,_,a6,by rw[Array.getElem?_setIfInBounds_self_of_lt v]⟩
  ·by_cases hbT:b=T
   ·subst hbT;rw[D]at q;cases q;exact Lr a7
   ·rw[M b i hbT]at q;by_cases hv:vs[1]?=some (.ref b)
    ·rw[(P b hv).1]at q;cases q;exact Lr (a5 b hv)
    ·refine(I.hok b o q).stay (λc u p z=>?_) (λc z=>f c _ z (λφ y=>by cases y)) (λc xs z=>f c _ z (λφ y=>by cases y)) (λc o2 z=>f c _ z (λφ y=>by cases y));rcases p with rfl|p
     ·exact kp c o q i hv u z
     ·exact kp c _ p (λy=>by rw[y,H]at p;cases p) (λy=>by rw[(P c y).1]at p;cases p) u z
 have un:Un (VR X.stack) [] H1 g s.heap G:=by
  have t:∀b,H1 b=none->b≠e/\vs[1]?≠some (.ref b):=λb n=>⟨λy=>(by rw[y,H]at n;cases n),λy=>(by rw[(P b y).1]at n;cases n)⟩;have x:∀b,b∈VR X.stack↔b∈(X.env::X.outer).filterMap (·.frame):=λb=>by unfold VR;rw[j]
  refine⟨λb o q n i _=>W b o (t b n).1 (t b n).2 (λm=>i ((x b).mpr m)) q,λb o q n i _=>a4 b o (t b n).1 (t b n).2 q,λb o q n _=>?_,λb o q _=>?_,λb xs q=>f b _ q (λφ y=>by cases y),λb o u q=>f b _ q (λφ y=>by cases y),λb ps q=>⟨#[],by rw[f b _ q (λφ y=>by cases y)];simp⟩⟩
  ·rw[M b (t b n).1 (λy=>by rw[y]at q;exact absurd (qJ q) (CH.mpr N))];exact n
  ·by_cases i:b=e
   ·exact⟨_,by rw[i];exact a6⟩
   ·by_cases hv:vs[1]?=some (.ref b)
    ·obtain⟨oT,_,z,_⟩:=a5 b hv;exact⟨oT,z⟩
    ·obtain⟨sl,z⟩:=a4 b o i hv q;exact⟨_,z⟩
 have n0:l.get? T=none:=by
  cases y:l.get? T with
  | none=>rfl
  | some r=>obtain⟨o',z⟩:=hz T r y;exact absurd (qJ z) (CH.mpr N)
 have hs:s.heap.objs.size<=G.objs.size:=KB (LM N (let⟨_,_,z,_⟩:=a7;qJ z));refine k _ g (I.call' (s':={s with heap:=G}) rfl un R I.bare (λb z=>absurd z (by simp))) ⟨T,B,a2,n0,D⟩ (λb o r q z=>?_) f hs;rw[M b (λy=>by rw[y,F.new]at q;cases q) (λy=>by rw[y,Y]at z;cases z)];exact z
theorem EU{c:Heap}{Q:Unit->Shared->Prop}(I:Inv X pins σ H1 s)(i:X.stack=X.env::X.outer)(g:X.env.frame=some X.env.locals)(j:∀b d,c.get? b=some d->∃l,s.heap.get? b=some l)(F:N1 c H1 e C dx)
  (k:∀f a,Inv X pins σ a f->(∃T,a e=some (.ext (Wu e C dx (.ref T)))/\T≠e/\c.get? T=none/\a T=some (.ext λh=>h.Tb T))->
   (∀b o d,c.get? b=some d->H1 b=some o->a b=some o)->OI H1 a->(s.heap.objs.size<=f.heap.objs.size)->Q () f) :
  wpAny (model X.prog X.w) X.A (leaving X.env (.ref e)) Q E s:=by
 unfold leaving;exact qF (Ha I i g j F k)
end
theorem E8{P:Program}{w:World}{K:qC}{i:Str->Option Value}{base:Heap}{N:List Str}{d:Str}{c:Scope}{f:Addr}{m:Value}{A:Around}{a:List Env}{s:Shared}{H:Hp}{E:XK}
  {g:List (Addr×Obj)}{σ:St}{k:Hp}{t:Shared}{e C dx:Addr}(I:Inv (X0 (W6 P w) P w K i base N d c f m A a s H E) g σ k t)(j:Yt P w H s.heap)(F:N1 s.heap k e C dx)(q:OH H E (.ref C) (some dx) k) :
  (X0 (W6 P w) P w K i base N d c f m A a s H E).xe (.ref e) t:=by
 refine EU (X:=X0 (W6 P w) P w K i base N d c f m A a s H E) I rfl rfl (λb l z=>I.base.there b l z (λy=>absurd (show b∈([]:List Addr)from y) (by simp))) F λL u h p D x _=>?_;refine⟨e,C,dx,u,rfl,h.os,h.bare,h.base,h.hok,⟨F.new,_,p.choose_spec.1,.inr ⟨_,rfl,p.choose_spec.2⟩⟩,λv J G=>q v (λb o r B=>?_) (λb o z n=>G b o (x b o z n) n)⟩;obtain⟨l,y⟩:=(j b o r).there;exact J b o r (D b o l y B)
theorem KC{P:Program}{w:World}{K:qC}{x:Str->Option Value}{base:Heap}{N:List Str}{j:Str}{d:Scope}{f:Addr}{G:Value}{A:Around}{c:List Env}{s:Shared}{H:Hp}{E:XK}(k:Yt P w H s.heap) :
  zxj (W6 P w) (X0 (W6 P w) P w K x base N j d f G A c s H E) (OH H E):=by
 intro r σ L o e v I h;obtain⟨J,C,dx,u,rfl,B,i,un,ok,F,q⟩:=h;have t:=I.call' (s':=v) B un ok i (λb z=>absurd z (by simp))
 have l:∀b g,s.heap.get? b=some g->∃p,o.heap.get? b=some p:=λb g z=>I.base.there b g z (λy=>absurd (show b∈([]:List Addr)from y) (by simp))
 have m:∀b,o.heap.get? b=none->s.heap.get? b=none:=λb z=>by
  cases y:s.heap.get? b with
  | none=>rfl
  | some g=>obtain⟨p,n⟩:=l b g y;rw[z]at n;cases n
 refine E8 t k ⟨m _ F.new,?_⟩ (q u (λ_ _ _ z=>z) (λ_ _ z _=>z));obtain⟨D,a,b⟩:=F.st;exact⟨D,a,b.imp id λ⟨T,x1,x2,x3,x4⟩=>⟨T,x1,x2,m _ x3,x4⟩⟩
theorem Mb{CX:Uq}{P:Program}{w:World}{K:qC}{F:Str->Option Value}{base:Heap}{x c:Str}{m:Stmt}{f:Addr}{L:Xl}{N C:List Str}{k:Nat}{B:Sp}(Y:Yw K x c m f L)(S:ZW N C (YU m))(len:∀vs H Q E,B vs H Q E->vs.length=C.length)
  (g:∀(d:Value)(A:Around)(a:List Env)(s:Shared)(H:Hp)(vs:List V)(Q:VK)(E:XK),Y5 k (A.deeper (envOfC c (YU m) s.heap.objs.size f d))->Yt P w H s.heap->B vs H Q E->
   ∃t,W2 (X0 CX P w K F base N c (YU m) f d A a s H E) (Vi m) t/\t {nx:=λ_ j=>Q .non j,rt:=Q} (start N vs) H):Zu P w K F base CX (k+1) f L C B:=by
 refine⟨len,λA a s H D us vs Q E y h hb r l=>?_⟩;obtain⟨oc,od,kV,R,pm,an,d,ct,a0,rfl,M,z⟩:=Y.ex;have G:K.In s.heap:=h.mod.kin.keeps λb o e=>(h.bs b o e).1;refine CQ y.depth (G _ _ M) rfl S.co S.gen rfl (Cn G z) (hb _ _ _ _ (Dg S.kind (λ⟨n,v⟩ hy=>?_) λT W Z x=>?_))
 ·rcases S.par n (Qh hy).1 with q|q
  ·exact .inl q
  ·exact .inr ⟨q,Hu _ _ _ (.inl q)⟩
 ·subst W;obtain⟨t,U,hq⟩:=g d A a s H vs Q E (y.deeper _) h.hok l;have I:=Ce (CX:=CX) (E:=E) S y.hd h (len _ _ _ _ l) r x;refine⟨(h.mod.nolimit.keeps λb o e=>(h.bs b o e).1).keeps x.toInCall.keep,CG (TJ (U [] Z (start N vs) H _ I hq) (λX s' i=>?_) λe s' i=>i)⟩
  cases X with
  | ret u=>obtain⟨v,p,j,J,O,q⟩:=i;exact⟨v,j,J.os,J.bare,J.base,J.hok,O,q⟩
  | next=>obtain⟨p,j,J,q⟩:=i;exact⟨.non,j,J.os,J.bare,J.base,J.hok,rfl,q⟩
  | brk=>obtain⟨_,_,_,q⟩:=i;exact q.elim
  | cont=>obtain⟨_,_,_,q⟩:=i;exact q.elim
def D7(K:qC)(C:Addr):Bool:=match K.lookup C with
 | some ⟨_,_,.cls b,_⟩=>(match b.mro with|_::a=>S4 a|_=>false)
 | _=>false
theorem Oq{K:qC}{h:Heap}(X:K.In h)(q:Sk K C=true)(f:D7 K C=true):∃nm o N bs d j sub m c i k n l p g,
  h.get? C=some (excClassObj nm o C N bs d true j sub m c i k n l p g "ValueError.__new__")/\S4 d=true/\(Value.ref C::d).contains (.type "AttributeError")=false/\(Value.ref C::d).contains (.type "NameError")=false:=by
 obtain⟨nm,o,N,bs,d,j,sub,m,c,i,k,n,l,p,g,r,_,_,s,t⟩:=oU X q;refine⟨nm,o,N,bs,d,j,sub,m,c,i,k,n,l,p,g,r,?_,s,t⟩;unfold D7 at f;split at f
 ·rename_i a b v w u;have:=X _ _ u;rw[r]at this;have e:=qZ this;unfold excClassObj at e;injection e with _ _ e _;injection e with e;subst e;exact f
 ·cases f
structure Td(K:qC)(C f:Addr):Prop where
 cls:Sk K C=true
 tail:D7 K C=true
 init:findIn K (.ref C) "__init__"=some (some (.ref f))
 fn:isFn K (.ref f)=true
 kp:RJ K (.ref C)=true
 sa:findIn K (.ref C) "__setattr__"=some (some (.builtin "object.__setattr__"))
 at_:findIn K (.ref C) "at"=some none
 ga:findIn K (.ref C) "__getattribute__"=some (some (.builtin "BaseException.__getattribute__"))
 gh:findIn K (.ref C) "__getattr__"=some none
def Mo:V->Prop
 | .non=>True
 | .str x=>(PySem.reprText x).length<=1000
 | .int n=>0<=n/\n<100
 | _=>False
def QY(e C:Addr)(h:Heap):Prop:=∃vs a,h.get? e=some {cls:=.ref C,dict:=none,data:=.fields vs,slots:=a}/\vs[1]?=some .none
theorem FH(q:QY e C h):XE P w H h e (.ext (QY e C)):=
 ⟨q,(let⟨_,_,a,_⟩:=q;⟨_,a⟩),λh1 h2 ⟨vs,sl,a,b⟩ k=>⟨vs,sl,k _ a,b⟩⟩
def GR(C:Addr):Sp:=λvs H Q _=>∃e v,vs=[.ref e,v]/\H e=some (.ext (QY e C))/\Mo v/\∀dx,H dx=none->dx≠e->Q .non (upd (upd H dx (.xd [("at",v)])) e (.ext (Wu e C dx .none)))
section
variable{X:Cx}{pins:List (Addr×Obj)}{σ:St}{H:Hp}{s:Shared}{C f:Addr}{k:Nat}{fd:Xl}
theorem Inv.new{h':Heap}(I:Inv X pins σ H s)(k:∀b u,s.heap.get? b=some u->h'.get? b=some u)(e:s.heap.get? a=none)(new:XE X.prog X.w (upd H a o) h' a o):Inv X pins σ (upd H a o) {s with heap:=h',toks:=t'}:=by
 have h:=Yt.no I.hok e;have i:∀b u,s.heap.get? b=some u->b≠a:=λb u q z=>by rw[z,e]at q;cases q
 have d:∀b u,H b=some u->b≠a:=λb u q z=>by rw[z,h]at q;cases q
 refine I.un (h':=h') ⟨λb o q _ _ _=>k b o q,λb o q _ _ _=>⟨o.slots,k b o q⟩,λb o q n _=>by rw[Y0 (i b o q)];exact n,λb o q _=>⟨o,k b o q⟩,λb g q=>by rw[Y0 (d b _ q)];exact q,λb o u q=>by rw[Y0 (d b _ q)];exact q,λb j q=>⟨#[],by rw[Y0 (d b _ q),q];simp⟩⟩ λb u q=>?_;by_cases hb:b=a
 ·subst hb;rw[Yr]at q;cases q;exact new
 ·rw[Y0 hb]at q;exact(I.hok b u q).stay (λc v _ q=>k c v q) (λc q=>by rw[Y0 (d c _ q)];exact q) λc g q=>by rw[Y0 (d c _ q)];exact q
theorem zM(M:Td X.K C f)(F:Zu X.prog X.w X.K X.mg X.base Yz k f fd ["self","at"] (GR C))(Z:Y5 (k+1) X.A)(hb:Vm X.K fd ["self","at"] [])(hex:X.ex=[])(I:Inv X pins σ H s)(R:ZF v u)(av:Mo v)
  {Q:Value->Shared->Prop}(q:∀e dx c m,Inv X pins σ c m->N1 X.s₀.heap c e C dx->c e=some (.ext (Wu e C dx .none))->c dx=some (.xd [("at",v)])->Z3 H c->Q (.ref e) m) :
  wpAny (model X.prog X.w) X.A (call (.ref C) [u]) Q X.xe s:=by
 obtain⟨nm,qn,N,bs,bm,sn,sub,ab,a1,dd,k0,k1,k2,k3,k5,hC,p,T,U⟩:=Oq I.kIn M.cls M.tail;obtain⟨P,g,d,O,os⟩:=s
 obtain⟨B,hfI,hfc⟩:∃B,P.get? f=some B/\B.cls=.type "function":=by
  have z:(X.K.lookup f).map (·.cls)=some (.type "function"):=beq_iff_eq.mp M.fn
  cases y:X.K.lookup f with
  | none=>rw[y]at z;cases z
  | some o=>rw[y]at z;exact⟨o,I.kIn _ _ y,qZ z⟩
 refine pz (C:=C) hC (by rw[R8,N3 (by decide) p,Sg]) T U (Px I.kIn M.init) hfI hfc (by show 1<=qa;rw[QP];omega) λE e h=>?_;obtain⟨t,W,a0,ht⟩:=h.there;have n:=Inv.new (h':=E) (a:=e) (o:=.ext (QY e C)) (t':=O) I h.keeps h.new (FH ⟨_,_,W,rfl⟩);have G:H e=none:=Yt.no I.hok h.new
 have sp:GR C [.ref e,v] (upd H e (.ext (QY e C))) (λr J=>r=.non/\∃dx,H dx=none/\dx≠e/\J=upd (upd (upd H e (.ext (QY e C))) dx (.xd [("at",v)])) e (.ext (Wu e C dx .none))) E0:=
  ⟨e,v,rfl,Yr,av,λdx j l=>⟨rfl,dx,by rw[Y0 l]at j;exact j,l,rfl⟩⟩
 refine Lb (Oh (F.run _ X.stack _ _ ⟨[.ref e,u],[]⟩ [.ref e,u] _ _ E0 (Z.make C [u] []) (n.env0.make C [u] []) (by have:=hb ⟨E,g,d,O,os⟩ [.ref e,u] n.kIn rfl;rw[q9]at this;exact this) (show ZJ [V.ref e,v] [Value.ref e,u]from .cons rfl (.cons R .nil)) sp) λr m i=>?_)
 cases r with
 | error x=>exact i.elim
 | ok Y=>
  cases Y with
  | ret w=>
   obtain⟨v',J,I3,D,rfl,dx,j,l,rfl⟩:=n.after i;refine⟨D,q e dx _ m I3 ⟨?_,.none,Yr,.inl rfl⟩ Yr (by rw[Y0 l,Yr]) λb o z=>?_⟩
   ·cases y:X.s₀.heap.get? e with
    | none=>rfl
    | some ob=>
     obtain⟨o',z⟩:=I.base.there e ob y (by rw[hex];simp);have:=h.new;rw[show P.get? e=some o' from z]at this;cases this
   ·have L:b≠e:=λy=>by rw[y,G]at z;cases z
    have S:b≠dx:=λy=>by rw[y,j]at z;cases z
    rw[Y0 L,Y0 S,Y0 L];exact z
  | next=>exact False.elim i
  | brk=>exact False.elim i
  | cont=>exact False.elim i
def Lvs(X:Cx)(E:XK):Prop:=∀(pins:List (Addr×Obj))(σ:St)(a:Hp)(b:Shared)(e C dx:Addr),Inv X pins σ a b->N1 X.s₀.heap a e C dx->E (.ref C) (some dx) a->X.xe (.ref e) b
def MK(C:Addr)(E:XK)(c:TE):TS:=λ_ σ H=>c σ H λv b=>Mo v/\∀a dx,Z3 b a->a dx=some (.xd [("at",v)])->E (.ref C) (some dx) a
theorem wI(M:Td X.K C f)(F:Zu X.prog X.w X.K X.mg X.base Yz k f fd ["self","at"] (GR C))(Y:Y5 (k+1) X.A)(hb:Vm X.K fd ["self","at"] [])(hex:X.ex=[])(Z:X.calm=true)(T:Lvs X E)
  (hg:Gl X x)(hm:X.mg x=some (.ref C))(R:PE X a te)(t:(x==("__debug__":Str))=false:=by decide)(O:starEach [a] X.env=[(false,eval a X.env)]:=by rfl) :
  PS X (.Raise (some (.Call (.Name x np) [a] [] c)) none W) (MK C E te):=by
 intro pins s σ H D I h;rw[arm_exec_Raise];refine qF (N5 ?_);unfold raiseStmt;simp only[evalOpt,Option.map];refine qF ?_
 have j:wpAny (model X.prog X.w) X.A (eval (.Call (.Name x np) [a] [] c) X.env) (λr m=>∃e dx b v i,r=.ref e/\Inv X pins σ b m/\N1 X.s₀.heap b e C dx/\b e=some (.ext (Wu e C dx .none))/\b dx=some (.xd [("at",v)])/\Z3 i b/\∀b dx,Z3 i b->b dx=some (.xd [("at",v)])->E (.ref C) (some dx) b) X.xe s:=by
  refine Kq (E9 I hg hm ?_ t);refine sf (h₀:=X.base) I.ok.mod.kin M.kp (thn (Oy R Oe O c pins s σ H (λvs i=>match vs with|[v]=>Mo v/\∀b dx,Z3 i b->b dx=some (.xd [("at",v)])->E (.ref C) (some dx) b|_=>False) I h) λus s1 ⟨vs,i,I1,r,q⟩=>⟨I1.kIn,?_⟩) O rfl
  match vs,q,r with
  | [v],q,r=>
   obtain⟨u,rfl,Q⟩:=U3 r;exact zM M F Y hb hex I1 Q q.1 λe dx b m l y o G z=>⟨e,dx,b,v,i,rfl,l,y,o,G,z,q.2⟩
  | [],q,_=>exact q.elim
  | _::_::_,q,_=>exact q.elim
 refine qF (thn j λr m L=>?_);obtain⟨e,dx,b,v,i,rfl,l,y,B,G,z,q⟩:=L;refine qF (N5 (qV ?_));obtain⟨nm,qn,N,bs,U,sn,sub,ab,a0,dd,k0,k1,k2,k3,k5,P,p,_,_⟩:=Oq l.kIn M.cls M.tail;have J:(Value.ref C::U).contains (.type "BaseException")=true:=by rw[R8,N3 (by decide) p,Sg]
 obtain⟨⟨vs,sl,oe,S⟩,_,_⟩:=l.hok e _ B;have n:=T pins σ b m e C dx l y (q b dx z G);have L:=l.ok.hd Z;obtain⟨hp,g,d,tk,os⟩:=m
 repeat (first|with_reducible refine qp oe ?_|with_reducible refine qp P ?_|(with_reducible refine OO P ?_;rw[J])|wp_step)
 rw[S];dsimp only;refine qV ?_;rw[if_neg (by decide)];exact qV (wpAny_raiseNew_none L n)
end
section
variable{X:Cx}{pins:List (Addr×Obj)}{σ:St}{H:Hp}{s:Shared}{C f:Addr}{k:Nat}{fd:Xl}
def IY(b:TE):TE:=λσ H Q=>b σ H λv a=>Mo v/\∀m,Q (.str m) a
theorem rG:∀m<100,Nat.log2 m<1920:=by decide +kernel
theorem jJ:∀m<100,(Str.ofString (toString ((m:Nat):Int))).length<=10:=by decide +kernel
theorem sS {E:Value->Shared->Prop} {Q:Value->Shared->Prop} (r:ZF v u) (a:Mo v) (q:∀(m:Str) t,m.length<=1000->Q (.str m s.toks) {s with toks:=t}) :
  wpAny (model X.prog X.w) A (pyReprObj u) Q E s:=by
 cases v with
 | non=>
  cases r;exact AK (T:="NoneType") rfl F.slot_NoneType_repr F.entry_NoneType_repr (by unfold argsOk;kernel_rfl) gives_none_repr (q "None" _ (by decide)) (hx:=by decide)
 | str x=>
  obtain⟨t,rfl⟩:=r;exact AK (T:="str") rfl PyProof.Rows.slot_str_repr PyProof.Rows.entry_str_repr (PyProof.Rows.args_str_repr _) (gives_str_repr x t) (q _ _ a) (hx:=WT a (by rw[QP];omega))
 | int n=>
  obtain⟨t,rfl⟩:=r;obtain⟨d,e⟩:=a;obtain⟨m,rfl⟩:∃m:Nat,n=(m:Int):=⟨n.toNat,by omega⟩;have b:m<100:=by omega
  have c:(m:Int).natAbs.log2<1920:=by
   rw[Int.natAbs_natCast];exact rG m b
  exact AK (T:="int") rfl F.slot_int_repr F.entry_int_repr (F.args_int_repr_1 _) (gives_int_repr (m:Int) t c) (q _ _ (WT (jJ m b) (by decide))) (hx:=WT (jJ m b) (by rw[QP];omega))
 | _=>exact a.elim
theorem sX{c:Str}{j p a w g o}(B:PE X a o)(E:c.length<=1000):PE X (.JoinedStr [.Constant (.str c) j p,.FormattedValue a 114 none w] g) (IY o):=by
 intro pins s σ H Q I h;have l:∀x y:Str,(x++y).length=x.length+y.length:=λx y=>by show(x.cps++y.cps).size=x.cps.size+y.cps.size;exact Array.size_append
 have n:(Str.empty).length=0:=rfl;have big:(3000:Nat)<=qa:=by rw[QP];omega
 refine wpAny_JoinedStr ?_;show wpAny _ _ (eval (.Constant (.str c) j p) X.env) (λv d=>∃y t,v=.str y t/\(Str.empty++y).length<=qa/\wpAny _ _ (eval (.FormattedValue a 114 none w) X.env) (λv A=>∃z t,v=.str z t/\((Str.empty++y)++z).length<=qa/\(((Str.empty++y)++z).length<=qa/\_)) _ d) _ s;refine kA ⟨c,_,rfl,by rw[l,n];omega,?_⟩;refine wpAny_FormattedValue_repr (thn (B pins _ σ H _ (I.tok _) h) λu s1 ⟨v,H1,I1,r,av,q⟩=>sS (X:=X) r av λm t D=>?_);have e:((Str.empty++c)++m).length<=qa:=by rw[l,l,n];omega
 have b:∀i,EP X pins σ Q (.str ((Str.empty++c)++m) i) {s1 with toks:=i+1}:=λi=>⟨.str _,H1,I1.tok _,⟨_,rfl⟩,q _⟩;exact wpAny_formatField_str ⟨m,_,rfl,e,e,b _⟩ ⟨m,_,rfl,e,e,b _⟩ (by omega)
def G4(C:Addr)(t:TA):TE:=λσ H Q=>t σ H λvs a=>∃e m,vs=[.ref e,m]/\a e=some (.ext (QY e C))/\Q .non a
theorem BU{K:qC}:PySem.W.findCls K (.type "ValueError") (.type "type") "__init__"=some (.val (.builtin "ValueError.__init__")):=by
 first|rfl|decide +kernel|kernel_rfl
theorem iX:bootBuiltins "ValueError"=some (.type "ValueError"):=by decide +kernel
theorem pE{p r a:Pos}(M:Td X.K C f)(G:Gl X "ValueError")(L:X.mg "ValueError"=none)(E:PA X (e::c) t)
  (n:starEach (e::c) X.env=(false,eval e X.env)::starEach c X.env:=by rfl)(v:(backTo a (starEach c X.env)).any (·.1)=false:=by rfl)
  (F:eval (.Call (.Attribute (.Name "ValueError" p) "__init__" r) (e::c) [] a) X.env=(do
   let y <- eval (.Name "ValueError" p) X.env
   standAt r.atName
   let(f,first) <- holding [y] (getMethod y "__init__" pl)
   callWith a f first (backTo a (starEach (e::c) X.env)) (backToKw a (keywordEach [] X.env))):=by rfl) :
  PE X (.Call (.Attribute (.Name "ValueError" p) "__init__" r) (e::c) [] a) (G4 C t):=by
 intro pins s σ H Q I h;refine PySem.W.methodCall_KW (pl:=pl) (L6 I G L iX ?_ (by decide) (by decide)) F;obtain⟨m,fr⟩:=I.fr;refine PySem.W.method_type fr I.ok.mod.kin (by kernel_rfl) (by decide +kernel) BU (by decide +kernel) ?_;have A:=E a pins _ σ H _ (I.tok (s.toks+1)) h;rw[n]at A ⊢;refine tO (by show(false||(backTo a (starEach c X.env)).any (·.1))=false;rw[v]<;>rfl) (mY ?_);refine thn A λus s2 ⟨vs,H2,I2,r2,e',mv,ev,he,q⟩=>?_;subst ev;obtain⟨u1,u2,rfl,T,Z⟩:=UL r2;cases T;obtain⟨nm,qn,N,bs,bm,Y,sub,ab,S,U,k0,k1,k2,k3,k5,P,l,_,_⟩:=Oq I2.kIn M.cls M.tail;obtain⟨⟨vs,sl,J,w⟩,_,_⟩:=I2.hok e' _ he;obtain⟨hh,g,d,R,os⟩:=s2;refine BF l (by show 1<=qa;rw[QP];omega) P J rfl rfl (Nat.lt_of_succ_lt (Lh.mp w).1) λD p' B O=>?_;refine⟨.non,H2,?_,rfl,q⟩
 have j:upd H2 e' (.ext (QY e' C))=H2:=by
  funext b;by_cases i:b=e'
  ·subst i;rw[Yr,he]
  ·rw[Y0 i]
 have:=I2.write (x:=e') (e:=e') (o:=.ext (QY e' C)) (h':=D) (t':=R) (by rw[he];exact True.intro) (.inl rfl) (λb u i z=>O b u i z) ⟨_,B⟩ (FH ⟨_,_,B,by rw[Array.getElem?_setIfInBounds_ne (by decide)];exact w⟩);rw[j]at this;exact this
end
section
variable{X:Cx}{pins:List (Addr×Obj)}{σ:St}{H:Hp}{s:Shared}{C f:Addr}{k:Nat}{fd:Xl}
def Ju(C:Addr)(b d:TE):TS:=λD σ H=>d σ H λv c=>b σ c λx a=>∃e,x=.ref e/\a e=some (.ext (QY e C))/\∀dx,a dx=none->dx≠e->D.nx σ (upd (upd a dx (.xd [("at",v)])) e (.ext (Wu e C dx .none)))
theorem ra{j m:Pos}(M:Td X.K C f)(J:PE X o Q)(hv:PE X a U)(hs:swapsWith a (some (.Attribute o "at" j)) m.line X.env=pure false:=by rfl):PS X (.Assign [.Attribute o "at" j] a m) (Ju C Q U):=by
 intro pins s σ H D I h;refine plainObj_wpAny_Assign_Attribute (thn (hv pins s σ H _ I h) λu s1 ⟨y,H1,I1,ry,q⟩=>thn (J pins s1 σ H1 _ I1 q) λov s2 ⟨x,H2,I2,rx,e,ex,he,q2⟩=>?_) hs;subst ex;obtain rfl:ov=Value.ref e:=rx;obtain⟨nm,qn,N,bs,bm,sn,sub,ab,a0,dd,k0,k1,k2,k3,k5,Y,w,_,_⟩:=Oq I2.kIn M.cls M.tail;obtain⟨⟨vs,L,R,O⟩,_,_⟩:=I2.hok e _ he;obtain⟨G,g,d,tk,S⟩:=s2;refine zQ w Y R rfl (λc z=>by cases z) rfl (Px I2.kIn M.sa) (Px I2.kIn M.at_) λF T dx E W A r=>?_;have i:H2 dx=none:=I2.hok.fresh E;have Z:dx≠e:=λz=>by rw[z,he]at i;cases i
 refine⟨σ,upd (upd H2 dx (.xd [("at",y)])) e (.ext (Wu e C dx .none)),?_,q2 dx i Z⟩;have v:∀b,b≠e->b≠dx->upd (upd H2 dx (.xd [("at",y)])) e (.ext (Wu e C dx .none)) b=H2 b:=λb p q=>by rw[Y0 p,Y0 q]
 have B:∀b o,H2 b=some o->(∀φ,o≠.ext φ)->b≠e/\b≠dx:=λb o z n=>⟨λy=>(by rw[y,he]at z;cases z;exact n _ rfl),λy=>(by rw[y,i]at z;cases z)⟩;have l:∀b o,H2 b=some o->(∀φ,o≠.ext φ)->upd (upd H2 dx (.xd [("at",y)])) e (.ext (Wu e C dx .none)) b=some o:=λb o z n=>by rw[v b (B b o z n).1 (B b o z n).2];exact z
 have lt:∀b u,G.get? b=some u->b≠dx:=λb u z y=>by rw[y]at z;exact absurd (qJ z) (CH.mpr E)
 refine Inv.un (s:=⟨G,g,d,tk,S⟩) I2 (h':=F) ⟨λb o z n _ _=>r b o (λy=>by rw[y,he]at n;cases n) z,λb o z n _ _=>⟨o.slots,r b o (λy=>by rw[y,he]at n;cases n) z⟩,λb o z n _=>?_,λb o z _=>?_,λb P z=>l b _ z (λφ y=>by cases y),λb o u z=>l b _ z (λφ y=>by cases y),λb ps z=>⟨#[],by rw[l b _ z (λφ y=>by cases y)];simp⟩⟩ λb o z=>?_
 ·rw[v b (λy=>by rw[y,he]at n;cases n) (lt b o z)];exact n
 ·by_cases hb:b=e
  ·exact⟨_,by rw[hb];exact A⟩
  ·exact⟨o,r b o hb z⟩
 ·by_cases hb:b=e
  ·subst hb;rw[Yr]at z;cases z;exact E6 ⟨vs,L,A,O⟩
  ·by_cases hd:b=dx
   ·subst hd;rw[Y0 hb,Yr]at z;cases z;refine⟨_,W,λn=>?_⟩;by_cases hn:n="at"
    ·subst hn;exact ry
    ·have:List.lookup n [((("at":Str)),y)]=none:=by
      rw[U9];have:(n==("at":Str))=false:=by rw[beq_eq_false_iff_ne];exact hn
      rw[this];rfl
     rw[this];show WC none (if n=("at":Str)then _ else _);rw[if_neg hn];trivial
   ·rw[v b hb hd]at z;refine(I2.hok b o z).stay (λc u t y=>r c u ?_ y) (λc y=>l c _ y (λφ x=>by cases x)) (λc P y=>l c _ y (λφ x=>by cases x)) (λc o' y=>l c _ y (λφ x=>by cases x));rcases t with rfl|t
    ·exact hb
    ·exact λx=>by rw[x,he]at t;cases t
def P4(C:Addr)(b:TE):TE:=λσ H Q=>b σ H λx a=>∃e dx c v,x=.ref e/\a e=some (.ext (Wu e C dx c))/\a dx=some (.xd [("at",v)])/\Q v a
theorem Bt(M:Td X.K C f)(r:PE X o A)(p:attributeBase o "at" X.env (eval o X.env)=eval o X.env:=by rfl):PE X (.Attribute o "at" l) (P4 C A):=by
 intro pins s σ H Q I h;refine pd p (thn (r pins s σ H _ I h) λu s1 ⟨x,H1,I1,rx,e,dx,tv,v,ex,he,hd,q⟩=>?_);subst ex;obtain rfl:u=Value.ref e:=rx;obtain⟨nm,U,N,bs,P,F,sub,J,B,E,T,G,W,k3,R,z,b,_,_⟩:=Oq I1.kIn M.cls M.tail;obtain⟨⟨vs,L,m,O⟩,_,_⟩:=I1.hok e _ he;obtain⟨c,n,j⟩:=I1.hok dx _ hd
 have D:∃w,c "at"=some w/\ZF v w:=by
  have:=j "at";rw[show List.lookup ("at":Str) [(("at":Str),v)]=some v from rfl]at this
  cases y:c "at"with
  | none=>rw[y]at this;exact this.elim
  | some w=>rw[y]at this;exact⟨w,rfl,this⟩
 obtain⟨w,i,a⟩:=D;obtain⟨Z,g,d,Y,S⟩:=s1;refine rT b z m rfl rfl rfl n.ns i (Px I1.kIn M.ga) (Px I1.kIn M.gh) (Px I1.kIn M.at_) (sN a) λt=>⟨v,H1,I1.tok _,a,q⟩
end
def tQ(c:Str)(j f m h g i k l n e d a b:Pos):List Stmt:=
 [.Expr (.Call (.Attribute (.Name "ValueError" j) "__init__" f) [.Name "self" m,.JoinedStr [.Constant (.str c) 0 h,.FormattedValue (.Name "at" g) 114 none i] k] [] l) n,
  .Assign [.Attribute (.Name "self" e) "at" d] (.Name "at" a) b]
def nC(c:Str)(g j k e d l i b:Pos):Prop:=∀a:Env,∃pl:Sem Bool,eval (.Call (.Attribute (.Name "ValueError" g) "__init__" j) [.Name "self" k,.JoinedStr [.Constant (.str c) 0 e,.FormattedValue (.Name "at" d) 114 none l] i] [] b) a=(do
   let h <- eval (.Name "ValueError" g) a
   standAt j.atName
   let(f,first) <- holding [h] (getMethod h "__init__" pl)
   callWith b f first (backTo b (starEach [.Name "self" k,.JoinedStr [.Constant (.str c) 0 e,.FormattedValue (.Name "at" d) 114 none l] i] a)) (backToKw b (keywordEach [] a)))
theorem Gd{P:Program}{w:World}{K:qC}{j:Str->Option Value}{base:Heap}{C f:Addr}{b:Str}{g:Stmt}{J:Xl}{c:Str}{G O I x u z L R p9 t n o r:Pos}(F:Yw K "__init__" b g f J)(M:Td K C f)(Z:j "ValueError"=none)
  (hb:Vi g=tQ c G O I x u z L R p9 t n o r) (i:YU g={kind:=.function,names:=[("self",.local),("at",.local),("ValueError",.globalImplicit)],isGenerator:=false,isCoroutine:=false}) (X:c.length<=1000) (k:nC c G O I x u z L R) :
  Zu P w K j base Yz 1 f J ["self","at"] (GR C):=by
 have Y:(["self","at"]:List Str).Nodup:=by decide +kernel
 have S:ZW ["self","at"] ["self","at"] (YU g):=by rw[i];exact⟨rfl,rfl,rfl,Y,rfl,by decide +kernel,by decide +kernel⟩
 refine F.ok S (λvs H Q E h=>by obtain⟨e,v,rfl,_⟩:=h;rfl) λd A a s H vs Q E hr h=>?_;obtain⟨e,v,rfl,y,av,q⟩:=h;have T:WI (X0 Yz P w K j base ["self","at"] b (YU g) f d A a s H E).nox.env.scope "self"=true:=by show WI (YU g) _=_;rw[i];decide +kernel
 have W:WI (X0 Yz P w K j base ["self","at"] b (YU g) f d A a s H E).nox.env.scope "at"=true:=by show WI (YU g) _=_;rw[i];decide +kernel
 have U:Gl (X0 Yz P w K j base ["self","at"] b (YU g) f d A a s H E).nox "ValueError":=by show(YU g).names.lookup _=_;rw[i];decide +kernel
 have N:∀{p:Pos},PE (X0 Yz P w K j base ["self","at"] b (YU g) f d A a s H E).nox (.Name "self" p) (YR 0):=λ{p}=>pv 0 rfl T;have D:∀{p:Pos},PE (X0 Yz P w K j base ["self","at"] b (YU g) f d A a s H E).nox (.Name "at" p) (YR 1):=λ{p}=>pv 1 rfl W;refine⟨WE (XO (G4 C (YW (YR 0) (YW (IY (YR 1)) XI)))) (Ju C (YR 0) (YR 1)),?_,?_⟩
 ·rw[hb];obtain⟨B,k⟩:=k (X0 Yz P w K j base ["self","at"] b (YU g) f d A a s H E).nox.env;exact K9 (B1 (pE (f:=f) (pl:=B) M U Z (Oy N (Oy (sX D X) Oe)) rfl rfl k)) (Mf (ra M N D))
 ·exact⟨_,rfl,v,rfl,av,λm=>⟨e,_,rfl,y,v,rfl,_,rfl,e,rfl,y,q⟩⟩
def Qt:PyData->Bool
 | .none=>true
 | .str x=>decide ((PySem.reprText x).length<=1000)
 | .int n=>decide (0<=n/\n<100)
 | _=>false
theorem HY(h:Qt d=true):XF d=true:=by cases d<;>first|rfl|cases h
theorem Af(h:Qt d=true)(r:Rp H d v):Mo v:=by
 cases d with
 | none=>rw[NS r];trivial
 | str x=>rw[OM r];show(PySem.reprText x).length<=1000;exact of_decide_eq_true h
 | int n=>rw[Ws r];show 0<=n/\n<100;exact of_decide_eq_true h
 | _=>cases h
def RX(H0:Hp)(C:Addr)(d:PyData):XK:=λc b a=>c=.ref C/\Z3 H0 a/\XF d=true/\∃dx v,b=some dx/\a dx=some (.xd [("at",v)])/\Rp a d v
theorem RX.base(s:Z3 H0 f)(h:RX f C d c g e):RX H0 C d c g e:=
 let⟨a,b,r⟩:=h;⟨a,s.trans b,r⟩
theorem RX.stx(h:∀c e g,RX H0 C d c e g->E c e g)(q:RX H0 C d c e g):OH H0 E c e g:=by
 intro n m l;obtain⟨a,b,f,dx,v,j,i,k⟩:=q;exact h _ _ _ ⟨a,λx o z=>m x o z (b x o z),f,dx,v,j,l _ _ i (λφ z=>by cases z),O7 f k⟩
inductive OU where
 | ok (o:RT)
 | rx (c:Str) (d:PyData)
def yX(f:Str->Addr)(g:Addr->Prop)(e:Hp)(D:XU)(E:XK):OU->Prop
 | .ok o=>Ci g e D o
 | .rx c d=>∀k a b,RX e (f c) d k a b->E k a b
abbrev Wc:=ZY->Option OU
def To(d:Str->Addr)(e:XK->TS)(F:Wc):Prop:=∀(b:Addr->Prop)(c:Hp)(a:ZY)(σ:St)(H:Hp)(D:XU)(E:XK),EnvOk b c a σ H->∀o,F a=some o->yX d b c D E o->e E D σ H
section
variable{cl:Str->Addr}
def TU(f:SF):Wc:=λenv=>(f env).map .ok
theorem PZ(h:SS t f):To cl (λ_=>t) (TU f):=by
 intro b i a σ H D E c o e q;obtain⟨g,d,rfl⟩:=qG.mp e;exact h b i a σ H D c g d q
def W4(f g:Wc):Wc:=λb=>(f b).bind λo=>match o with
 | .ok (.nx a)=>g a
 | o=>some o
theorem Og{t u:XK->TS}(h1:To cl t f)(h2:To cl u g):To cl (λE=>WE (t E) (u E)) (W4 f g):=by
 intro j k h σ H D E m o e q;obtain⟨b,l,e⟩:=qA.mp e;refine h1 j k h σ H _ E m b l ?_
 cases b with
 | rx c d=>cases e;exact q
 | ok b=>
  cases b with
  | nx a=>exact λi p n=>h2 j k a i p D E n o e q
  | bk a=>cases e;exact q
  | ct a=>cases e;exact q
  | rt d fr=>cases e;exact q
def TZ(c:TF)(f g:Wc):Wc:=λenv=>(c env).bind λb=>if b=true then f env else g env
theorem Fz{t u:XK->TS}(l:ST k c)(h1:To cl t f)(h2:To cl u g):To cl (λE=>Uo k (t E) (u E)) (TZ c f g):=by
 intro d i a σ H D E h o e q;obtain⟨b,m,e⟩:=qA.mp e;refine l d i a σ H h b m _ λj s=>?_
 cases b with
 | true=>exact WA (h1 d i a σ j D E (h.up s) o e q)
 | false=>exact WB (h2 d i a σ j D E (h.up s) o e q)
def OE(c:Str)(f:EF):Wc:=λenv=>(f env).bind λr=>if Qt r.d=true then some (.rx c r.d)else none
theorem G8(h1:SE j f):To cl (λE=>MK (cl c) E j) (OE c f):=by
 intro g l a σ H D E h o e q;obtain⟨r,i,e⟩:=qA.mp e;split at e
 ·rename_i b;cases e;refine h1 g l a σ H h r i _ λv p s d=>⟨Af b d.rp,λn dx k m=>q _ _ _ ⟨rfl,(h.base.trans s).trans k,HY b,dx,v,rfl,m,O7 (HY b) d.rp⟩⟩
 ·cases e
def Um(g:GT)(a:Wc):List PyData->ZY->Option OU
 | [],env=>some (.ok (.nx env))
 | d::e,env=>(g d env).bind λf=>(a f).bind λo=>match o with
  | .ok (.nx b)=>Um g a e b
  | .ok (.ct b)=>Um g a e b
  | .ok (.bk b)=>some (.ok (.nx b))
  | .ok (.rt d fr)=>some (.ok (.rt d fr))
  | .rx c d=>some (.rx c d)
def Ic(f:Vs)(g:GT)(b:Wc):Wc:=λa=>(f a).bind λz=>Um g b z.1 (frzs a z.2)
theorem sF{X:XK->TS}(h1:SI wi f)(h2:SG g R)(h3:To cl X n):To cl (λE=>RI wi g (X E)) (Ic f R n):=by
 intro A H0 w σ H D E h o e q;obtain⟨⟨p,bs⟩,er,e⟩:=qA.mp e;refine h1 A H0 w σ H h p bs er _ λJ Z s yl=>?_;have W:=(h.up s).frzs bs;have B:=W.floor;refine⟨λi m t F=>m=p.length - i/\i<=p.length/\∃b,Um R n (p.drop i) b=some o/\EnvOk A (Z6 (own (frzs w bs) σ) Z) b t F,⟨p.length,rfl,V5 _,_,e,W.rebase⟩,?_⟩;rintro i m t F ⟨rfl,hi,b,l,L⟩;obtain⟨yi,ys⟩:=yl _ F L.all L.seen;by_cases hlt:i<p.length
 ·obtain⟨yg,yy⟩:=yi i p[i] (qH hlt);refine .inr ⟨yg,λu j=>i+1<=p.length/\∃a,Um R n (p.drop (i+1)) a=some o/\EnvOk A (Z6 (own (frzs w bs) σ) Z) a u j,?_,?_⟩
  ·rintro u j ⟨S,a,U,O⟩;exact⟨p.length - (i+1),by omega,rfl,S,a,U,O⟩
  ·intro x j hy;obtain⟨sy,ry⟩:=yy x j hy;rw[Ll hlt]at l;obtain⟨Y,N,l⟩:=qA.mp l;obtain⟨G,Q,l⟩:=qA.mp l;refine h2 A _ b t j _ x (L.up sy) ry Y N _ λM P=>h3 A _ Y M j _ E P G Q ?_
   cases G with
   | rx c d=>cases l;exact λk od y r=>q k od y (r.base B)
   | ok G=>
    cases G with
    | nx I=>exact λz y C=>⟨hlt,I,l,C⟩
    | ct I=>exact λz y C=>⟨hlt,I,l,C⟩
    | bk I=>cases l;exact λz y C=>q z y (C.unbase B)
    | rt d fr=>cases l;exact λv y sh rt=>q v y (B.trans sh) (rt.unbase B)
 ·have T:i=p.length:=by omega
  subst T;rw[KU]at l;cases l;exact .inl ⟨ys,q t F (L.unbase B)⟩
inductive WX where
 | ok (d:PyData) (fr:Bool)
 | rx (c:Str) (d:PyData)
abbrev Tw:=List PyData->Option WX
def uJ(cl:Str->Addr)(e:Addr->Prop)(H:Hp)(Q:VK)(E:XK):WX->Prop
 | .ok d fr=>∀v a,Z3 H a->Uc e H d fr v a->Q v a
 | .rx c d=>∀k b a,RX H (cl c) d k b a->E k b a
def VS(cl:Str->Addr)(n:Nat)(g:Tw):Sp:=λvs H Q E=>∃(fx:Addr->Prop)(a:List PyData)(r:WX),a.length=n/\(∀b,fx b->∃o,H b=some o)/\ZH (Z6 fx H) a vs/\g a=some r/\uJ cl fx H Q E r
theorem NZ{vs:List V}(h:VS cl n g vs H Q E):vs.length=n:=by
 obtain⟨c,e,r,b,d,a,_⟩:=h;rw[<- a.length];exact b
def Tt(n:Nat)(f:Wc):Tw:=λa=>match f (Si n a)with
 | some (.ok (.rt d fr))=>some (.ok d fr)
 | some (.ok (.nx _))=>some (.ok .none false)
 | some (.rx c d)=>some (.rx c d)
 | _=>none
theorem Uj{N:List Str}{t:XK->TS}(l:To cl t f)(h:VS cl n (Tt N.length f) vs H Q E):t (OH H E) {nx:=λ_ a=>Q .non a,rt:=Q} (start N vs) H:=by
 obtain⟨i,C,r,w,j,e,g,k⟩:=h;unfold Tt at g;split at g
 ·rename_i y o b;cases g;exact l i H _ _ H _ _ (OB j e) _ b λv a s m=>k v a s m
 ·rename_i B b;cases g;exact l i H _ _ H _ _ (OB j e) _ b λσ a p=>k .non a p.base ⟨CZ,λz=>by cases z⟩
 ·rename_i c d b;cases g;exact l i H _ _ H _ _ (OB j e) _ b λx A a q=>RX.stx k q
 ·cases g
def TK(n:Nat)(g:Tw)(f:AF):Wc:=λa=>(f a).bind λb=>if b.length=n then(g (XX b)).map λr=>match r with
 | .ok _ _=>.ok (.nx a)
 | .rx c d=>.rx c d else none
theorem EH(p:SA z f):To cl (λE=>XO (X7 (VS cl n g) [] E z)) (TK n g f):=by
 intro m A a σ H D E h o e q;obtain⟨l,t,e⟩:=qA.mp e;split at e
 ·rename_i s;obtain⟨r,B,rfl⟩:=qG.mp e;refine p m A a σ H h l t _ λvs C j y=>?_;rw[q9];refine⟨lim m a σ (Yj l),XX l,r,by rw[Q9];exact s,(h.up j).lims _,S5 (λi u=>u) y,B,?_⟩
  cases r with
  | ok d fr=>exact λw b x _=>q σ b (h.up (j.trans x))
  | rx c d=>exact λk v b r=>q k v b (r.base (h.base.trans j))
 ·cases e
end
abbrev Cx.hold(X:Cx)(e:Addr):Cx:={X with A:=X.A.mark (some (.ref e)),calm:=false,xe:=λ_ _=>False}
section
variable{X:Cx}{pins:List (Addr×Obj)}{σ:St}{H:Hp}{s:Shared}
theorem Inv.hold(I:Inv X pins σ H s)(e:Addr):Inv (X.hold e) pins σ H s:=
 ⟨⟨I.ok.mod,I.ok.kind,I.ok.glob,I.ok.blt,I.ok.above,I.ok.inj,I.ok.has,I.ok.cab,(λz=>by cases z),I.ok.frames,I.ok.stk,I.ok.exf,I.ok.bs,I.ok.bsz,I.ok.noex,I.ok.exfs,I.ok.funs,I.ok.frf⟩,I.os,I.bare,I.base,I.loc,I.cell,I.free,I.freeC,I.pin,I.hok,I.len⟩
theorem Inv.unhold(ok:X.Ok)(I:Inv (X.hold e) pins σ H s):Inv X pins σ H s:=
 ⟨ok,I.os,I.bare,I.base,I.loc,I.cell,I.free,I.freeC,I.pin,I.hok,I.len⟩
theorem xD{E:Value->Shared->Prop}{Q:Unit->Shared->Prop}(I:Inv X pins σ H s)(G:X.N.Nodup)(C:X.N[j]?=some n)(Y:X.env.scope.names.lookup n=some .local)
  (h:∀s',Inv X pins (σ.set j none) H s'->Q () s'):wpAny (model X.prog X.w) A (do bindName X.env n .none;unbindBehindTheSuite X.env n P) Q E s:=by
 obtain⟨m,J,u⟩:=id I.loc;have i:(X.env.scope.kind==.class||(X.env.scope.kind==.module&&X.env.locals != X.env.globals))=false:=by rw[I.ok.kind];rfl
 refine wpAny_nameGoes_keeps Y J i λZ v U l=>h _ ?_;have B:∀b r,X.s₀.heap.get? b=some r->Z.get? b=s.heap.get? b:=λb r e=>l.2 b (qt (qi (qJ e) I.ok.above));have cne:=I.cne;refine⟨I.ok,I.os,I.bare,⟨λb o e n x g=>(B b o e).trans (I.base.keep b o e n x g),λb o e n x g=>?_,I.base.free,λb o e g=>?_,I.base.tups,I.base.frzs,I.base.tbls⟩,⟨_,U,λk y M a t W=>?_⟩,λy c e=>?_,I.free,I.freeC,λp R=>?_,λb r e=>?_,by simpa using I.len⟩
 ·obtain⟨L,a⟩:=I.base.slot b o e n x g;exact⟨L,(B b o e).trans a⟩
 ·obtain⟨S,a⟩:=I.base.there b o e g;exact⟨S,(B b o e).trans a⟩
 ·by_cases hk:k=j
  ·subst hk;rw[Te (by have:=(qK.mp C).1;rw[I.len];exact this)]at t;cases t
  ·rw[qY (Xs hk)]at t;obtain⟨u',T,q⟩:=u k y M a t W;refine⟨u',T,?_⟩;rcases q with⟨z,e⟩|⟨z,c,e,O⟩
   ·refine .inl ⟨z,?_⟩;have:y≠n:=λe=>hk (tR G a (e▸C));simp[this,e]
   ·exact .inr ⟨z,c,e,O.sameBut l (cne y c e)⟩
 ·obtain⟨F,z⟩:=I.cell y c e;exact⟨F,z.sameBut l (cne y c e)⟩
 ·obtain⟨e,n,D,nf,d⟩:=I.pin p R;exact⟨(l.2 p.1 D).trans e,n,D,nf,d⟩
 ·refine(I.hok b r e).stay (λc F f q=>(l.2 c ?_).trans q) (λ_ q=>q) (λ_ _ q=>q) (λ_ _ q=>q);rintro rfl;rcases f with f|f
  ·rw[<- f,I.free]at e;cases e
  ·rw[I.free]at f;cases f
end
end L2
namespace PySem
open Sem (wp)
open Builtin Builtin.ObjectAttr
section
variable{prog:Program}{w:World}{A:Around}{E:Value->Shared->Prop}{h:Heap}{g:Array GenState}{d:Drawn}{t:Nat}{os:OsState}
variable{nm q:Str}{C N x:Addr}{bs bm:List Value}{sn:List Str}{sub:List Value}{ab:Bool}{col:Option Bool}{dd:Option Addr}{k0 k1 k2 k3 k5:Option Value}{newId:String}{o:Obj}
theorem rE {R:Result->Shared->Prop} (i:S4 bm=true) (f:h.get? C=some (excClassObj nm q C N bs bm true sn sub ab col dd k0 k1 k2 k3 k5 newId)) (e:h.get? x=some o) (c:o.cls=.ref C) (j:R (.ok (.ret (.ref C))) ⟨h,g,d,t,os⟩) :
  codeAny (model prog w) A (.call (.builtin "getset_descriptor.__get__") ⟨[.builtin "object.__class__",.ref x,.ref C],[]⟩) R ⟨h,g,d,t,os⟩:=by
 have a:(⟨h,g,d,t,os⟩:Shared).TypeIs (.builtin "object.__class__") "getset_descriptor":=sG
 have b:(Value.ref C::bm).contains (.type (".".intercalate ("object.__class__".cutAt '.').dropLast))=true:=by
  rw[F.owner_object_class,R8,N3 (by decide) i];rfl
 refine EB yI.plain F.entry_gs_get (yI.check _ _ _ _ _ _ _ _ a (F.args_gs_get _ _ _) ?_)
 repeat (any_goals (first|assumption|(with_reducible refine qp e ?_;rw[c])|(with_reducible refine OO f ?_;rw[b])|wp_step))
 refine⟨u0 _ (by decide +kernel),zG F.entry_object_class ?_⟩
 repeat (any_goals (first|assumption|(with_reducible refine qp e ?_;rw[c])|wp_step))
theorem og{Q:Option Value->Shared->Prop}(i:S4 bm=true)(j:h.get? C=some (excClassObj nm q C N bs bm true sn sub ab col dd k0 k1 k2 k3 k5 newId))(b:h.get? x=some o)(c:o.cls=.ref C)
  (m:W.Looks (model prog w) h (typeLookup (.ref C) "__getattribute__") (some (.builtin "BaseException.__getattribute__")))(n:W.Looks (model prog w) h (typeLookup (.ref C) "__class__") (some (.builtin "object.__class__")))
  (l:W.Looks (model prog w) h (typeLookup (.ref C) "__getattr__") none) (y:Q (some (.ref C)) ⟨h,g,d,t+1,os⟩):wpAny (model prog w) A (getAttr? (.ref x) "__class__") Q E ⟨h,g,d,t,os⟩:=by
 have r:builtinKind "BaseException.__getattribute__"=some .slot:=by decide +kernel
 have a:splitId "BaseException.__getattribute__"=some ("BaseException","__getattribute__"):=by decide +kernel
 have f:(Value.ref C::bm).contains (.type "BaseException")=true:=by rw[R8,N3 (by decide) i,Sg]
 have e:(Value.builtin "BaseException.__getattribute__"==Value.builtin "object.__getattribute__")=false:=by decide +kernel
 have p:(onTheHeap (Value.ref C)&&Value.builtin "BaseException.__getattribute__"==Value.builtin "object.__getattribute__")=false:=by rw[e];rfl
 have k:=F.attr_ValueError;have B:=k.ga.bind (.ref x);have s:(⟨h,g,d,t+1,os⟩:Shared).TypeIs (.builtin "object.__class__") "getset_descriptor":=sG;have v:=sG;have u:=yI.lookup;have z:=F.slot_gs_set.lookup;unfold getAttr? getAttrBy? getAttrBy
 repeat (any_goals (first|assumption|(with_reducible refine qp b ?_;rw[c])|(with_reducible refine m.here ?_)|(with_reducible refine l.here ?_)|wp_step))
 refine EB k.ga.plain F.entry_bexc_ga ?_;simp only[checkBuiltinCall,r,a];refine qF ?_;unfold isInstance
 repeat (first|(with_reducible refine qp b ?_;rw[c])|(with_reducible refine OO j ?_;rw[f])|wp_step)
 repeat (any_goals (first|assumption|(with_reducible refine qp b ?_;rw[c])|(with_reducible refine n.here ?_)|wp_step))
 refine rE i j b c ?_
 repeat (any_goals (first|assumption|wp_step))
end
end PySem
namespace L2
open PySem PySem.Spec PyProof.Rows
section
variable{X:Cx}{C f:Addr}
theorem uS{K:qC}{e C dx f:Addr}(M:Td K C f)(G:findIn K (.ref C) "__class__"=some (some (.builtin "object.__class__"))):PySem.W.KitX K (.ref e) (.ref C) (λh=>∃y,Wu e C dx y h) where
 ty:=λ_ _ _ ⟨_,_,_,a,_⟩=>(mZ a).andThen .now
 it:=λ_ _ X _=>by
  obtain⟨nm,x,N,bs,r,m,sub,o,c,i,v,p,B,D,u,b,_⟩:=Oq X M.cls M.tail;intro O R P S k q;unfold isType loadHead;exact qF (wpAny_loadPart (k _ _ b) (qV q))
 ne:=λh I i F n H X l=>by
  obtain⟨nm,x,N,bs,r,m,sub,o,c,i,v,p,B,D,u,b,_⟩:=Oq X M.cls M.tail;refine Bool.eq_false_iff.mpr λq=>?_;have e:C=I:=Value.ref.inj (beq_iff_eq.mp q);subst e;have z:=congrArg Obj.cls (qZ (b.symm.trans l));unfold excClassObj at z;injection z with z;exact absurd z (by decide)
 ca:=λ{prog w A E Q s} X ⟨y,vs,H,a,_⟩ k=>by
  obtain⟨nm,x,N,bs,r,m,sub,o,c,i,v,p,B,D,u,b,j,_⟩:=Oq X M.cls M.tail;obtain⟨h,g,d,t,L⟩:=s;exact og j b a rfl (Px X M.ga) (Px X G) (Px X M.gh) k
def LD(K:qC)(C:Addr):List V->Hp->VK->Prop:=λd H Q=>∃e dx i b,H e=some (.ext (Wu e C dx i))/\Q (.bl b) H/\
 ((∃c,d=[.ref e,.ref c]/\kitOne K (.ref C) (.ref c)=some b)\/(∃n,d=[.ref e,.ty n]/\kitOne K (.ref C) (.type n)=some b)\/∃p h g,d=[.ref e,.ref p]/\H p=some (.tup h)/\(∀a,ZJ h a->a=g)/\PySem.W.kitAny K (.ref C) g=some b)
theorem wg(M:Td X.K C f)(j:findIn X.K (.ref C) "__class__"=some (some (.builtin "object.__class__"))):YQ X (.builtin "isinstance") (LD X.K C):=by
 intro v s σ H L O Q I r h;obtain⟨e,dx,o,b,y,q,h⟩:=h;have l:=(I.hok e _ y).1;rcases h with⟨c,rfl,d⟩|⟨n,rfl,d⟩|⟨p,J,F,rfl,B,G,d⟩
 ·obtain⟨u,x,rfl,a,g⟩:=UL r;cases a;cases g;exact Sz (uS (dx:=dx) M j) I.kIn ⟨o,l⟩ d (λz=>nomatch z) λw=>⟨.bl b,H,I.tok _,rfl,q⟩
 ·obtain⟨u,x,rfl,a,g⟩:=UL r;cases a;cases g;exact Sz (uS (dx:=dx) M j) I.kIn ⟨o,l⟩ d (λz=>nomatch z) λw=>⟨.bl b,H,I.tok _,rfl,q⟩
 ·obtain⟨u,x,rfl,a,g⟩:=UL r;cases a;cases g;obtain⟨_,i,vi,A,m,k,n,t⟩:=I.hok p _ B;cases G i vi;obtain⟨N,P,E,D⟩:=A;cases k;cases t;exact PySem.W.kia_tup (uS (dx:=dx) M j) I.kIn ⟨o,l⟩ m d (λz=>nomatch z) λw=>⟨.bl b,H,I.tok _,rfl,q⟩
end
theorem BE{X:Cx}(a:Gl X x)(b:X.mg x=some (.ref C))(d:(x==("__debug__":Str))=false:=by decide):PE X (.Name x c) (tC (.ref C)):=
 λ_ _ _ H _ I h=>E9 I a b ⟨.ref C,H,I,rfl,h⟩ d
def Qg(P:Program)(w:World)(K:qC)(c:Str->Option Value)(base:Heap)(x:Str)(a:List Str)(k:Nat)(d:Sp):Prop:=
 ∃f b,Zu P w K c base (W6 P w) k f b a d/\c x=some (.ref f)/\RJ K (.ref f)=true/\Vm K b a []
section
variable{X:Cx}
theorem Oc(D:Qg X.prog X.w X.K X.mg X.base x s k n)(m:zxj (W6 X.prog X.w) X E)(h:Y5 k X.A)(o:Gl X x)(g:Bx (PA X (e::a) t))
  (d:(x==("__debug__":Str))=false)(l:starEach (e::a) X.env=(false,eval e X.env)::starEach a X.env)(c:(backTo b (starEach a X.env)).any (·.1)=false) :
  Bx (PE X (.Call (.Name x p) (e::a) [] b) (X7 n [] E t)):=by
 obtain⟨f,r,F,i,q,j⟩:=D;exact⟨Fv F h o i q j .nil m g.out d l c⟩
def S8(P:Program)(w:World)(K:qC)(b:Str->Option Value)(base:Heap)(x:Str)(C:Addr):Prop:=
 ∃f a,Td K C f/\Zu P w K b base Yz 1 f a ["self","at"] (GR C)/\Vm K a ["self","at"] []/\b x=some (.ref C)/\findIn K (.ref C) "__class__"=some (some (.builtin "object.__class__"))/\exmOne K (.ref C) (.ref C)=some true
theorem He(M:S8 X.prog X.w X.K X.mg X.base x C)(g:Y5 2 X.A)(hex:X.ex=[])(l:X.calm=true)(m:Lvs X E)(n:Gl X x)(e:Bx (PE X a h))
  (b:(x==("__debug__":Str))=false) (k:starEach [a] X.env=[(false,eval a X.env)]):Bx (PS X (.Raise (some (.Call (.Name x np) [a] [] c)) none d) (MK C E h)):=by
 obtain⟨f,o,M,F,j,i,_⟩:=M;exact⟨wI M F g j hex l m n i e.out b k⟩
end
theorem Ge{P:Program}{w:World}{K:qC}{h:Str->Option Value}{base:Heap}{N:List Str}{c:Str}{a:Scope}{f:Addr}{i:Value}{A:Around}{b:List Env}{s:Shared}{H:Hp}{E:XK}(d:Yt P w H s.heap) :
  Lvs (X0 (W6 P w) P w K h base N c a f i A b s H E) (OH H E):=λg σ j k e C dx I F q=>E8 I d F q
def Sq(i n:Nat)(g:Tw)(f:AF):Wc:=λa=>(f a).bind λb=>if b.length=n then(g (XX b)).map λr=>match r with
 | .ok d fr=>.ok (.nx (Vq a i ⟨d,fr,ZM d (Yj b)⟩))
 | .rx c d=>.rx c d else none
theorem wj{u:Str->Addr}(x:SA G f):To u (λE=>Xy (X7 (VS u n g) [] E G) (Y6 i)) (Sq i n g f):=by
 intro s N j σ H D E h o e q;obtain⟨l,B,e⟩:=qA.mp e;split at e
 ·rename_i y;obtain⟨r,A,rfl⟩:=qG.mp e;refine x s N j σ H h l B _ λvs P p I=>?_;rw[q9];refine⟨lim s j σ (Yj l),XX l,r,by rw[Q9];exact y,(h.up p).lims _,S5 (λi C=>C) I,A,?_⟩
  cases r with
  | rx c d=>exact λk L m r=>q k L m (r.base (h.base.trans p))
  | ok d fr=>
   intro w m J M;obtain⟨rp,t⟩:=M;refine q _ m (h.put (p.trans J) (r:=⟨d,fr,ZM d (Yj l)⟩) ⟨Oz rp,λe=>?_⟩ i);obtain⟨a,F,z,v⟩:=t e;refine⟨a,F,p.free z,?_⟩;have O:XF d=false:=by cases d<;>first|rfl|exact v.elim
   show Wo (Z6 (λb=>lim s j σ (ZM d (Yj l)) b\/b=a) m) m a d;rw[show ZM d (Yj l)=Yj l by unfold ZM;rw[if_neg (by rw[O];decide)]];exact v
 ·cases e
theorem EnvOk.kill{l:Addr->Prop}{c:ZY}{σ:St}(h:EnvOk l t c σ H)(x:Nat)(w:Option V):EnvOk l t (c.set x .no) (σ.set x w) H:=by
 have get:∀{i:Nat}{s:Sl},(c.set x .no)[i]?=some s->s≠.no->i≠x/\c[i]?=some s:=λ{i s} e ns=>by
  rcases WY e with⟨_,z⟩|⟨g,e⟩
  ·exact absurd z ns
  ·exact⟨g,e⟩
 have kept:∀{i:Nat},i≠x->(σ.set x w)[i]?=σ[i]?:=λ{i} g=>qY (Xs g)
 have q:∀b,own (c.set x .no) (σ.set x w) b->own c σ b:=λb ⟨i,d,k,f⟩=>by
  obtain⟨g,e⟩:=get k (by simp);rw[kept g]at f;exact⟨i,d,e,f⟩
 have o:Z3 (Z6 (λa=>l a\/own c σ a) H) (Z6 (λa=>l a\/own (c.set x .no) (σ.set x w) a) H):=Z6.sub λb z=>z.imp id (q b);refine⟨by rw[Wd,Wd];exact h.len,λi d e=>?_,λi d e=>?_,λi j d e a k f n m=>?_,h.base,h.fxs⟩
 ·obtain⟨g,e⟩:=get e (by simp);obtain⟨v,k,f⟩:=h.pl i d e;exact⟨v,by rw[kept g];exact k,Rp.same o d f⟩
 ·obtain⟨g,e⟩:=get e (by simp);obtain⟨a,k,f,n,m⟩:=h.ac i d e;exact⟨a,by rw[kept g];exact k,f,n,m.same o λ_ z=>z⟩
 ·obtain⟨r,k⟩:=get k (by simp);obtain⟨p,f⟩:=get f (by simp);rw[kept r]at n;rw[kept p]at m;exact h.inj i j d e a k f n m
theorem EnvOk.notOwn{e:Addr->Prop}(h:EnvOk e m a σ H)(f:e b):¬own a σ b:=by
 rintro⟨i,d,j,l⟩;obtain⟨c,g,_,k,_⟩:=h.ac i d j;rw[l]at g;cases g;exact k f
inductive SV where
 | dt (d:PyData)
 | lo (n:Nat)
inductive SN where
 | ls (xs:List SV)
 | tp (xs:List SV)
structure WH where
 sl:List (Option SV)
 hp:List SN
open Classical in
def Zz(A:Addr->Prop)(H:Hp):Hp:=λb=>match H b with
 | some (.tup a)=>some (.tup a)
 | o=>if A b then none else o
theorem Zz.tup{A:Addr->Prop}(h:H b=some (.tup a)):Zz A H b=some (.tup a):=by unfold Zz;rw[h]
theorem Zz.get{A:Addr->Prop}(h:¬A b):Zz A H b=H b:=by
 unfold Zz;split
 ·rename_i a e;exact e.symm
 ·exact if_neg h
theorem Zz.of{A:Addr->Prop}(h:Zz A H b=some o):H b=some o/\(¬A b\/∃xs,o=.tup xs):=by
 unfold Zz at h;split at h
 ·rename_i xs e;cases h;exact⟨e,.inr ⟨xs,rfl⟩⟩
 ·by_cases a:A b
  ·rw[if_pos a]at h;cases h
  ·rw[if_neg a]at h;exact⟨h,.inl a⟩
theorem Zz.mono{A B:Addr->Prop}(s:Z3 H c)(h:∀b o,H b=some o->¬A b->¬B b):Z3 (Zz A H) (Zz B c):=λb o e=>by
 obtain⟨a,z⟩:=Zz.of e;rcases z with z|⟨d,rfl⟩
 ·rw[Zz.get (h b o a z)];exact s b o a
 ·exact Zz.tup (s b _ a)
theorem Zz.grow{A:Addr->Prop}(s:Z3 H a):Z3 (Zz A H) (Zz A a):=Zz.mono s λ_ _ _ z=>z
theorem Zz.sub{A B:Addr->Prop}(h:∀b,B b->A b):Z3 (Zz A H) (Zz B H):=Zz.mono (Z3.refl _) λb _ _ n z=>n (h b z)
theorem Zz.offs(A:Addr->Prop)(H:Hp):Z3 (Z6 A H) (Zz A H):=λb o e=>by
 obtain⟨n,e⟩:=Z6.of e;rw[Zz.get n];exact e
theorem Zz.upd{A:Addr->Prop}(f:A a)(h:H a=some (.lst xs)):Zz A (upd H a (.lst c))=Zz A H:=by
 funext b;by_cases e:b=a
 ·subst e;have d:L2.upd H b (.lst c) b=some (.lst c):=Yr;unfold Zz;rw[d,h];dsimp only;rw[if_pos f,if_pos f]
 ·have d:L2.upd H a (.lst c) b=H b:=Y0 e;unfold Zz;rw[d]
def Vw(c:Hp)(b:List Addr):SV->V->Prop
 | .dt d,v=>Rp c d v
 | .lo n,v=>∃a,b[n]?=some a/\v=.ref a
theorem Vw.same(s:Z3 b Ho'):∀{x:SV}{v:V},Vw b a x v->Vw Ho' a x v
 | .dt d,_,h=>Rp.same s d h
 | .lo _,_,h=>h
theorem Vw.ext:∀{x:SV}{v:V},Vw c b x v->Vw c (b++bs) x v
 | .dt _,_,h=>h
 | .lo n,_,⟨a,h1,h2⟩=>⟨a,by rw[qc (qK.mp h1).1];exact h1,h2⟩
def Kv(d H:Hp)(c:List Addr):SN->Addr->Prop
 | .ls b,a=>∃vs,H a=some (.lst vs)/\Paired (Vw d c) b vs
 | .tp b,a=>∃vs,H a=some (.tup vs)/\Paired (Vw d c) b vs
theorem Kv.mono(h:Kv i H g s a)(e:∀o,H a=some o->j a=some o)(f:∀x v,Vw i g x v->Vw Ho' bs x v):Kv Ho' j bs s a:=by
 cases s with
 | ls d=>obtain⟨vs,b,c⟩:=h;exact⟨vs,e _ b,Paired.mapP c f⟩
 | tp d=>obtain⟨vs,b,c⟩:=h;exact⟨vs,e _ b,Paired.mapP c f⟩
structure SymOk(fx:Addr->Prop)(as:List Addr)(H0:Hp)(env:ZY)(σ:St)(H:Hp)(st:WH):Prop where
 ok:EnvOk fx H0 env σ H
 nd:as.Nodup
 len:as.length=st.hp.length
 off:∀a∈as,fx a
 low:∀a∈as,H0 a=none
 nod:∀(n:Nat)(s:SN)(a:Addr),st.hp[n]?=some s->as[n]?=some a->Kv (Zz (λb=>fx b\/own env σ b) H) H as s a
 sl:∀(i:Nat)(x:SV),st.sl[i]?=some (some x)->env[i]?=some .no/\∃v,σ[i]?=some (some v)/\Vw (Zz (λb=>fx b\/own env σ b) H) as x v
def XG(B:Addr->Prop)(f:Hp)(a:ZY)(σ:St)(H:Hp)(e:WH):Prop:=∃c d,SymOk c d f a σ H e/\∀b,B b->c b
section
variable{fx:Addr->Prop}{as:List Addr}{H0:Hp}{env:ZY}{σ:St}{H H':Hp}{st:WH}
theorem SymOk.up(h:SymOk fx as H0 env σ H st)(s:Z3 H H'):SymOk fx as H0 env σ H' st:=
 ⟨h.ok.up s,h.nd,h.len,h.off,h.low,λn x a c b=>(h.nod n x a c b).mono (λo z=>s a o z) λ_ _ z=>z.same (Zz.grow s),λi x e=>let⟨h1,v,h2,h3⟩:=h.sl i x e;⟨h1,v,h2,h3.same (Zz.grow s)⟩⟩
theorem XG.up{B:Addr->Prop}(h:XG B H0 env σ H st)(s:Z3 H H'):XG B H0 env σ H' st:=let⟨fx,as,k,kb⟩:=h;⟨fx,as,k.up s,kb⟩
theorem XG.start(h:EnvOk fx H0 env σ H):XG fx H0 env σ H ⟨[],[]⟩:=
 ⟨fx,[],⟨h,.nil,rfl,λ_ z=>by(cases z),λ_ z=>by(cases z),λn s a e=>by(cases e),λi x e=>by(cases e)⟩,λ_ z=>z⟩
def VT{α β:Type}(f:α->Option β):List α->Option (List β)
 | []=>some []
 | x::b=>(f x).bind λy=>(VT f b).map λa=>y::a
def Sh(b:List SN):Nat->SV->Option PyData
 | _,.dt d=>some d
 | 0,.lo _=>none
 | k+1,.lo n=>match b[n]? with
  | some (.ls a)=>(VT (Sh b k) a).map .list
  | some (.tp a)=>(VT (Sh b k) a).map .tuple
  | none=>none
theorem wD{f:SV->Option PyData}{F:SV->V->Prop}(c:∀x v d,F x v->f x=some d->Rp G d v):∀{b:List SV}{vs:List V}{a:List PyData},Paired F b vs->VT f b=some a->ZH G a vs
 | _,_,a,.nil,e=>by cases e;exact VP
 | _,_,a,.cons r t,e=>by
  obtain⟨d,i,e⟩:=qA.mp e;obtain⟨g,h,rfl⟩:=qG.mp e;exact UF (c _ _ _ r i) (wD c t h)
theorem SymOk.offO(h:SymOk fx as H0 env σ H st):Z3 (Zz (λb=>fx b\/own env σ b) H) (Z6 (own env σ) H):=λb o e=>by
 obtain⟨g,z⟩:=Zz.of e;rw[Z6.get]
 ·exact g
 ·rintro⟨i,d,l,j⟩;rcases z with z|⟨p,rfl⟩
  ·exact z (.inr ⟨i,d,l,j⟩)
  ·obtain⟨a,k,q,r,f⟩:=h.ok.ac i d l;rw[j]at k;cases k
   cases d with
   | list n=>obtain⟨m,c,_⟩:=f;rw[g]at c;cases c
   | dict n=>obtain⟨m,c,_⟩:=f;rw[g]at c;cases c
   | _=>exact f
theorem SymOk.rd(h:SymOk fx as H0 env σ H st):∀(k:Nat)(x:SV)(v:V)(d:PyData),Vw (Zz (λb=>fx b\/own env σ b) H) as x v->Sh st.hp k x=some d->Rp (Z6 (own env σ) H) d v
 | k,.dt d,v,d',r,e=>by
  have e:some d=some d':=by cases k<;>exact e
  cases e;exact Rp.same h.offO d r
 | 0,.lo n,v,d,r,e=>by cases e
 | k+1,.lo n,v,d,⟨a,h1,h2⟩,e=>by
  subst h2;have no:¬own env σ a:=h.ok.notOwn (h.off a (Ub h1));have j:=h.rd k;unfold Sh at e;split at e
  ·rename_i l f;obtain⟨m,c,rfl⟩:=qG.mp e;obtain⟨vs,g,i⟩:=h.nod n _ a f h1;exact zhv (by rw[Z6.get no];exact g) (wD j i c)
  ·rename_i l f;obtain⟨m,c,rfl⟩:=qG.mp e;obtain⟨vs,g,i⟩:=h.nod n _ a f h1;exact ztv (by rw[Z6.get no];exact g) (wD j i c)
  ·cases e
def P0(a:List SN)(s:Sl):Option SV->Sl
 | some x=>match Sh a 9 x with
  | some d=>.pl d
  | none=>.no
 | none=>s
def Tg(a:List SN):ZY->List (Option SV)->ZY
 | [],_=>[]
 | s::env,[]=>s::env
 | s::env,o::sl=>P0 a s o::Tg a env sl
theorem DZ:∀(env:ZY)(a:List (Option SV)),(Tg b env a).length=env.length
 | [],_=>rfl
 | s::env,[]=>rfl
 | s::env,o::a=>by show(Tg b env a).length+1=_;rw[DZ env a];rfl
theorem Cc:∀{env:ZY}{sl:List (Option SV)}{i:Nat}{t:Sl},(Tg a env sl)[i]?=some t->(∃x d,sl[i]?=some (some x)/\Sh a 9 x=some d/\t=.pl d)\/env[i]?=some t\/t=.no
 | [],_,i,t,e=>by cases e
 | s::env,[],i,t,e=>.inr (.inl e)
 | s::env,o::sl,0,t,e=>by
  cases o with
  | none=>exact .inr (.inl e)
  | some x=>
   have e:P0 a s (some x)=t:=qZ e;unfold P0 at e;dsimp only at e;split at e
   ·rename_i d b;exact .inl ⟨x,d,rfl,b,e.symm⟩
   ·exact .inr (.inr e.symm)
 | s::env,o::sl,i+1,t,e=>Cc (env:=env) (sl:=sl) (i:=i) e
theorem SymOk.view(h:SymOk fx as H0 env σ H st):EnvOk (λ_=>False) H0 (Tg st.hp env st.sl) σ H:=by
 have p:∀a,own (Tg st.hp env st.sl) σ a->own env σ a:=λa ⟨i,d,k,g⟩=>by
  rcases Cc k with⟨x,m,_,_,z⟩|z|z
  ·cases z
  ·exact⟨i,d,z,g⟩
  ·cases z
 have n:Z3 (Z6 (λb=>fx b\/own env σ b) H) (Z6 (λb=>False\/own (Tg st.hp env st.sl) σ b) H):=Z6.sub λb z=>z.elim False.elim λy=>.inr (p b y);have r:Z3 (Z6 (own env σ) H) (Z6 (λb=>False\/own (Tg st.hp env st.sl) σ b) H):=Z6.sub λb z=>z.elim False.elim λy=>p b y
 have l:∀(i:Nat)(d:PyData),(Tg st.hp env st.sl)[i]?=some (.ac d)->env[i]?=some (.ac d):=λi d e=>by
  rcases Cc e with⟨x,m,_,_,z⟩|z|z
  ·cases z
  ·exact z
  ·cases z
 refine⟨by rw[DZ];exact h.ok.len,λi d e=>?_,λi d e=>?_,λi j d e a s t=>h.ok.inj i j d e a (l i d s) (l j e t),h.ok.base,λb z=>z.elim⟩
 ·rcases Cc e with⟨x,m,k,g,z⟩|z|z
  ·cases z;obtain⟨_,v,c,f⟩:=h.sl i x k;exact⟨v,c,Rp.same r _ (h.rd 9 x v _ f g)⟩
  ·obtain⟨v,c,f⟩:=h.ok.pl i d z;exact⟨v,c,Rp.same n _ f⟩
  ·cases z
 ·obtain⟨a,c,f,u,q⟩:=h.ok.ac i d (l i d e);exact⟨a,c,f,λz=>z,q.same n λo z=>z⟩
end
abbrev Cj:=ZY->WH->Option Bool
def nO(e:TT)(g:Cj):Prop:=∀(B:Addr->Prop)(f:Hp)(a:ZY)(σ:St)(H:Hp)(c:WH),XG B f a σ H c->∀b,g a c=some b->∀Q:Bool->Hp->Prop,(∀d,Z3 H d->Q b d)->e σ H Q
def yT(c:TF):Cj:=λa b=>c (Tg b.hp a b.sl)
theorem Qv(h:ST a c):nO a (yT c):=λB H0 env σ H st ⟨fx,as,k,kb⟩ b e Q q=>h _ H0 _ σ H k.view b e Q q
abbrev KD:=ZY->WH->Option PyData
def Do(e:TE)(g:KD):Prop:=∀(B:Addr->Prop)(f:Hp)(a:ZY)(σ:St)(H:Hp)(c:WH),XG B f a σ H c->∀d,g a c=some d->∀Q:VK,(∀v b,Z3 H b->Rp b d v->Q v b)->e σ H Q
def yE(g:EF):KD:=λa b=>(g (Tg b.hp a b.sl)).map λr=>r.d
theorem KW(h:SE f g):Do f (yE g):=λB H0 env σ H st ⟨fx,as,k,kb⟩ d e Q q=>by
 obtain⟨r,a,rfl⟩:=qG.mp e;exact h _ H0 _ σ H k.view r a Q λv b s c=>q v b s (Rp.same (Z6.same _ _) _ c.rp)
inductive LH where
 | nx (env:ZY) (st:WH)
 | bk (env:ZY) (st:WH)
 | ct (env:ZY) (st:WH)
 | rt (d:PyData)
abbrev Vy:=ZY->WH->Option LH
def uc(B:Addr->Prop)(b:Hp)(D:XU):LH->Prop
 | .nx a st=>∀σ H,XG B b a σ H st->D.nx σ H
 | .bk a st=>∀σ H,XG B b a σ H st->D.bk σ H
 | .ct a st=>∀σ H,XG B b a σ H st->D.ct σ H
 | .rt d=>∀v H,Z3 b H->XF d=true->Rp H d v->D.rt v H
def Vd(d:TS)(F:Vy):Prop:=∀(B:Addr->Prop)(b:Hp)(a:ZY)(σ:St)(H:Hp)(c:WH)(D:XU),XG B b a σ H c->∀o,F a c=some o->uc B b D o->d D σ H
def Uk:Vy:=λa b=>some (.nx a b)
theorem Ny:Vd U2 Uk:=λB b a σ H c D h o e q=>by cases e;exact q σ H h
def Yg(a b:Vy):Vy:=λc d=>(a c d).bind λo=>match o with
 | .nx e s=>b e s
 | o=>some o
theorem Q5(h1:Vd t a)(h2:Vd u b):Vd (WE t u) (Yg a b):=by
 intro B j c σ H m D l o e q;unfold Yg at e;obtain⟨i,k,e⟩:=qA.mp e;refine h1 B j c σ H m _ l i k ?_
 cases i with
 | nx g h=>exact λf p n=>h2 B j g f p h D n o e q
 | bk g h=>cases e;exact q
 | ct g h=>cases e;exact q
 | rt d=>cases e;exact q
def R1(c:Cj)(a b:Vy):Vy:=λd e=>(c d e).bind λx=>if x=true then a d e else b d e
theorem Nw(l:nO k c)(h1:Vd t a)(h2:Vd u b):Vd (Uo k t u) (R1 c a b):=by
 intro B h d σ H g D f o e q;unfold R1 at e;obtain⟨i,m,e⟩:=qA.mp e;refine l B h d σ H g f i m _ λj s=>?_
 cases i with
 | true=>exact WA (h1 B h d σ j g D (f.up s) o e q)
 | false=>exact WB (h2 B h d σ j g D (f.up s) o e q)
def SD(g:KD):Vy:=λa b=>(g a b).bind λd=>if XF d=true then some (.rt d)else none
theorem IL(h:Do c g):Vd (WR c) (SD g):=by
 intro B m a σ H i D b o e q;unfold SD at e;obtain⟨d,j,e⟩:=qA.mp e;split at e
 ·rename_i f;cases e;exact h B m a σ H i b d j _ λv l s r=>q v l (let⟨fx,as,k,kb⟩:=b;k.ok.base.trans s) f r
 ·cases e
def NV(f:List Nat)(a:List (Option SV)):Bool:=(List.range a.length).all λi=>match a[i]? with
 | some (some _)=>f.contains i
 | _=>true
theorem AW(h:NV f a=true)(e:a[i]?=some (some x)):i∈f:=by
 have b:i<a.length:=(qK.mp e).1;have:=Ug.mp h i (TY.mpr b);rw[e]at this;exact List.contains_iff_mem.mp this
def Sx(a:ZY)(b:List (Option SV)):Bool:=(List.range b.length).all λi=>match b[i]? with
 | some (some _)=>(match a[i]? with
  | some .no=>true
  | _=>false)
 | _=>true
theorem yb{a:ZY}{b:List (Option SV)}(h:Sx a b=true){i:Nat}{x:SV}(e:b[i]?=some (some x)):a[i]?=some .no:=by
 have c:i<b.length:=(qK.mp e).1;have:=Ug.mp h i (TY.mpr c);rw[e]at this;dsimp only at this;split at this
 ·assumption
 ·cases this
def yS(f:List Nat)(F:SF):Vy:=λb a=>if NV f a.sl=true then(F b).bind λo=>match o with
 | .nx e=>if Sx e a.sl=true then some (.nx e a)else none
 | .bk e=>if Sx e a.sl=true then some (.bk e a)else none
 | .ct e=>if Sx e a.sl=true then some (.ct e a)else none
 | .rt d fr=>if XF d=true then some (.rt d)else none
 else none
theorem EZ{f:List Nat}{N:TS}{F:SF}(h:jX (λj=>j∈f) N F):Vd N (yS f F):=by
 rintro B Y p σ H Q D ⟨A,W,k,T⟩ o e q;unfold yS at e;split at e
 ·rename_i I;obtain⟨P,r,e⟩:=qA.mp e;have M:=k.ok.floor
  have u:∀{g:ZY}{c:St}{l:Hp},EnvOk A (Z6 (own p σ) H) g c l->(∀j,j∈f->c[j]?=σ[j]?)->Sx g Q.sl=true->XG B Y g c l Q:=λ{g c l} m y t=>by
   have J:Z3 (Zz (λb=>A b\/own p σ b) H) (Zz (λb=>A b\/own g c b) l):=λb o e=>by
    obtain⟨r,z⟩:=Zz.of e;rcases z with z|⟨Z,rfl⟩
    ·exact Zz.offs _ _ b o (m.seen b o (by rw[Z6.get z];exact r))
    ·have R:¬own p σ b:=λ⟨i,d,g1,g2⟩=>by
      obtain⟨a,L,k2,k3,G⟩:=k.ok.ac i d g1;rw[g2]at L;cases L
      cases d with
      | list U=>obtain⟨S,C,_⟩:=G;rw[r]at C;cases C
      | dict U=>obtain⟨S,C,_⟩:=G;rw[r]at C;cases C
      | _=>exact G
     exact Zz.tup (m.base b _ (by rw[Z6.get R];exact r))
   exact⟨A,W,⟨m.unbase M,k.nd,k.len,k.off,k.low,λn s a r E=>(k.nod n s a r E).mono (λo z=>m.base a o (by rw[Z6.get (k.ok.notOwn (k.off a (Ub E)))];exact z)) λ_ _ z=>z.same J,
    λi x e=>let⟨_,v,h2,h3⟩:=k.sl i x e;⟨yb t e,v,(y i (AW I e)).trans h2,h3.same J⟩⟩,T⟩
  refine h A _ p σ H _ k.ok.rebase P r ?_
  cases P with
  | nx E=>
   dsimp only at e;split at e
   ·rename_i t;cases e;exact λc l m y=>q c l (u m y t)
   ·cases e
  | bk E=>
   dsimp only at e;split at e
   ·rename_i t;cases e;exact λc l m y=>q c l (u m y t)
   ·cases e
  | ct E=>
   dsimp only at e;split at e
   ·rename_i t;cases e;exact λc l m y=>q c l (u m y t)
   ·cases e
  | rt d fr=>
   dsimp only at e;split at e
   ·rename_i O;cases e;exact λw l X rt=>q w l (M.trans X) O (O7 O rt.1)
   ·cases e
 ·cases e
theorem Bk{b:ZY}{σ:St}(e:∀d,s≠.ac d):∀a,own (b.set i s) (σ.set i w) a->own b σ a:=by
 rintro a ⟨j,d,f,c⟩;rcases WY f with⟨rfl,z⟩|⟨n,z⟩
 ·exact absurd z.symm (e d)
 ·exact⟨j,d,z,by rw[qY λy=>n y.symm]at c;exact c⟩
section
variable{α β:Type}{F:α->β->Prop}
theorem jL:∀{a:List α}{vs:List β},Paired F a vs->∀{j:Nat}{x:α},a[j]?=some x->∃v,vs[j]?=some v/\F x v
 | _,_,.nil,j,x,e=>by cases e
 | _,_,.cons r t,0,x,e=>by cases e;exact⟨_,rfl,r⟩
 | _,_,.cons r t,j+1,x,e=>jL t (j:=j) e
theorem CF:∀{b:List α}{vs:List β}{a:List α}{c:List β},Paired F b vs->Paired F a c->Paired F (b++a) (vs++c)
 | _,_,_,_,.nil,h=>h
 | _,_,_,_,.cons r t,h=>.cons r (CF t h)
theorem kT:∀{a:List α}{vs:List β},Paired F a vs->Paired F a.reverse vs.reverse
 | _,_,.nil=>.nil
 | _,_,.cons r t=>by rw[CB,CB];exact CF (kT t) (.cons r .nil)
theorem CC:∀{a:List α}{vs:List β},Paired F a vs->a.length=vs.length
 | _,_,.nil=>rfl
 | _,_,.cons r t=>congrArg (·+1) (CC t)
theorem HX(h:Paired F a vs)(e:atI a i=some x):∃v,atI vs i=some v/\F x v:=by
 unfold atI at e ⊢;rw[<- CC h]
 cases g:UM a.length i with
 | none=>rw[g]at e;cases e
 | some j=>rw[g]at e;exact jL h e
end
theorem M5:∀{l:List α},l.Nodup->∀{i j:Nat}{a:α},l[i]?=some a->l[j]?=some a->i=j
 | [],_,i,j,a,e,_=>by cases e
 | x::l,h,0,0,a,_,_=>rfl
 | x::l,h,0,j+1,a,e1,e2=>by
  cases e1;exact absurd (Ub (l:=l) e2) (Vl.mp h).1
 | x::l,h,i+1,0,a,e1,e2=>by
  cases e2;exact absurd (Ub (l:=l) e1) (Vl.mp h).1
 | x::l,h,i+1,j+1,a,e1,e2=>congrArg (·+1) (M5 (Vl.mp h).2 e1 e2)
abbrev YF:=ZY->WH->Option SV
def QL(h:TE)(g:YF):Prop:=∀(e:Addr->Prop)(d:List Addr)(i:Hp)(a:ZY)(σ:St)(H:Hp)(f:WH),SymOk e d i a σ H f->∀x,g a f=some x->∀Q:VK,
 (∀v c,Z3 H c->Vw (Zz (λb=>e b\/own a σ b) c) d x v->Q v c)->h σ H Q
def Xq(i:Nat):YF:=λ_ a=>match a.sl[i]? with
 | some (some x)=>some x
 | _=>none
theorem Ke(i:Nat):QL (YR i) (Xq i):=by
 intro g f k b σ H j h x e Q q;unfold Xq at e;split at e
 ·rename_i y a;cases e;obtain⟨_,v,c,d⟩:=h.sl i _ a;exact⟨v,c,q v H (Z3.refl _) d⟩
 ·cases e
def L9(g:KD):YF:=λa b=>(g a b).bind λd=>if XF d=true then some (.dt d)else none
theorem G3(h:Do f g):QL f (L9 g):=by
 intro b c n a σ H k j x e Q q;unfold L9 at e;obtain⟨d,l,e⟩:=qA.mp e;split at e
 ·rename_i i;cases e;exact h b n a σ H k ⟨b,c,j,λ_ z=>z⟩ d l Q λv m s r=>q v m s (O7 i r)
 ·cases e
def Ds(g:EF):YF:=λa _=>(g a).bind λr=>if r.bs.isEmpty=true then some (.dt r.d)else none
theorem uw(h:SE i g):QL i (Ds g):=by
 intro f n l a σ H o j x e Q q;unfold Ds at e;obtain⟨r,d,e⟩:=qA.mp e;split at e
 ·rename_i c;cases e;refine h f l a σ H j.ok r d Q λv k s m=>q v k s (Rp.same (Zz.offs _ _) _ (Rp.same (Z6.sub λb z=>?_) _ m.rp));have c:r.bs=[]:=zu.mp c;rw[c];exact HW b z
 ·cases e
def JP(b:List SN):SV->Option (List SV)
 | .lo n=>match b[n]? with
  | some (.ls a)=>some a
  | some (.tp a)=>some a
  | none=>none
 | .dt _=>none
def Qa(g:YF)(t:KD):YF:=λa b=>(g a b).bind λx=>(JP b.hp x).bind λxs=>(t a b).bind λd=>match d with
 | .int i=>atI xs i
 | _=>none
theorem Ed{K:qC}{F B:TE}{g:YF}{t:KD}(L:QL F g)(P:Do B t):QL (Ul (T3 K) F B) (Qa g t):=by
 intro f I D b σ H J p x e Q q;unfold Qa at e;obtain⟨y,N,C⟩:=qA.mp e;obtain⟨U,ex,G⟩:=qA.mp C;obtain⟨d,R,m⟩:=qA.mp G;clear e C G;refine L f I D b σ H J p y N _ λv O c T=>P f D b σ O J ⟨f,I,p.up c,λ_ z=>z⟩ d R _ λw s h S=>?_
 cases d with
 | int i=>
  cases Ws S
  cases y with
  | dt _=>cases ex
  | lo n=>
   obtain⟨a,E,rfl⟩:=T;have A:=p.up (c.trans h);unfold JP at ex;dsimp only at ex;split at ex
   ·rename_i M k;cases ex;obtain⟨vs,j,o⟩:=A.nod n _ a k E;obtain⟨u,r,l⟩:=HX o m;exact⟨vs,u,.inl (YK.of j),r,q u s (c.trans h) l⟩
   ·rename_i M k;cases ex;obtain⟨vs,j,o⟩:=A.nod n _ a k E;obtain⟨u,r,l⟩:=HX o m;exact⟨vs,u,.inr (Yh.of j),r,q u s (c.trans h) l⟩
   ·cases ex
 | _=>cases m
section
variable{fx:Addr->Prop}{as:List Addr}{H0:Hp}{env:ZY}{σ:St}{H H':Hp}{st:WH}
theorem SymOk.write (h:SymOk fx as H0 env σ H st) (f:as[n]?=some a) (u:st.hp[n]?=some (.ls E)) (A:Paired (Vw (Zz (λb=>fx b\/own env σ b) H) as) r vs) :
  SymOk fx as H0 env σ (upd H a (.lst vs)) ⟨st.sl,st.hp.set n (.ls r)⟩:=by
 have j:fx a:=h.off a (Ub f);have q:Z6 (λb=>fx b\/own env σ b) (upd H a (.lst vs))=Z6 (λb=>fx b\/own env σ b) H:=Z6.upd (.inl j);obtain⟨D,k,_⟩:=h.nod n _ a u f;have l:Zz (λb=>fx b\/own env σ b) (upd H a (.lst vs))=Zz (λb=>fx b\/own env σ b) H:=Zz.upd (.inl j) k;refine⟨⟨h.ok.len,λi d e=>?_,λi d e=>?_,h.ok.inj,λb o e=>?_,λb z=>?_⟩,h.nd,by rw[Wd];exact h.len,h.off,h.low,λm s b v g=>?_,λi x e=>?_⟩
 ·rw[q];exact h.ok.pl i d e
 ·obtain⟨c,B,C,p,w⟩:=h.ok.ac i d e;refine⟨c,B,C,p,?_⟩;rw[q];exact w.same (Z3.refl _) λo z=>by rw[Y0 λy=>p (by rw[y];exact j)];exact z
 ·rw[Y0 λy=>by rw[y,h.low a (Ub f)]at e;cases e];exact h.ok.base b o e
 ·by_cases y:b=a
  ·exact⟨_,by rw[y];exact Yr⟩
  ·obtain⟨o,e⟩:=h.ok.fxs b z;exact⟨o,by rw[Y0 y];exact e⟩
 ·rw[l];rcases WY v with⟨rfl,z⟩|⟨t,z⟩
  ·rw[f]at g;cases g;subst z;exact⟨vs,Yr,A⟩
  ·refine(h.nod m s b z g).mono (λo y=>?_) λ_ _ y=>y;rw[Y0 λy=>?_];exact y;exact t (M5 h.nd g (by rw[f,y]))
 ·rw[l];exact h.sl i x e
end
def Ua(b:List SN):SV->Option (Nat×List SV)
 | .lo n=>match b[n]? with
  | some (.ls a)=>some (n,a)
  | _=>none
 | .dt _=>none
theorem L0(h:Ua b x=some (n,a)):x=.lo n/\b[n]?=some (.ls a):=by
 cases x with
 | dt _=>cases h
 | lo m=>
  unfold Ua at h;dsimp only at h;split at h
  ·rename_i c e;cases h;exact⟨rfl,e⟩
  ·cases h
def Wr(g h:YF):Vy:=λa b=>(g a b).bind λx=>(Ua b.hp x).bind λp=>if p.2.length<100000 then(h a b).bind λy=>some (.nx a ⟨b.sl,b.hp.set p.1 (.ls (p.2++[y]))⟩)else none
theorem Nd{K:qC}{r l:TE}{g h:YF}(h1:QL r g)(h2:QL l h):Vd (XO (QD K "list" KI r (YW l XI))) (Wr g h):=by
 rintro B m b σ H t D ⟨c,j,k,F⟩ o e q;unfold Wr at e;obtain⟨x,ex,e⟩:=qA.mp e;obtain⟨⟨n,O⟩,A,e⟩:=qA.mp e;dsimp only at e;split at e
 ·rename_i G;obtain⟨y,C,e⟩:=qA.mp e;cases e;obtain⟨rfl,d⟩:=L0 A;refine h1 c j m b σ H t k _ ex _ λv E f L=>?_;obtain⟨a,i,rfl⟩:=L;obtain⟨vs,z,P⟩:=(k.up f).nod n _ a d i;refine⟨.inl ⟨rfl,vs,YK.of z⟩,h2 c j m b σ E t (k.up f) y C _ λw N u J=>?_⟩;have p:=(k.up f).up u;obtain⟨I,M,s⟩:=p.nod n _ a d i;exact⟨a,I,w,rfl,rfl,M,Nf (by rw[<- CC s];exact G),q σ _ ⟨c,j,p.write i d (CF s (.cons J .nil)),F⟩⟩
 ·cases e
def S0(g:YF):Vy:=λa b=>(g a b).bind λx=>(Ua b.hp x).bind λp=>some (.nx a ⟨b.sl,b.hp.set p.1 (.ls p.2.reverse)⟩)
theorem ri{K:qC}{l:TE}{g:YF}(h1:QL l g):Vd (XO (Qb K "list" F5 l)) (S0 g):=by
 rintro B s b σ H r D ⟨d,c,k,p⟩ o e q;unfold S0 at e;obtain⟨x,ex,e⟩:=qA.mp e;obtain⟨⟨n,w⟩,t,e⟩:=qA.mp e;cases e;obtain⟨rfl,i⟩:=L0 t;refine h1 d c s b σ H r k _ ex _ λv y f u=>?_;obtain⟨a,j,rfl⟩:=u;obtain⟨vs,h,m⟩:=(k.up f).nod n _ a i j;exact⟨.inl ⟨rfl,vs,YK.of h⟩,a,vs,rfl,rfl,h,q σ _ ⟨d,c,(k.up f).write j i (kT m),p⟩⟩
section
variable{fx:Addr->Prop}{as:List Addr}{H0:Hp}{env:ZY}{σ:St}{H H':Hp}{st:WH}
theorem SymOk.setSy(h:SymOk fx as H0 env σ H st)(r:Vw (Zz (λb=>fx b\/own env σ b) H) as x v)(f:i<env.length):SymOk fx as H0 (env.set i .no) (σ.set i (some v)) H ⟨(st.sl++List.replicate (env.length - st.sl.length) none).set i (some x),st.hp⟩:=by
 have c:Z3 (Zz (λb=>fx b\/own env σ b) H) (Zz (λb=>fx b\/own (env.set i .no) (σ.set i (some v)) b) H):=Zz.sub λb z=>z.imp (λy=>y) (Bk (λ_ z=>by cases z) b);refine⟨h.ok.kill i (some v),h.nd,h.len,h.off,h.low,λn s a k g=>(h.nod n s a k g).mono (λ_ z=>z) λ_ _ z=>z.same c,λj y e=>?_⟩;rcases WY e with⟨rfl,z⟩|⟨d,z⟩
 ·cases z;exact⟨by rw[Te f],v,by rw[Te (by rw[<- h.ok.len];exact f)],r.same c⟩
 ·have z:st.sl[j]?=some (some y):=by
   by_cases lt:j<st.sl.length
   ·rw[qc lt]at z;exact z
   ·rw[qg (by omega),Gx]at z;split at z<;>cases z
  obtain⟨m,w,o,l⟩:=h.sl j y z;exact⟨by rw[qY λy=>d y.symm];exact m,w,by rw[qY λy=>d y.symm];exact o,l.same c⟩
end
def LJ(a:WH)(n i:Nat)(x:SV):WH:=⟨(a.sl++List.replicate (n - a.sl.length) none).set i (some x),a.hp⟩
inductive NT where
 | lf (d:PyData)
 | ls (ts:List NT)
 | tp (ts:List NT)
mutual
def Za(L:PyData->V->Prop)(H:Hp):NT->V->List Addr->Prop
 | .lf d,v,c=>c=[]/\L d v
 | .ls e,v,c=>∃a vs b,v=.ref a/\H a=some (.lst vs)/\c=a::b/\ZC L H e vs b
 | .tp e,v,c=>∃a vs b,v=.ref a/\H a=some (.tup vs)/\c=a::b/\ZC L H e vs b
def ZC(L:PyData->V->Prop)(H:Hp):List NT->List V->List Addr->Prop
 | [],vs,b=>vs=[]/\b=[]
 | t::c,vs,b=>∃v a a1 a2,vs=v::a/\b=a1++a2/\Za L H t v a1/\ZC L H c a a2
end
mutual
theorem Za.mono{L n:PyData->V->Prop}(g:∀d v,L d v->n d v):∀(t:NT){v:V}{f:List Addr},Za L H t v f->(∀a∈f,∀o,H a=some o->p a=some o)->Za n p t v f
 | .lf d,v,f,h,_=>by
  unfold Za at h ⊢;exact⟨h.1,g _ _ h.2⟩
 | .ls ts,v,f,h,k=>by
  unfold Za at h ⊢;obtain⟨a,vs,c,l,m,e,i⟩:=h;exact⟨a,vs,c,l,k a (by rw[e];exact .head _) _ m,e,ZC.mono g ts i λb j=>k b (by rw[e];exact .tail _ j)⟩
 | .tp ts,v,f,h,k=>by
  unfold Za at h ⊢;obtain⟨a,vs,c,l,m,e,i⟩:=h;exact⟨a,vs,c,l,k a (by rw[e];exact .head _) _ m,e,ZC.mono g ts i λb j=>k b (by rw[e];exact .tail _ j)⟩
theorem ZC.mono{L l:PyData->V->Prop}(j:∀d v,L d v->l d v):∀(e:List NT){vs:List V}{c:List Addr},ZC L H e vs c->(∀a∈c,∀o,H a=some o->r a=some o)->ZC l r e vs c
 | [],vs,c,h,_=>by unfold ZC at h ⊢;exact h
 | t::e,vs,c,h,k=>by
  unfold ZC at h ⊢;obtain⟨v,f,n,s,q,i,p,m⟩:=h;exact⟨v,f,n,s,q,i,Za.mono j t p λb g=>k b (by rw[i];exact Uw _ g),ZC.mono j e m λb g=>k b (by rw[i];exact qf _ g)⟩
end
mutual
theorem Za.live{L:PyData->V->Prop}:∀(t:NT){v:V}{e:List Addr},Za L H t v e->∀a∈e,∃o,H a=some o
 | .lf d,v,e,h=>by
  unfold Za at h;intro a k;rw[h.1]at k;cases k
 | .ls ts,v,e,h=>by
  unfold Za at h;obtain⟨a,vs,g,l,j,i,f⟩:=h;intro b c;rw[i]at c;rcases qN.mp c with rfl|c
  ·exact⟨_,j⟩
  ·exact ZC.live ts f b c
 | .tp ts,v,e,h=>by
  unfold Za at h;obtain⟨a,vs,g,l,j,i,f⟩:=h;intro b c;rw[i]at c;rcases qN.mp c with rfl|c
  ·exact⟨_,j⟩
  ·exact ZC.live ts f b c
theorem ZC.live{L:PyData->V->Prop}:∀(e:List NT){vs:List V}{d:List Addr},ZC L H e vs d->∀a∈d,∃o,H a=some o
 | [],vs,d,h=>by
  unfold ZC at h;intro a f;rw[h.2]at f;cases f
 | t::e,vs,d,h=>by
  unfold ZC at h;obtain⟨v,g,l,n,m,k,j,i⟩:=h;intro b c;rw[k]at c;rcases qk.mp c with c|c
  ·exact Za.live t j b c
  ·exact ZC.live e i b c
end
theorem q0{L:PyData->V->Prop}:ZC L H [] [] []:=by unfold ZC;exact⟨rfl,rfl⟩
theorem Cq{L:PyData->V->Prop}(h:Za L H t v a1)(k:ZC L H a vs a2):ZC L H (t::a) (v::vs) (a1++a2):=by
 unfold ZC;exact⟨v,vs,a1,a2,rfl,rfl,h,k⟩
theorem Hz{L:PyData->V->Prop}:∀{a:List NT}{vs:List V}{b:List Addr},ZC L H a vs b->a.length=vs.length
 | [],vs,b,h=>by
  unfold ZC at h;rw[h.1];rfl
 | t::a,vs,b,h=>by
  unfold ZC at h;obtain⟨v,c,b1,b2,e,g,f,d⟩:=h;rw[e];exact congrArg (·+1) (Hz d)
mutual
def al:NT->Nat->SV×List SN
 | .lf d,_=>(.dt d,[])
 | .ls a,n=>(.lo n,.ls (VF a (n+1)).1::(VF a (n+1)).2)
 | .tp a,n=>(.lo n,.tp (VF a (n+1)).1::(VF a (n+1)).2)
def VF:List NT->Nat->List SV×List SN
 | [],_=>([],[])
 | t::a,n=>((al t n).1::(VF a (n+(al t n).2.length)).1,(al t n).2++(VF a (n+(al t n).2.length)).2)
end
mutual
theorem Ht:∀(t:NT){v:V}{c:List Addr},Za (Rp r) H t v c->∀(n:Nat)(L:List Addr),(∀(j:Nat)(a:Addr),c[j]?=some a->L[n+j]?=some a)->
  c.length=(al t n).2.length/\Vw r L (al t n).1 v/\∀(j:Nat)(s:SN)(a:Addr),(al t n).2[j]?=some s->c[j]?=some a->Kv r H L s a
 | .lf d,v,c,h,n,L,k=>by
  unfold Za at h;obtain⟨rfl,h⟩:=h;unfold al;exact⟨rfl,h,λj s a e=>by cases e⟩
 | .ls ts,v,c,h,n,L,k=>by
  unfold Za at h;obtain⟨a,vs,m,rfl,q,rfl,i⟩:=h
  obtain⟨l,p,o⟩:=Ui ts i (n+1) L λj b e=>by
   have:=k (j+1) b e;rw[show n+1+j=n+(j+1) by omega];exact this
  unfold al;refine⟨congrArg (·+1) l,⟨a,k 0 a rfl,rfl⟩,λj s b g f=>?_⟩
  cases j with
  | zero=>cases g;cases f;exact⟨vs,q,p⟩
  | succ j=>exact o j s b g f
 | .tp ts,v,c,h,n,L,k=>by
  unfold Za at h;obtain⟨a,vs,m,rfl,q,rfl,i⟩:=h
  obtain⟨l,p,o⟩:=Ui ts i (n+1) L λj b e=>by
   have:=k (j+1) b e;rw[show n+1+j=n+(j+1) by omega];exact this
  unfold al;refine⟨congrArg (·+1) l,⟨a,k 0 a rfl,rfl⟩,λj s b g f=>?_⟩
  cases j with
  | zero=>cases g;cases f;exact⟨vs,q,p⟩
  | succ j=>exact o j s b g f
theorem Ui:∀(d:List NT){vs:List V}{c:List Addr},ZC (Rp l) H d vs c->∀(n:Nat)(L:List Addr),(∀(j:Nat)(a:Addr),c[j]?=some a->L[n+j]?=some a)->
  c.length=(VF d n).2.length/\Paired (Vw l L) (VF d n).1 vs/\∀(j:Nat)(s:SN)(a:Addr),(VF d n).2[j]?=some s->c[j]?=some a->Kv l H L s a
 | [],vs,c,h,n,L,k=>by
  unfold ZC at h;obtain⟨rfl,rfl⟩:=h;unfold VF;exact⟨rfl,.nil,λj s a e=>by cases e⟩
 | t::d,vs,c,h,n,L,k=>by
  unfold ZC at h;obtain⟨v,o,m,z,rfl,rfl,r,p⟩:=h;obtain⟨g,x,w⟩:=Ht t r n L λj b e=>k j b (by rw[qc (qK.mp e).1];exact e)
  obtain⟨u,q,y⟩:=Ui d p (n+(al t n).2.length) L λj b e=>by
   have:=k (m.length+j) b (by rw[qg (Ks _ _),Bb];exact e);rw[<- g,Nat.add_assoc];exact this
  unfold VF;refine⟨by rw[qU,qU,g,u],.cons x q,λj s b i f=>?_⟩;by_cases lt:j<m.length
  ·rw[qc lt]at f;rw[qc (by rw[<- g];exact lt)]at i;exact w j s b i f
  ·rw[qg (by omega)]at f;rw[qg (by rw[<- g];omega)]at i;rw[g]at f;exact y _ s b i f
end
section
variable{fx:Addr->Prop}{as:List Addr}{H0:Hp}{env:ZY}{σ:St}{H H':Hp}{st:WH}
theorem EnvOk.more(h:EnvOk fx H0 env σ H)(s:Z3 H H'){c:List Addr}(f:∀a∈c,H a=none)(d:∀a∈c,∃o,H' a=some o):EnvOk (λb=>fx b\/b∈c) H0 env σ H':=
 h.grow s (λb o e n z=>z.elim n λy=>by rw[f b y]at e;cases e) λb z=>z.elim (λy=>let⟨o,e⟩:=h.fxs b y;⟨o,s b o e⟩) (d b)
theorem nK(s:Z3 H H'){A:Addr->Prop}{c:List Addr}(d:∀a∈c,H a=none):Z3 (Z6 (λb=>fx b\/A b) H) (Z6 (λb=>(fx b\/b∈c)\/A b) H'):=
 Z6.mono s λb o e n z=>z.elim (λy=>y.elim (λx=>n (.inl x)) λx=>by rw[d b x]at e;cases e) λy=>n (.inr y)
theorem ux(s:Z3 H H'){A:Addr->Prop}{c:List Addr}(d:∀a∈c,H a=none):Z3 (Zz (λb=>fx b\/A b) H) (Zz (λb=>(fx b\/b∈c)\/A b) H'):=
 Zz.mono s λb o e n z=>z.elim (λy=>y.elim (λx=>n (.inl x)) λx=>by rw[d b x]at e;cases e) λy=>n (.inr y)
theorem SymOk.intro (h:SymOk fx as H0 env σ H st) (s:Z3 H H') {t:NT} {v:V} {c:List Addr} (k:Za (Rp (Zz (λb=>(fx b\/b∈c)\/own env σ b) H')) H' t v c) (q:c.Nodup) (f:∀a∈c,H a=none) :
  SymOk (λb=>fx b\/b∈c) (as++c) H0 env σ H' ⟨st.sl,st.hp++(al t st.hp.length).2⟩/\Vw (Zz (λb=>(fx b\/b∈c)\/own env σ b) H') (as++c) (al t st.hp.length).1 v:=by
 have B:=Za.live t k;have p:=ux (A:=own env σ) (fx:=fx) s f
 obtain⟨u,D,E⟩:=Ht t k st.hp.length (as++c) λj a e=>by
  rw[<- h.len,qg (Ks _ _),Bb];exact e
 refine⟨⟨h.ok.more s f B,?_,by rw[qU,qU,h.len,u],λa d=>?_,λa d=>?_,λn x a g l=>?_,λi x e=>?_⟩,D⟩
 ·refine R0.mpr ⟨h.nd,q,λa d b r e=>?_⟩;obtain⟨o,m⟩:=h.ok.fxs a (h.off a d);rw[e,f b r]at m;cases m
 ·exact(qk.mp d).imp (h.off a) id
 ·exact(qk.mp d).elim (h.low a) λz=>h.ok.base.free (f a z)
 ·by_cases lt:n<st.hp.length
  ·rw[qc lt]at g;rw[qc (by rw[h.len];exact lt)]at l;exact(h.nod n x a g l).mono (λo z=>s a o z) λ_ _ z=>(z.same p).ext
  ·rw[qg (by omega)]at g;rw[qg (by rw[h.len];omega),h.len]at l;exact E _ x a g l
 ·obtain⟨C,w,F,y⟩:=h.sl i x e;exact⟨C,w,F,(y.same p).ext⟩
end
abbrev Vu:=ZY->Option NT
def Jx(h:TE)(g:Vu):Prop:=∀(f:Addr->Prop)(i:Hp)(c:ZY)(σ:St)(H:Hp),EnvOk f i c σ H->∀t,g c=some t->∀Q:VK,
 (∀v e d,Z3 H e->Za (Rp (Z6 (λb=>(f b\/b∈d)\/own c σ b) e)) e t v d->d.Nodup->(∀a∈d,H a=none)->Q v e)->h σ H Q
abbrev VB:=ZY->Option (List NT)
def C6(i:TA)(g:VB):Prop:=∀(h:Addr->Prop)(j:Hp)(c:ZY)(σ:St)(H:Hp),EnvOk h j c σ H->∀f,g c=some f->∀Q:List V->Hp->Prop,
 (∀vs e d,Z3 H e->ZC (Rp (Z6 (λb=>(h b\/b∈d)\/own c σ b) e)) e f vs d->d.Nodup->(∀a∈d,H a=none)->Q vs e)->i σ H Q
def BI(g:EF):Vu:=λa=>(g a).bind λr=>if r.bs.isEmpty=true then some (.lf r.d)else none
theorem pa(h:SE j g):Jx j (BI g):=by
 intro i m c σ H k t e Q q;unfold BI at e;obtain⟨r,f,e⟩:=qA.mp e;split at e
 ·rename_i d;cases e;have d:r.bs=[]:=zu.mp d;refine h i m c σ H k r f Q λv l s n=>q v l [] s ?_ .nil λa z=>by cases z
  unfold Za;refine⟨rfl,Rp.same (Z6.sub λb z=>?_) _ n.rp⟩;rw[d];exact HW b (z.elim (λy=>y.elim .inl λx=>by cases x) .inr)
 ·cases e
theorem xH{L:PyData->V->Prop}(b:∀d v,Rp G d v->L d v):∀{a:List PyData}{vs:List V},ZH G a vs->ZC L H (a.map .lf) vs []
 | [],vs,h=>by unfold ZH at h;rw[h];exact q0
 | d::a,vs,h=>by
  unfold ZH at h;obtain⟨v,c,rfl,e,f⟩:=h;exact Cq (a1:=[]) (a2:=[]) (by unfold Za;exact⟨rfl,b _ _ e⟩) (xH b f)
def QZ(g:EF):Vu:=λa=>(g a).bind λr=>if r.bs.isEmpty=true/\r.fr=true then(match r.d with
 | .list ds=>some (.ls (ds.map .lf))
 | _=>none)else none
theorem Hs(h:SE o g):Jx o (QZ g):=by
 intro n C c σ H p t e Q q;unfold QZ at e;obtain⟨r,m,e⟩:=qA.mp e;split at e
 ·rename_i i;have f:r.bs=[]:=zu.mp i.1;split at e
  ·rename_i F x;cases e;refine h n C c σ H p r m Q λv B s E=>?_;obtain⟨a,A,D,j⟩:=E.fr i.2;rw[x]at j;obtain⟨k,u,l⟩:=j
   refine q v B [a] s ?_ (Vl.mpr ⟨(λz=>by cases z),HV⟩) λb z=>by
    rcases qN.mp z with rfl|z
    ·exact D
    ·cases z
   unfold Za;refine⟨a,k,[],A,u,rfl,xH (λd w y=>Rp.same (Z6.sub λb z=>?_) d y) l⟩;rw[f];rcases z with(z|z)|z
   ·exact .inl (HW b (.inl z))
   ·exact .inr (by rcases qN.mp z with z|z;exact z;cases z)
   ·exact .inl (HW b (.inr z))
  ·cases e
 ·cases e
def EG:VB:=λ_=>some []
theorem rg:C6 XI EG:=by
 intro f c b σ H d t e Q q;cases e;exact q [] H [] (Z3.refl _) q0 .nil λa z=>by cases z
def NM(g:Vu)(k:VB):VB:=λa=>(g a).bind λt=>(k a).map λb=>t::b
theorem xX{c bs:List Addr}{H:Hp}(h1:c.Nodup)(h2:bs.Nodup)(i:∀a∈c,∃o,H a=some o)(g:∀a∈bs,H a=none):(c++bs).Nodup:=
 R0.mpr ⟨h1,h2,λa f b h e=>by obtain⟨o,d⟩:=i a f;rw[e,g b h]at d;cases d⟩
theorem vh(h:q↔r\/s):(p\/q)\/t↔((p\/r)\/s)\/t:=by rw[h,or_assoc (a:=p) (b:=r) (c:=s)]
theorem Ap{B:TE}{A:TA}{g:Vu}{k:VB}(h1:Jx B g)(h2:C6 A k):C6 (YW B A) (NM g k):=by
 intro i C c σ H p t e Q q;unfold NM at e;obtain⟨n,I,e⟩:=qA.mp e;obtain⟨u,M,rfl⟩:=qG.mp e;refine h1 i C c σ H p n I _ λv L f m r N x=>?_;have s:=Za.live n r;refine h2 _ C c σ L (p.more m x s) u M _ λvs E h j F J l=>?_;have D:∀b,(i b\/b∈f++h)\/own c σ b↔((i b\/b∈f)\/b∈h)\/own c σ b:=λb=>vh qk;refine q (v::vs) E (f++h) (m.trans j) (Cq (Za.mono (λd w y=>Rp.same (Z3.trans (nK j l) (Z6.sub λb z=>(D b).mp z)) d y) n r λa _ o z=>j a o z) (ZC.mono (λd w y=>Rp.same (Z6.sub λb z=>(D b).mp z) d y) u F λ_ _ _ z=>z)) (xX N J s l) λa G=>?_;exact(qk.mp G).elim (x a) λz=>m.free (l a z)
def Mm(k:VB):Vu:=λa=>(k a).bind λb=>if b.length<=100000 then some (.tp b)else none
def Pk(c:List Nat)(i:Nat)(g:Vu):Vy:=λa b=>(g (frzs a c)).bind λt=>if i<a.length then some (.nx ((frzs a c).set i .no) (LJ ⟨b.sl,b.hp++(al t b.hp.length).2⟩ a.length i (al t b.hp.length).1))else none
theorem uV{a:ZY}{i j:Nat}(h:a[j]?=some .no):(frz1 a i)[j]?=some .no:=by
 unfold frz1;split
 ·rename_i d e;rw[qY λz=>by subst z;rw[h]at e;cases e];exact h
 ·exact h
theorem Gk:∀(bs:List Nat){a:ZY}{j:Nat},a[j]?=some .no->(frzs a bs)[j]?=some .no
 | [],_,_,h=>h
 | i::bs,_,_,h=>Gk bs (uV h)
theorem JT:∀{fz:List Nat}{env:ZY}(a:Addr),own (frzs env fz) σ a->own env σ a
 | [],_,_,h=>h
 | i::fz,env,a,h=>Jz a (JT (fz:=fz) (env:=frz1 env i) a h)
theorem SymOk.frzs{c:Addr->Prop}{d:List Addr}{g:Hp}{env:ZY}{σ:St}{H:Hp}{f:WH}(h:SymOk c d g env σ H f)(fz:List Nat):SymOk c d g (frzs env fz) σ H f:=by
 have j:Z3 (Zz (λb=>c b\/own env σ b) H) (Zz (λb=>c b\/own (L2.frzs env fz) σ b) H):=Zz.sub λb z=>z.imp id (JT b);exact⟨h.ok.frzs fz,h.nd,h.len,h.off,h.low,λn s a l k=>(h.nod n s a l k).mono (λ_ z=>z) λ_ _ z=>z.same j,λi x e=>let⟨h1,v,h2,h3⟩:=h.sl i x e;⟨Gk _ h1,v,h2,h3.same j⟩⟩
theorem yY(h1:Jx h g):Vd (Xy h (Y6 i)) (Pk m i g):=by
 rintro B C c σ H G D ⟨j,F,k,r⟩ o e q;unfold Pk at e;obtain⟨t,E,e⟩:=qA.mp e;split at e
 ·rename_i p;cases e;have a:=k.frzs m;refine h1 j C _ σ H a.ok t E _ λv l x s n d f=>?_;obtain⟨u,A⟩:=a.intro s (Za.mono (λd w y=>Rp.same (Zz.offs _ _) d y) t n λ_ _ _ z=>z) d f;have:=u.setSy A (i:=i) (by rw[yc];exact p);rw[yc]at this;exact q _ l ⟨_,_,this,λb z=>.inl (r b z)⟩
 ·cases e
def ND(Ok:Addr->Prop)(h:Addr->TS)(j:Nat)(D:XU)(σ:St)(g:Hp):XK:=λc i f=>∃C dx,c=.ref C/\Ok C/\i=some dx/\
 ∀e a,(∀b o,g b=some o->f b=some o->a b=some o)->OI f a->(∃k,a e=some (.ext (Wu e C dx k)))->
  h C {nx:=λd l=>D.nx (d.set j none) l,rt:=λ_ _=>False} (σ.set j (some (.ref e))) a
section
variable{X:Cx}{pins:List (Addr×Obj)}{σ:St}{H1:Hp}{s1:Shared}
theorem handled{Ok:Addr->Prop}{Q:Addr->TS}
  (P:X.N.Nodup)(R:X.N[j]?=some n)(q:X.env.scope.names.lookup n=some .local)(F:X.stack=X.env::X.outer)(M:X.env.frame=some X.env.locals)(L:Gl X p)(E:X.mg p=some (.ref B))
  (hex:∀C,Ok C->exmOne X.K (.ref C) (.ref B)=some true)(hs:∀C,Ok C->∀e,W2 (X.hold e) (O::suite) (Q C))(J:(p==("__debug__":Str))=false)
  (m:Inv X pins σ H1 s1)(hq:W6 X.prog X.w X.stack H1 s1 (ND Ok Q j D σ H1) y s') :
  wpAny (model X.prog X.w) X.A (noteFrame y X.env) (λ_ s2=>wpAny (model X.prog X.w) X.A (setFlight y none) (λ_ g=>wpAny (model X.prog X.w) X.A (handleBy y X.env [.ExceptHandler (some (.Name p cp)) (some n) (O::suite) Y]) (SP X pins D) X.xe g) X.xe s2) X.xe s':=by
 obtain⟨e,H,dx,H2,rfl,os,i,un,ok,t,stx⟩:=hq;have Z:=m.call' (s':=s') os un ok i (λb z=>absurd z (by simp));refine Ha Z F M (λb ob z=>un.there b ob z (by simp)) t λg H3 I3 ⟨T,hT1,hT2,hT3,hT4⟩ ho hkx hz3=>?_;obtain⟨C,a0,eC,f,G,sq⟩:=stx H3 (λb o z1 z2=>ho b o _ (m.hok b o z1).there.choose_spec z2) hkx;cases eC;cases G;obtain⟨⟨a1,sl,S,h1⟩,_,_⟩:=I3.hok e _ hT1;have tb:=(I3.hok T _ hT4).1;have U:=I3.hold e;refine wpAny_handleBy_cons (codeAny_handlers_test (E9 U L E ?_ J)) (by intro z;cases z);have LT:PySem.W.Looks (model X.prog X.w) g.heap (typeOf (.ref e)) (.ref H):=(mZ S).andThen .now;refine(PySem.W.exm_one (I3.kIn) LT (hex H f)).here ?_;show codeAny _ _ _ _ _;refine codeAny_handlers_suite_as (zY S rfl h1 tb λI kp d=>?_)
 have r:upd H3 T (.ext λh=>h.Tb T)=H3:=by
  funext b;by_cases l:b=T
  ·subst l;rw[Yr,hT4]
  ·rw[Y0 l]
 have J4:Inv (X.hold e) pins σ H3 {g with heap:=I}:=by
  have:=U.write (x:=T) (e:=T) (o:=.ext λh=>h.Tb T) (h':=I) (t':=g.toks) (by rw[hT4];exact True.intro) (.inl rfl) (λb u l z=>kp b u l z) (let⟨oT,_,z,_⟩:=d;⟨oT,z⟩) (Lr d);rw[r]at this;exact this
 refine wQ (X:=X) (Inv.unhold m.ok J4) P R (.inl q) (show ZF (.ref e) (.ref e)from rfl) (λs5 J5=>?_) (.inr q);refine TJ (hs H f e pins s5 _ H3 _ (J5.hold e) (sq e H3 (λ_ _ _ z=>z) (λ_ _ z _=>z) ⟨_,hT1⟩)) (λt s6 a=>?_) λ_ _ z=>z.elim
 cases t with
 | next=>
  obtain⟨c,s,k,a⟩:=a;exact xD (Inv.unhold m.ok k) P R q λs7 I7=>⟨_,_,I7,a⟩
 | ret u=>obtain⟨v,c,s,k,_,a⟩:=a;exact a.elim
 | brk=>obtain⟨c,s,k,a⟩:=a;exact a.elim
 | cont=>obtain⟨c,s,k,a⟩:=a;exact a.elim
end
structure VI(H:Hp)(e C dx:Addr)(d:PyData):Prop where
 ex:∃tv,H e=some (.ext (Wu e C dx tv))
 at_:∃v,H dx=some (.xd [("at",v)])/\∀H',Rp H' d v
theorem VI.up(h:VI H e C dx d)(s:Z3 H a):VI a e C dx d:=
 ⟨let⟨tv,z⟩:=h.ex;⟨tv,s _ _ z⟩,let⟨v,z,r⟩:=h.at_;⟨v,s _ _ z,r⟩⟩
def JH(j:Nat)(C:Addr)(d:PyData)(g:TE)(f:EF):Prop:=∀(c:Addr->Prop)(h:Hp)(a:ZY)(σ:St)(H:Hp)(e dx:Addr),EnvOk c h a σ H->σ[j]?=some (some (.ref e))->VI H e C dx d->∀r,f a=some r->∀Q:VK,(∀v b,Z3 H b->Xj (lim c a σ r.bs) H b r v->Q v b)->g σ H Q
def IT(j:Nat)(C:Addr)(d:PyData)(h:TA)(f:AF):Prop:=∀(c:Addr->Prop)(i:Hp)(a:ZY)(σ:St)(H:Hp)(e dx:Addr),EnvOk c i a σ H->σ[j]?=some (some (.ref e))->VI H e C dx d->∀g,f a=some g->∀Q:List V->Hp->Prop,
 (∀vs b,Z3 H b->Paired (λr v=>Xj (lim c a σ r.bs) H b r v) g vs->Q vs b)->h σ H Q
def wA(j:Nat)(C:Addr)(d:PyData)(f:TS)(F:SF):Prop:=∀(c:Addr->Prop)(b:Hp)(a:ZY)(σ:St)(H:Hp)(D:XU)(e dx:Addr),EnvOk c b a σ H->σ[j]?=some (some (.ref e))->VI b e C dx d->∀o,F a=some o->Ej c b (λk=>k=j) σ D o->f D σ H
section
variable{j:Nat}{C:Addr}{d:PyData}
theorem oP(h:SA g f):IT j C d g f:=λb i a σ H e dx c _ _=>h b i a σ H c
theorem si:JH j C d (P4 C (YR j)) (eC d):=by
 intro m n f σ H e dx h i b r g Q q;cases g;obtain⟨k,a⟩:=b.ex;obtain⟨v,l,c⟩:=b.at_;exact⟨_,i,e,dx,k,v,rfl,a,l,q v H (Z3.refl _) ⟨c _,λz=>by cases z⟩⟩
theorem Ep{K:qC}{c:Addr}{b:Bool}(m:kitOne K (.ref C) (.ref c)=some b):JH j C d (QV (LD K C) (YW (YR j) (YW (tC (.ref c)) XI))) (eC (.bool b)):=by
 intro n o f σ H e dx h k i r g Q q;cases g;obtain⟨l,a⟩:=i.ex;exact⟨_,k,e,dx,l,b,a,q _ H (Z3.refl _) ⟨TB,λz=>by cases z⟩,.inl ⟨c,rfl,m⟩⟩
theorem oZ:IT j C d XI Z8:=oP Tf
theorem rf(h1:JH j C d u f)(h2:IT j C d A g):IT j C d (YW u A) (Z7 f g):=by
 intro l p a σ H e dx h o n B b Q q;unfold Z7 at b;obtain⟨x,ex,b⟩:=qA.mp b;obtain⟨r,k,rfl⟩:=qG.mp b
 exact h1 l p a σ H e dx h o n x ex _ λv t c w=>h2 l p a σ t e dx (h.up c) o (n.up c) r k _ λvs s m i=>q (v::vs) s (c.trans m)
  (.cons (w.later (Z3.refl _) m λ_ z=>z) (Paired.mapP i λ_ _ z=>z.later c (Z3.refl _) λ_ y=>y))
theorem Ab(m:IT j C d x f):JH j C d (SY x) (ZE f):=by
 intro n y b σ H e dx h u t A a Q q;unfold ZE at a;obtain⟨k,o,a⟩:=qA.mp a;split at a
 ·rename_i v;cases a;refine m n y b σ H e dx h u t k o _ λvs B g w=>?_;have r:=S5 (λi s=>s) w;have l:=(h.up g).lims (Yj k);refine⟨R9 (by rw[<- r.length,Q9];exact v),λp c=>q _ _ (g.trans (Z3.new c)) ⟨KH c (Us l c) r,λz=>by cases z⟩⟩
 ·cases a
theorem AN(h1:JH j C d m f)(l:¬i=j):wA j C d (Xy m (Y6 i)) (Z1 i f):=by
 intro g u b σ H D e dx h p n o c q;unfold Z1 at c;obtain⟨r,a,rfl⟩:=qG.mp c;exact h1 g u b σ H e dx h p (n.up h.base) r a _ λv t s w=>q _ t (h.put s w i) λk x=>qY λz=>l (by rw[z];exact x)
end
def iJ(h:List Str)(i j:Nat)(w:Str)(n:Nat)(g:Tw)(f:AF)(k:Str->PyData->SF):SF:=λa=>(f a).bind λb=>if b.length=n then(g (XX b)).bind λr=>match r with
 | .ok d fr=>some (.nx (Vq a i ⟨.tuple [.str w,d],false,Yj b⟩))
 | .rx c d=>if c∈h then(k c d (a.set j .no)).bind λo=>match o with
  | .nx e=>some (.nx (e.set j .no))
  | _=>none else none else none
theorem EnvOk.setNo{j:Addr->Prop}{c:ZY}{σ:St}(h:EnvOk j E c σ H)(i:Nat)(v:Option V):EnvOk j E (c.set i .no) (σ.set i v) H:=by
 have p:∀b,own (c.set i .no) (σ.set i v) b->own c σ b:=λb ⟨k,d,h1,h2⟩=>by
  rcases WY h1 with⟨_,z⟩|⟨n,z⟩
  ·cases z
  ·exact⟨k,d,z,by rw[qY (λy=>n y.symm)]at h2;exact h2⟩
 refine⟨by rw[Wd,Wd];exact h.len,λk d e=>?_,λk d e=>?_,λk l d A a w x q m=>?_,h.base,h.fxs⟩
 ·rcases WY e with⟨_,z⟩|⟨n,z⟩
  ·cases z
  ·obtain⟨u,f,g⟩:=h.pl k d z;exact⟨u,by rw[qY (λy=>n y.symm)];exact f,Rp.same (Z6.sub λb y=>y.imp id (p b)) _ g⟩
 ·rcases WY e with⟨_,z⟩|⟨n,z⟩
  ·cases z
  ·obtain⟨a,f,g,D,r⟩:=h.ac k d z;exact⟨a,by rw[qY (λy=>n y.symm)];exact f,g,D,r.same (Z6.sub λb y=>y.imp id (p b)) λo z=>z⟩
 ·rcases WY w with⟨_,z⟩|⟨C,B⟩
  ·cases z
  ·rcases WY x with⟨_,z⟩|⟨s,t⟩
   ·cases z
   ·rw[qY (λy=>C y.symm)]at q;rw[qY (λy=>s y.symm)]at m;exact h.inj k l d A a B t q m
theorem yU{h:Str->Addr}{t:List Str}{m:Addr->Prop}{A:Hp}{f:ZY}{σ:St}{p:Hp}{D:XU}{j:Nat}{I:Str->PyData->SF}{B:Addr->TS}{c:Str}{d:PyData}{o:RT}
  (h1:EnvOk m A f σ p) (P:j<f.length) (F:c∈t) (T:∀c∈t,∀d,wA j (h c) d (B (h c)) (I c d)) (e:((I c d (f.set j .no)).bind λo=>match o with|.nx e=>some (RT.nx (e.set j .no))|_=>none)=some o) (q:Ci m A D o) :
  ∀k y n,RX p (h c) d k y n->ND (λC=>∃c∈t,C=h c) B j D σ p k y n:=by
 rintro k y U ⟨rfl,J,M,dx,v,rfl,x,rp⟩;obtain⟨G,O,e⟩:=qA.mp e;refine⟨h c,dx,rfl,⟨c,F,rfl⟩,rfl,λea H3 q1 q2 ⟨tv,hea⟩=>?_⟩;have R:Z3 p H3:=λb o z=>q1 b o z (J b o z);have l:H3 dx=some (.xd [("at",v)]):=q2 _ _ x (λφ z=>by cases z);have w:EnvOk m A (f.set j .no) (σ.set j (some (.ref ea))) H3:=(h1.up R).setNo j _
 have g:∀b u,H3 b=some u->(∀s,u≠.lst s)->(∀s,u≠.dK s)->¬own (f.set j .no) (σ.set j (some (.ref ea))) b:=λb u hb n1 n2 ⟨k,d',y1,y2⟩=>by
  obtain⟨a,E,W,Y,r⟩:=w.ac k d' y1;rw[y2]at E;cases E
  cases d' with
  | list S=>obtain⟨L,i,_⟩:=r;rw[hb]at i;cases i;exact n1 _ rfl
  | dict S=>obtain⟨L,i,_⟩:=r;rw[hb]at i;cases i;exact n2 _ rfl
  | _=>exact r.elim
 refine T c F d m _ _ _ H3 _ ea dx w.rebase (Te (by rw[<- h1.len];exact P)) ⟨⟨tv,by rw[Z6.get (g _ _ hea (λ_ z=>by cases z) (λ_ z=>by cases z))];exact hea⟩,v,by rw[Z6.get (g _ _ l (λ_ z=>by cases z) (λ_ z=>by cases z))];exact l,λn=>O7 M rp⟩ G O ?_
 cases G with
 | nx H=>
  cases e;exact λN n Q k=>q _ _ ((Q.unbase w.floor).setNo j none)
 | bk H=>cases e
 | ct H=>cases e
 | rt X fr=>cases e
def pT(C:Addr)(b:ClassData)(c:Array (Option Value)):Bool:=match b.mro,c.toList with
 | .ref d::a,[_,_,_,_,some (.builtin n),_]=>d==C&&!b.hasDel&&b.hasDict&&n=="ValueError.__new__"&&a.contains (.type "ValueError")&&a.contains (.type "BaseException")&&!a.contains (.type "AttributeError")&&!a.contains (.type "NameError")&&S4 a
 | _,_=>false
theorem Jb{K:qC}(l:K.lookup C=some ⟨.type "type",p,.cls d,a⟩)(h:pT C d a=true):Sk K C=true/\D7 K C=true:=by
 unfold pT at h;unfold Sk D7;rw[l];split at h
 ·rename_i t s f k m e n j c b;obtain⟨nm,bs,g,u,v,w,q,sub,r,o,i⟩:=d;obtain⟨a⟩:=a;dsimp only at c b;subst c;have b:a=[f,k,m,e,some (.builtin n),j]:=b;subst b;rw[qe]at h;exact h
 ·cases h
section
variable{K:qC}{C c:Addr}
theorem CW(h1:isClsIn K c=true)(h2:typeIn K (.ref c)=some (.type "type"))(h3:subIn K (.ref C) (.ref c)=some b):kitCls K (.ref C) (.ref c)=some b:=by
 unfold kitCls;dsimp only;have h1:(PySem.W.clsIn K c).isSome=true:=h1;rw[if_pos (by rw[h1,h2];rfl)];exact h3
theorem IR(h1:isClsIn K c=true)(h2:typeIn K (.ref c)=some (.type "type"))(h3:subIn K (.ref C) (.ref c)=some true):kitOne K (.ref C) (.ref c)=some true:=by
 unfold kitOne;split
 ·rfl
 ·exact CW h1 h2 h3
theorem Fh(a:subIn K (.ref C) (.ref C)=some true)(h1:isClsIn K c=true)(h2:typeIn K (.ref c)=some (.type "type"))(h3:subIn K (.ref C) (.ref c)=some false):kitOne K (.ref C) (.ref c)=some false:=by
 unfold kitOne;split
 ·rename_i e;have e:C=c:=Value.ref.inj (beq_iff_eq.mp e);rw[<- e,a]at h3;cases h3
 ·exact CW h1 h2 h3
theorem HS(h3:subIn K (.ref C) (.type "ValueError")=some true):kitOne K (.ref C) (.type "ValueError")=some true:=by
 unfold kitOne;rw[if_neg (by intro e;cases beq_iff_eq.mp e)];unfold kitCls;dsimp only;rw[if_pos (show PySem.W.kitMeta "ValueError"=true by decide +kernel)];exact h3
theorem JX(a:subIn K (.ref C) (.type "BaseException")=some true)(h1:isClsIn K C=true)(h2:typeIn K (.ref C)=some (.type "type"))(h3:subIn K (.ref C) (.ref C)=some true):exmOne K (.ref C) (.ref C)=some true:=by
 unfold exmOne;rw[a,if_pos (by rfl)];exact CW h1 h2 h3
end
structure L5(P:Program)(w:World)(K:qC)(mg:Str->Option Value)(base:Heap)(cl:Str->Addr)(CS KS:List Str)(B:Str):Prop where
 ok:∀c∈CS,S8 P w K mg base c (cl c)
 ex:∀c∈CS,exmOne K (.ref (cl c)) (.ref (cl B))=some true
 kit:∀c∈CS,∀k∈KS,kitOne K (.ref (cl c)) (.ref (cl k))=some (decide (c=k))
 val:∀c∈CS,kitOne K (.ref (cl c)) (.type "ValueError")=some true
 mgk:∀k∈KS,mg k=some (.ref (cl k))
 mgB:mg B=some (.ref (cl B))
 mgV:mg "ValueError"=none
theorem Mw{p:Str->Prop}:∀c∈([]:List Str),p c:=λc h=>absurd h (by simp)
theorem Ts{p:Str->Prop}(h:p a)(t:∀c∈l,p c):∀c∈a::l,p c:=λc b=>(qN.mp b).elim (λe=>e▸h) (t c)
section
variable{K:qC}{C c B:Addr}{a b:Str}
theorem F7(h:kitOne K (.ref C) (.ref c)=some true)(e:a=b):kitOne K (.ref C) (.ref c)=some (decide (a=b)):=by rw[h,decide_eq_true e]
theorem HK(h:kitOne K (.ref C) (.ref c)=some false)(e:a≠b):kitOne K (.ref C) (.ref c)=some (decide (a=b)):=by rw[h,decide_eq_false e]
theorem Hr(d:subIn K (.ref B) (.type "BaseException")=some true)(h1:isClsIn K B=true)(h2:typeIn K (.ref B)=some (.type "type"))(h3:subIn K (.ref C) (.ref B)=some true):exmOne K (.ref C) (.ref B)=some true:=by
 unfold exmOne;rw[d,if_pos (by rfl)];exact CW h1 h2 h3
end
section
variable{X:Cx}
theorem GW(a:Gl X x)(b:X.mg x=some (.ref C))(d:(x==("__debug__":Str))=false):Bx (PE X (.Name x c) (tC (.ref C))):=⟨BE a b d⟩
theorem sM(M:Td X.K C f)(c:Bx (PE X o d))(b:attributeBase o "at" X.env (eval o X.env)=eval o X.env):Bx (PE X (.Attribute o "at" a) (P4 C d)):=⟨Bt M c.out b⟩
theorem Hm{K:qC}{C f:Addr}(b:X.K=K)(M:Td K C f)(a:findIn K (.ref C) "__class__"=some (some (.builtin "object.__class__"))):YQ X (.builtin "isinstance") (LD K C):=by
 subst b;exact wg M a
theorem yj{K:qC}{C f:Addr}{o:Expr}{a:Pos}{b:TE}(c:X.K=K)(M:Td K C f)(e:Bx (PE X o b))(d:attributeBase o "at" X.env (eval o X.env)=eval o X.env):Bx (PE X (.Attribute o "at" a) (P4 C b)):=by
 subst c;exact sM M e d
end
abbrev FR:=List PyData->Option NT
def Nj(n:Nat)(g:FR):Sp:=λvs H Q _=>∃(f:Addr->Prop)(e:List PyData)(t:NT),e.length=n/\(∀b,f b->∃o,H b=some o)/\ZH (Z6 f H) e vs/\g e=some t/\
 ∀v c d,Z3 H c->Za (Rp (Z6 (λb=>f b\/b∈d) c)) c t v d->d.Nodup->(∀a∈d,H a=none)->Q v c
theorem GG{vs:List V}(h:Nj n g vs H Q E):vs.length=n:=by
 obtain⟨c,e,r,b,d,a,_⟩:=h;rw[<- a.length];exact b
def zP(n:Nat)(g:Vu):FR:=λa=>g (Si n a)
def FC(h:XK->TS)(F:Vu):Prop:=∀(g:Addr->Prop)(f:Hp)(c:ZY)(σ:St)(H:Hp)(D:XU)(E:XK),EnvOk g f c σ H->∀t,F c=some t->
 (∀v e d,Z3 f e->Za (Rp (Z6 (λb=>g b\/b∈d) e)) e t v d->d.Nodup->(∀a∈d,f a=none)->D.rt v e)->h E D σ H
def jd(f:Wc)(g:Vu):Vu:=λb=>(f b).bind λo=>match o with
 | .ok (.nx a)=>g a
 | _=>none
def Pm(f:SF)(g:Vu):Vu:=λb=>(f b).bind λo=>match o with
 | .nx a=>g a
 | _=>none
theorem GO{u:XK->TS}(h1:SS t f)(h2:FC u g):FC (λE=>WE t (u E)) (Pm f g):=by
 intro d h b σ H D E j r e q;unfold Pm at e;obtain⟨o,i,e⟩:=qA.mp e
 cases o with
 | nx a=>exact h1 d h b σ H _ j _ i λc l k=>h2 d h a c l D E k r e q
 | _=>cases e
theorem GQ{N:List Str}{t:XK->TS}(c:FC t f)(h:Nj n (zP N.length f) vs H Q E):t E' {nx:=λ_ e=>Q .non e,rt:=Q} (start N vs) H:=by
 obtain⟨b,m,r,j,d,a,g,k⟩:=h;exact c b H _ _ H _ _ (OB d a) r g k
mutual
def WU:PyData->Bool
 | .tuple a=>XZ a
 | .list _=>false
 | .dict _=>false
 | _=>true
def XZ:List PyData->Bool
 | []=>true
 | d::a=>WU d&&XZ a
end
mutual
theorem FK(h:∀b c,G b=some (.tup c)->G' b=some (.tup c)):∀(d:PyData){v:V},WU d=true->Rp G d v->Rp G' d v
 | .none,v,_,r=>by unfold Rp at r ⊢;exact r
 | .bool b,v,_,r=>by unfold Rp at r ⊢;exact r
 | .int i,v,_,r=>by unfold Rp at r ⊢;exact r
 | .str x,v,_,r=>by unfold Rp at r ⊢;exact r
 | .list ds,v,f,r=>by unfold WU at f;cases f
 | .dict ds,v,f,r=>by unfold WU at f;cases f
 | .tuple ds,v,f,r=>by
  unfold WU at f;unfold Rp at r ⊢;obtain⟨a,c,j,e,g⟩:=r;exact⟨a,c,j,h a c e,Tz h ds f g⟩
theorem Tz(h:∀b e,G b=some (.tup e)->G' b=some (.tup e)):∀(a:List PyData){vs:List V},XZ a=true->ZH G a vs->ZH G' a vs
 | [],vs,_,r=>by unfold ZH at r ⊢;exact r
 | d::a,vs,f,r=>by
  unfold XZ at f;rw[qe]at f;unfold ZH at r ⊢;obtain⟨v,c,i,j,g⟩:=r;exact⟨v,c,i,FK h d f.1 j,Tz h a f.2 g⟩
end
mutual
def RL:NT->Bool
 | .lf d=>WU d
 | .ls a=>YJ a
 | .tp a=>YJ a
def YJ:List NT->Bool
 | []=>true
 | t::a=>RL t&&YJ a
end
mutual
theorem Za.flat{L l:PyData->V->Prop}(e:∀d v,WU d=true->L d v->l d v):∀(t:NT){v:V}{c:List Addr},RL t=true->Za L H t v c->Za l H t v c
 | .lf d,v,c,f,h=>by
  unfold RL at f;unfold Za at h ⊢;exact⟨h.1,e _ _ f h.2⟩
 | .ls ts,v,c,f,h=>by
  unfold RL at f;unfold Za at h ⊢;obtain⟨a,vs,b,j,k,i,g⟩:=h;exact⟨a,vs,b,j,k,i,ZC.flat e ts f g⟩
 | .tp ts,v,c,f,h=>by
  unfold RL at f;unfold Za at h ⊢;obtain⟨a,vs,b,j,k,i,g⟩:=h;exact⟨a,vs,b,j,k,i,ZC.flat e ts f g⟩
theorem ZC.flat{L g:PyData->V->Prop}(e:∀d v,WU d=true->L d v->g d v):∀(a:List NT){vs:List V}{b:List Addr},YJ a=true->ZC L H a vs b->ZC g H a vs b
 | [],vs,b,f,h=>by unfold ZC at h ⊢;exact h
 | t::a,vs,b,f,h=>by
  unfold YJ at f;rw[qe]at f;unfold ZC at h ⊢;obtain⟨v,c,j,n,l,m,k,i⟩:=h;exact⟨v,c,j,n,l,m,Za.flat e t f.1 k,ZC.flat e a f.2 i⟩
end
def QG(i n:Nat)(g:FR)(f:AF):Vy:=λa b=>(f (Tg b.hp a b.sl)).bind λc=>if c.length=n/\i<a.length then(g (XX c)).bind λt=>if RL t=true then
 some (.nx (a.set i .no) (LJ ⟨b.sl,b.hp++(al t b.hp.length).2⟩ a.length i (al t b.hp.length).1))else none else none
theorem Eb(h:SA I f):Vd (Xy (X7 (Nj n g) [] E I) (Y6 i)) (QG i n g f):=by
 rintro B P c σ H p D ⟨Q,T,k,J⟩ o e q;unfold QG at e;obtain⟨l,A,e⟩:=qA.mp e;split at e
 ·rename_i m;obtain⟨t,O,e⟩:=qA.mp e;split at e
  ·rename_i C;cases e;have r:=k.view;refine h _ P _ σ H r l A _ λvs S j M=>?_;rw[q9];refine⟨lim (λ_=>False) (Tg p.hp c p.sl) σ (Yj l),XX l,t,by rw[Q9];exact m.1,(r.up j).lims _,S5 (λi F=>F) M,O,λv u L s n d f=>?_⟩;obtain⟨G,x⟩:=k.intro (j.trans s) (Za.flat (λd w N y=>FK (λb R e=>Zz.tup (Z6.of e).2) d N y) t C n) d λa h=>j.free (f a h);exact q _ u ⟨_,_,G.setSy x m.2,λb z=>.inl (J b z)⟩
  ·cases e
 ·cases e
def ky(h:TE)(g:Vu):Prop:=∀(f:Addr->Prop)(i:Hp)(c:ZY)(σ:St)(H:Hp),EnvOk f i c σ H->∀t,g c=some t->∀Q:VK,
 (∀v e d,Z3 H e->Za (Rp (Z6 (λb=>f b\/b∈d) e)) e t v d->d.Nodup->(∀a∈d,own c σ a\/H a=none)->Q v e)->h σ H Q
def ka(i:TA)(g:VB):Prop:=∀(h:Addr->Prop)(j:Hp)(c:ZY)(σ:St)(H:Hp),EnvOk h j c σ H->∀f,g c=some f->∀Q:List V->Hp->Prop,
 (∀vs e d,Z3 H e->ZC (Rp (Z6 (λb=>h b\/b∈d) e)) e f vs d->d.Nodup->(∀a∈d,own c σ a\/H a=none)->Q vs e)->i σ H Q
theorem nJ(h:ky r g):FC (λ_=>WR r) g:=by
 intro p y j σ H D E c t e q;refine h p y j σ H c t e _ λv u l s n d f=>q v u l (c.base.trans s) n d λa o=>?_;rcases f a o with⟨i,d,w,x⟩|z
 ·obtain⟨b,k,m,_,_⟩:=c.ac i d w;rw[x]at k;cases k;exact m
 ·exact c.base.free z
theorem vY(h:ka B k):ky (SY B) (Mm k):=by
 intro s F g σ H u t e Q q;unfold Mm at e;obtain⟨l,x,e⟩:=qA.mp e;split at e
 ·rename_i D;cases e;refine h s F g σ H u l x _ λvs G c m j C A=>⟨R9 (by rw[<- Hz j];exact D),λp f=>?_⟩;have v:=ZC.live l j;have E:p∉c:=λz=>by obtain⟨o,r⟩:=v p z;rw[f]at r;cases r
  refine q _ _ (p::c) (m.trans (Z3.new f)) ?_ (Vl.mpr ⟨E,C⟩) λa i=>by
   rcases qN.mp i with rfl|i
   ·exact .inr (m.free f)
   ·exact A a i
  unfold Za;refine⟨p,vs,c,rfl,Yr,rfl,ZC.mono (λd w y=>Rp.same (Z6.mono (Z3.new f) λb o e n z=>?_) d y) l j λa _ o z=>Z3.new f a o z⟩;rcases z with z|z
  ·exact n (.inl z)
  ·rcases qN.mp z with rfl|z
   ·rw[f]at e;cases e
   ·exact n (.inr z)
 ·cases e
section
variable{fx fx':Addr->Prop}{as:List Addr}{H0:Hp}{env:ZY}{σ:St}{H H':Hp}{st:WH}
theorem EnvOk.less(h:EnvOk fx' H0 env σ H)(s:∀b,fx b->fx' b):EnvOk fx H0 env σ H:=
 ⟨h.len,λi d e=>let⟨v,h1,h2⟩:=h.pl i d e;⟨v,h1,Rp.same (Z6.sub λb z=>z.imp (s b) id) _ h2⟩,λi d e=>let⟨a,h1,h2,h3,h4⟩:=h.ac i d e;⟨a,h1,h2,λz=>h3 (s a z),h4.same (Z6.sub λb z=>z.imp (s b) id) λo z=>z⟩,h.inj,h.base,λb z=>h.fxs b (s b z)⟩
theorem XG.back(h:XG fx H0 env σ H st):EnvOk fx H0 env σ H:=let⟨_,_,k,kb⟩:=h;k.ok.less kb
end
def Ss(F:Vy):SF:=λenv=>(F env ⟨[],[]⟩).bind λo=>match o with
 | .nx e _=>some (.nx e)
 | .bk e _=>some (.bk e)
 | .ct e _=>some (.ct e)
 | .rt d=>some (.rt d false)
theorem vz(n:Vd t F):SS t (Ss F):=by
 intro m p g σ H D h o e q;unfold Ss at e;obtain⟨i,l,e⟩:=qA.mp e;refine n m p g σ H _ D (XG.start h) i l ?_
 cases i with
 | nx j k=>cases e;exact λa b c=>q a b c.back
 | bk j k=>cases e;exact λa b c=>q a b c.back
 | ct j k=>cases e;exact λa b c=>q a b c.back
 | rt d=>cases e;exact λv b s f r=>q v b s ⟨O7 f r,λz=>by cases z⟩
def RS(c:Cj)(a:Vy):Nat->Vy
 | 0,_,_=>none
 | n+1,e,st=>(c e st).bind λb=>if b=true then(a e st).bind λo=>match o with
  | .nx e2 s2=>RS c a n e2 s2
  | .ct e2 s2=>RS c a n e2 s2
  | .bk e2 s2=>some (.nx e2 s2)
  | .rt d=>some (.rt d)
  else some (.nx e st)
theorem w8(n:Nat)(h1:nO M c)(h2:Vd L a):Vd (Vt M L) (RS c a n):=by
 intro B z A σ H P D h o e q;refine⟨λm k C=>∃g i,RS c a m g i=some o/\XG B z g k C i,⟨n,A,P,e,h⟩,?_⟩;rintro m k C ⟨g,i,j,F⟩
 cases m with
 | zero=>cases j
 | succ m=>
  obtain⟨b,N,j⟩:=qA.mp j;refine h1 B z g k C i F b N _ λJ G=>?_
  cases b with
  | false=>cases j;exact WB (q k J (F.up G))
  | true=>
   have j:((a g i).bind λo=>match o with
    | .nx r p=>RS c a m r p
    | .ct r p=>RS c a m r p
    | .bk r p=>some (.nx r p)
    | .rt d=>some (.rt d))=some o:=j
   obtain⟨I,E,j⟩:=qA.mp j;refine WA ⟨λs y=>∃l t,RS c a m l t=some o/\XG B z l s y t,λs y w=>⟨m,LQ _,w⟩,?_⟩;refine h2 B z g k J i _ (F.up G) I E ?_
   cases I with
   | nx r p=>exact λu x w=>⟨r,p,j,w⟩
   | ct r p=>exact λu x w=>⟨r,p,j,w⟩
   | bk r p=>cases j;exact λu x w=>q u x w
   | rt d=>cases j;exact λv x O f rt=>q v x O f rt
def SX(c:List Nat)(g:YF)(t:Vu):Vy:=λa b=>(g a b).bind λx=>(Ua b.hp x).bind λp=>if p.2.length<100000 then(t (frzs a c)).bind λn=>
 some (.nx (frzs a c) ⟨b.sl,(b.hp++(al n b.hp.length).2).set p.1 (.ls (p.2++[(al n b.hp.length).1]))⟩)else none
theorem Ae{K:qC}{E A:TE}{u:List Nat}{g:YF}{t:Vu}(h1:QL E g)(h2:Jx A t):Vd (XO (QD K "list" KI E (YW A XI))) (SX u g t):=by
 rintro B J i σ H h D ⟨s,I,k,W⟩ o e q;unfold SX at e;obtain⟨x,ex,e⟩:=qA.mp e;obtain⟨⟨n,Q⟩,P,e⟩:=qA.mp e;dsimp only at e;split at e
 ·rename_i X;obtain⟨nt,m,e⟩:=qA.mp e;cases e;obtain⟨rfl,j⟩:=L0 P;refine h1 s I J i σ H h k _ ex _ λv T R Z=>?_;obtain⟨a,G,rfl⟩:=Z;have l:=(k.up R).frzs u;obtain⟨vs,N,k2⟩:=l.nod n _ a j G;refine⟨.inl ⟨rfl,vs,YK.of N⟩,h2 s J _ σ T l.ok nt m _ λw H2 p M U S L=>?_⟩;obtain⟨C,O⟩:=l.intro M (Za.mono (λd w y=>Rp.same (Zz.offs _ _) d y) nt U λ_ _ _ z=>z) S L;have r:n<h.hp.length:=(qK.mp j).1;have c:(h.hp++(al nt h.hp.length).2)[n]?=some (.ls Q):=by rw[qc r];exact j
  have f:(I++p)[n]?=some a:=by rw[qc (by rw[k.len];exact r)];exact G
  obtain⟨Y,k3,F⟩:=C.nod n _ a c f;exact⟨a,Y,w,rfl,rfl,k3,Nf (by rw[<- CC F];exact X),q σ _ ⟨_,_,C.write f c (CF F (.cons O .nil)),λb z=>.inl (W b z)⟩⟩
 ·cases e
def Pa(c:List SN):Nat->SV->Option (NT×List Nat)
 | _,.dt d=>if XF d=true then some (.lf d,[])else none
 | 0,.lo _=>none
 | k+1,.lo n=>match c[n]? with
  | some (.ls b)=>(VT (Pa c k) b).map λa=>(.ls (a.map (·.1)),n::(a.map (·.2)).flatten)
  | some (.tp b)=>(VT (Pa c k) b).map λa=>(.tp (a.map (·.1)),n::(a.map (·.2)).flatten)
  | none=>none
theorem LY{f:SV->Option (NT×List Nat)}{F:SV->V->Prop}{L:PyData->V->Prop}{A:Nat->Option Addr}(c:∀x v t,F x v->f x=some t->∃bs,t.2.mapM A=some bs/\Za L H t.1 v bs) :
  ∀{b:List SV}{vs:List V}{a:List (NT×List Nat)},Paired F b vs->VT f b=some a->∃bs,(a.map (·.2)).flatten.mapM A=some bs/\ZC L H (a.map (·.1)) vs bs
 | _,_,a,.nil,e=>by cases e;exact⟨[],rfl,q0⟩
 | _,_,a,.cons r t,e=>by
  obtain⟨d,j,e⟩:=qA.mp e;obtain⟨h,i,rfl⟩:=qG.mp e;obtain⟨b1,m,k⟩:=c _ _ _ r j;obtain⟨b2,l,g⟩:=LY c t i;refine⟨b1++b2,?_,Cq k g⟩;rw[qL,List.flatten_cons,List.mapM_append,m,l];rfl
theorem SymOk.nt{o:Addr->Prop}{q:WH}(h:SymOk o m y env σ H q) :
  ∀(k:Nat)(x:SV)(v:V)(t:NT×List Nat),Vw (Zz (λb=>o b\/own env σ b) H) m x v->Pa q.hp k x=some t->∃bs,t.2.mapM (λn=>m[n]?)=some bs/\Za (Rp G) H t.1 v bs
 | k,.dt d,v,t,r,e=>by
  have e:(if XF d=true then some (NT.lf d,([]:List Nat))else none)=some t:=by cases k<;>exact e
  split at e
  ·rename_i u;cases e;refine⟨[],rfl,?_⟩;unfold Za;exact⟨rfl,O7 u r⟩
  ·cases e
 | 0,.lo n,v,t,r,e=>by cases e
 | k+1,.lo n,v,t,⟨a,h1,h2⟩,e=>by
  subst h2;have p:=h.nt (G:=G) k;unfold Pa at e;split at e
  ·rename_i s f;obtain⟨w,c,rfl⟩:=qG.mp e;obtain⟨vs,i,j⟩:=h.nod n _ a f h1;obtain⟨bs,l,g⟩:=LY p j c;refine⟨a::bs,?_,?_⟩
   ·dsimp only;rw[Cm,h1,l];rfl
   ·unfold Za;exact⟨a,vs,bs,rfl,i,rfl,g⟩
  ·rename_i s f;obtain⟨w,c,rfl⟩:=qG.mp e;obtain⟨vs,i,j⟩:=h.nod n _ a f h1;obtain⟨bs,l,g⟩:=LY p j c;refine⟨a::bs,?_,?_⟩
   ·dsimp only;rw[Cm,h1,l];rfl
   ·unfold Za;exact⟨a,vs,bs,rfl,i,rfl,g⟩
  ·cases e
theorem nZ{f:α->Option β}:∀{c:List α}{b:List β},c.mapM f=some b->∀y∈b,∃x∈c,f x=some y
 | [],b,e,y,a=>by cases e;cases a
 | x::c,b,e,y,a=>by
  rw[Cm]at e;obtain⟨z,g,e⟩:=qA.mp e;obtain⟨j,d,e⟩:=qA.mp e;cases e;rcases qN.mp a with rfl|a
  ·exact⟨x,.head _,g⟩
  ·obtain⟨w,h,i⟩:=nZ d y a;exact⟨w,.tail _ h,i⟩
theorem G1{d:List Addr}(c:d.Nodup):∀{b:List Nat}{a:List Addr},b.mapM (λn=>d[n]?)=some a->b.Nodup->a.Nodup
 | [],a,e,_=>by cases e;exact .nil
 | x::b,a,e,h=>by
  rw[Cm]at e;obtain⟨z,i,e⟩:=qA.mp e;obtain⟨l,f,e⟩:=qA.mp e;cases e;refine Vl.mpr ⟨λg=>?_,G1 c f (Vl.mp h).2⟩;obtain⟨w,j,k⟩:=nZ f z g;exact(Vl.mp h).1 (by rw[M5 c i k];exact j)
def Pv(F:Vy)(g:YF):Vu:=λa=>(F a ⟨[],[]⟩).bind λo=>match o with
 | .nx e s=>(g e s).bind λx=>(Pa s.hp 9 x).bind λt=>if t.2.Nodup then some t.1 else none
 | _=>none
theorem o6(h1:Vd N F)(h2:QL Q g):FC (λ_=>WE N (WR Q)) (Pv F g):=by
 intro p z f σ H D E C t e q;unfold Pv at e;obtain⟨o,M,e⟩:=qA.mp e;refine h1 p z f σ H _ _ (XG.start C) o M ?_
 cases o with
 | nx O I=>
  dsimp only at e;obtain⟨x,ex,e⟩:=qA.mp e;obtain⟨u,y,e⟩:=qA.mp e;split at e
  ·rename_i m;cases e;rintro h L ⟨l,P,k,R⟩;refine h2 l P z O h L I k x ex _ λv d s r=>?_;have i:=k.up s;obtain⟨c,j,_⟩:=i.nt (G:=d) 9 x v u r y;obtain⟨bs,w,J⟩:=i.nt (G:=Z6 (λb=>p b\/b∈c) d) 9 x v u r y;rw[j]at w;cases w;refine q v d c (i.ok.base) J (G1 k.nd j m) λa A=>?_;obtain⟨n,_,B⟩:=nZ j a A;exact k.low a (Ub B)
  ·cases e
 | bk _ _=>cases e
 | ct _ _=>cases e
 | rt _=>cases e
def LA(j:Nat)(k:VB):VB:=λa=>match a[j]? with
 | some (.ac (.list c))=>(k a).map λb=>.ls (c.map .lf)::b
 | _=>none
theorem rz(h2:C6 C k):ka (YW (YR j) C) (LA j k):=by
 intro x I g σ H r J e Q q;unfold LA at e;split at e
 ·rename_i L v;obtain⟨c,F,rfl⟩:=qG.mp e;obtain⟨a,t,M,N,E⟩:=r.ac j _ v;obtain⟨B,h,G⟩:=E;have m:own g σ a:=⟨j,_,v,t⟩;refine⟨_,t,h2 x I g σ H r c F _ λvs A l s n d f=>?_⟩;have D:a∉l:=λz=>by rw[f a z]at h;cases h
  refine q (.ref a::vs) A (a::l) s ?_ (Vl.mpr ⟨D,d⟩) λb i=>?_
  ·refine Cq (a1:=[a]) (a2:=l) ?_ (ZC.mono (λd w y=>Rp.same (Z6.sub λb z=>?_) d y) c n λ_ _ _ z=>z)
   ·unfold Za;refine⟨a,B,[],rfl,s _ _ h,rfl,xH (λd w y=>Rp.same (Z6.mono s λb o u p z=>?_) d y) G⟩;rcases z with z|z
    ·exact p (.inl z)
    ·rcases qN.mp z with rfl|z
     ·exact p (.inr m)
     ·rw[f b z]at u;cases u
   ·rcases z with z|z
    ·exact .inl (.inl z)
    ·rcases qN.mp z with rfl|z
     ·exact .inr m
     ·exact .inl (.inr z)
  ·rcases qN.mp i with rfl|i
   ·exact .inl m
   ·exact .inr (f b i)
 ·cases e
def Sr(P b:Addr):Option HO->Bool
 | some (.own x)=>x==P
 | some (.frz _ (.own x))=>x==P||x==b
 | _=>false
theorem JV(h:Sr P b o=true):o=some (.own P)\/∃a x,o=some (.frz a (.own x))/\(x=P\/x=b):=by
 unfold Sr at h;split at h
 ·rename_i x;have:x=P:=by simpa using h
  rw[this];exact .inl rfl
 ·rename_i a x;refine .inr ⟨a,x,rfl,?_⟩;rcases JD.mp h with z|z
  ·exact .inl (by simpa using z)
  ·exact .inr (by simpa using z)
 ·cases h
def YY(P:Addr)(H:Hp)(b:Addr):Bool:=b==P||Sr P b (H b)
def Yq(P:Addr)(H:Hp):Hp:=λb=>if YY P H b=true then none else H b
def UD(P:Addr)(H a:Hp):Hp:=λb=>if YY P H b=true then H b else a b
def Pn:HO->Bool
 | .own _=>false
 | .frz _ (.own _)=>false
 | _=>true
section
variable{P:Addr}{H H':Hp}{b:Addr}{u:HO}{q:Str}
theorem G0(h:H b=some u)(c:b≠P)(a:Pn u=true):YY P H b=false:=by
 unfold YY;rw[beq_eq_false_iff_ne.mpr c,CP]
 cases e:Sr P b (H b)with
 | false=>rfl
 | true=>
  rcases JV e with z|⟨d,x,z,_⟩
  ·rw[z]at h;cases h;cases a
  ·rw[z]at h;cases h;cases a
theorem oW(a:H P=some (.tabO q))(h:H b=none):YY P H b=false:=by
 unfold YY;rw[h,beq_eq_false_iff_ne.mpr (λz=>by rw[z,a]at h;cases h)];rfl
theorem zB(h:H b=some u)(c:b≠P)(a:Pn u=true):Yq P H b=some u:=by
 unfold Yq;rw[G0 h c a];exact h
theorem rb(h:Yq P H b=some u):H b=some u/\YY P H b=false:=by
 unfold Yq at h
 cases e:YY P H b with
 | true=>rw[e]at h;cases h
 | false=>rw[e]at h;exact⟨h,rfl⟩
theorem Pb(h:H b=none):Yq P H b=none:=by unfold Yq;split<;>first|rfl|exact h
theorem Hk(h:YY P H b=false):Yq P H b=H b:=by unfold Yq;rw[h];rfl
theorem JN(h:YY P H b=true):Yq P H b=none:=by unfold Yq;rw[h];rfl
theorem Q3(h:YY P H b=false):UD P H H' b=H' b:=by unfold UD;rw[h];rfl
theorem Rr(h:YY P H b=true):UD P H H' b=H b:=by unfold UD;rw[h];rfl
theorem Mi(h:YY P H b=true):b=P\/H b=some (.own P)\/∃a x,H b=some (.frz a (.own x))/\(x=P\/x=b):=by
 unfold YY at h;rcases JD.mp h with z|z
 ·exact .inl (by simpa using z)
 ·exact .inr (JV z)
theorem ui:YY P H P=true:=by unfold YY;simp
theorem Et(h:H b=some (.own P)):YY P H b=true:=by unfold YY;rw[h];simp[Sr]
theorem G9(h:H b=some (.frz a (.own P))):YY P H b=true:=by unfold YY;rw[h];simp[Sr]
theorem BC(k:H P=some (.tabO q))(x:Yt Pr w H h):Yt Pr w (Yq P H) h:=λb u e=>by
 obtain⟨l,f⟩:=rb e;have i:b≠P:=λz=>by rw[z,ui]at f;cases f
 have j:∀c u,H c=some u->(u=.own b\/∃g,u=.frz g (.own b))->Yq P H c=some u:=λc u z a=>by
  cases hc:YY P H c with
  | false=>rw[Hk hc];exact z
  | true=>
   rcases Mi hc with y|y|⟨g,x,y,d⟩
   ·rw[y,k]at z;cases z;rcases a with a|⟨_,a⟩<;>cases a
   ·rw[y]at z;cases z;rcases a with a|⟨_,a⟩
    ·cases a;exact absurd rfl i
    ·cases a
   ·rw[y]at z;cases z;rcases a with a|⟨_,a⟩
    ·cases a
    ·cases a;rcases d with d|d
     ·exact absurd d i
     ·rw[d,hc]at f;cases f
 exact(x b u l).stay (λc v _ z=>z) (λc z=>j c _ z (.inl rfl)) (λc m z=>zB z (λy=>by rw[y,k]at z;cases z) rfl) (λc o z=>j c _ z (.inr ⟨o,rfl⟩))
theorem xt(d:H P=some (.tabO q))(ok:Yt Pr w H h)(m:∀b∈fs,H b=none)(un:Un fs [] (Yq P H) H' h l)(p:Yt Pr w H' l) :
  Un fs [] H (UD P H H') h l/\Yt Pr w (UD P H H') l/\∀b,YY P H b=true->H' b=none:=by
 have B:∀b,YY P H b=true->∃u,H b=some u:=λb e=>by
  rcases Mi e with z|z|⟨A,x,z,_⟩
  ·exact⟨.tabO q,z▸d⟩
  ·exact⟨_,z⟩
  ·exact⟨_,z⟩
 have s:∀b,YY P H b=true->Yq P H b=none:=λb e=>JN e;have k:∀b o,YY P H b=true->h.get? b=some o->l.get? b=some o:=λb o e z=>un.keep b o z (s b e) (λy=>by obtain⟨u,q⟩:=B b e;rw[m b y]at q;cases q) (by simp)
 have fr:∀b,YY P H b=true->H' b=none:=λb e=>by
  obtain⟨u,z⟩:=B b e;obtain⟨o,y⟩:=(ok b u z).there;exact un.free b o y (s b e) (by simp)
 have up:∀b u,H b=some u->Pn u=true->b≠P->YY P H b=false/\Yq P H b=some u:=λb u z t a=>⟨G0 z a t,zB z a t⟩
 have r:∀c v,H' c=some v->YY P H c=false:=λc v y=>by
  cases z:YY P H c with
  | false=>rfl
  | true=>rw[fr c z]at y;cases y
 refine⟨⟨λb o z n a f=>un.keep b o z (Pb n) a f,λb o z n a f=>un.slot b o z (Pb n) a f,λb o z n f=>?_,λb o z f=>un.there b o z f,λb j z=>?_,λb o u z=>?_,λb E z=>?_⟩,λb u e=>?_,fr⟩
 ·rw[Q3 (oW d n)];exact un.free b o z (Pb n) f
 ·obtain⟨g,i⟩:=up b _ z rfl (λy=>by rw[y,d]at z;cases z);rw[Q3 g];exact un.tups b j i
 ·cases a:YY P H b with
  | true=>rw[Rr a];exact z
  | false=>rw[Q3 a];exact un.frzs b o u (by rw[Hk a];exact z)
 ·obtain⟨g,i⟩:=up b _ z rfl (λy=>by rw[y,d]at z;cases z);rw[Q3 g];exact un.tbls b E i
 ·cases a:YY P H b with
  | true=>
   rw[Rr a]at e;rcases Mi a with z|z|⟨A,x,z,_⟩
   ·subst z;rw[d]at e;cases e;refine(ok b _ d).stay (λc v D y=>k c v (D.elim (λz=>by rw[z];exact a) Et) y) (λc y=>by rw[Rr (Et y)];exact y) (λc j y=>?_) (λc o y=>by rw[Rr (G9 y)];exact y);obtain⟨g,i⟩:=up c _ y rfl (λz=>by rw[z,d]at y;cases y);rw[Q3 g];exact un.tups c j i
   ·rw[z]at e;cases e;obtain⟨o,y⟩:=(ok b _ z).there;exact⟨o,k b o a y⟩
   ·rw[z]at e;cases e;obtain⟨y,o,C⟩:=ok b _ z;exact⟨k b A a y,o,k b o a C⟩
  | false=>
   rw[Q3 a]at e;exact(p b u e).stay (λc v _ z=>z) (λc y=>by rw[Q3 (r c _ y)];exact y) (λc j y=>by rw[Q3 (r c _ y)];exact y) (λc o y=>by rw[Q3 (r c _ y)];exact y)
end
theorem sv(l:List Value)(h:TriplesOk l)(e:codeAmong d (l++[rawInt a,rawInt b,c])=some g):codeAmong d l=some g\/g=c:=by
 fun_induction TriplesOk l with
 | case1=>
  simp only[H7,rawInt,codeAmong]at e;split at e
  ·exact .inr (qZ e).symm
  ·cases e
 | case2 x t y u z rest i=>
  simp only[B9,codeAmong]at e ⊢;split at e
  ·rename_i f;rw[if_pos f];exact .inl e
  ·rename_i f;rw[if_neg f];exact i h e
 | case3 l j k=>exact h.elim
theorem rk(l:List Value)(h:TriplesOk l):TriplesOk (l++[rawInt a,rawInt b,c]):=by
 fun_induction TriplesOk l with
 | case1=>exact True.intro
 | case2 x t y u z rest d=>exact d h
 | case3 l f e=>exact h.elim
theorem nh{h:Heap}(b:h.objs.size<=a):h.get? a=none:=by
 cases e:h.get? a with
 | none=>rfl
 | some o=>exact absurd (qJ e) (CH.mpr b)
def BM(mg:Str->Option Value)(base:Heap):Prop:=∃b a,mg "__builtins__"=some (.ref b)/\b≠builtinsNs/\base.get? b=some a/\a.cls=.type "module"/\a.dict=some builtinsNs/\a.data=.plain
section
variable{X:Cx}{pins:List (Addr×Obj)}{σ:St}{H:Hp}{s:Shared}{c P:Addr}{params:Arguments}{body:Expr}{scope:Scope}{clos:List (Str×Addr)}{pos:Pos}
def nE(q:Str)(H:Hp)(c P:Addr):Prop:=∃a vs t,H c=some (.frz a (.own P))/\a.data=.fields vs/\vs[1]?=some (.str q t)
abbrev W8(X:Cx):Str:=X.env.qual++"<lambda>"
theorem xy{Q:Value->Shared->Prop}{E:Value->Shared->Prop}(I:Inv X pins σ H s)(i:X.env.code=.ref c)(C:CodeHd X.base c P)(r:H P=some (.tabO (W8 X)))(a4:BM X.mg X.base)(M:closureFor scope X.env=pure clos)(R:defaultsOf params X.env=([],[]))
  (h:∀(s':Shared)(D:Hp)(f a:Addr)(d pm:Value),Inv X pins σ D s'->(D=H\/(H a=none/\∃g,D=upd H a (.frz g (.own P))))->D f=none->s'.heap.get? f=some (kla_obj "<lambda>" (W8 X) params body scope clos pm a d)->nE (W8 X) D a P->s.heap.get? f=none->Q (.ref f) s') :
  wpAny (model X.prog X.w) X.A (eval (.Lambda params body scope pos) X.env) Q E s:=by
 obtain⟨ps,F,U,N⟩:=I.hok P _ r;have Cs:CodeHd s.heap c P:=C.keeps I.bk;have G:s.heap.Ns qy X.mg:=I.mod.glob.keeps I.bk;have nP:∀b o,X.base.get? b=some o->b≠P:=λb o e z=>by have:=(I.bs b o e).2;rw[z,r]at this;cases this
 have Z:qy≠P:=by
  obtain⟨o,es,ep,e,_⟩:=I.mod.glob;exact nP _ o e
 obtain⟨bm,ob,b1,b2,b3,b4,b5,b6⟩:=a4
 have a6:bm≠qy:=λz=>by
  obtain⟨o,es,ep,e,x,_⟩:=I.mod.glob;rw[z,e]at b3;cases b3;rw[x]at b6;cases b6
 have L:s.heap.BuiltinsAt X.mg P:=⟨bm,ob,b1,b2,a6,nP _ _ b3,I.bk _ _ b3,b4,b5,b6⟩;refine PySem.W.kla_eval R ?_
 cases hf:codeAmong pos ps.toList with
 | none=>
  refine PySem.W.kla_makeFunction (mg:=X.mg) M I.ok.glob G i Cs F U hf Z L λa d k tk hx p J S a8=>?_;have T:H a=none:=I.hok.fresh p;have a7:a≠P:=λz=>by rw[z,r]at T;cases T
  generalize hob:kla_obj "<lambda>" (W8 X) params body scope clos ((X.mg "__name__").getD .none) a d=obj;have q:∀b o,b≠P->s.heap.get? b=some o->(k.push obj).get? b=some o:=λb o z e=>qE _ (hx b o z e);have j:s.heap.objs.size<=k.objs.size:=KB (LM p J);obtain⟨c2,g,vs,t,e2,B,x,Y⟩:=S;cases e2;have up:∀b u,H b=some u->upd H a (.frz g (.own P)) b=some u:=λb u e=>by rw[Y0 (λz=>by rw[z,T]at e;cases e)];exact e
  have m:(k.push obj).get? P=some (tabObj (ps++#[rawInt pos.line,rawInt pos.col,.ref a])):=qE _ a8
  have un:Un X.fs [] H (upd H a (.frz g (.own P))) s.heap (k.push obj):=
   ⟨λb o e n _ _=>q b o (λz=>by rw[z,r]at n;cases n) e,λb o e n _ _=>⟨o.slots,q b o (λz=>by rw[z,r]at n;cases n) e⟩,λb o e n _=>by rw[Y0 (qt (qi (qJ e) p))];exact n,
    λb o e _=>(Decidable.em (b=P)).elim (λz=>⟨_,z▸m⟩) (λz=>⟨o,q b o z e⟩),λb xs e=>up b _ e,λb o u e=>up b _ e,λb ps e=>⟨#[],by rw[up b _ e];simp⟩⟩
  have ok:Yt X.prog X.w (upd H a (.frz g (.own P))) (k.push obj):=λb u e=>by
   by_cases L:b=a
   ·subst L;rw[Yr]at e;cases e;exact⟨qE _ B,g,qE _ B⟩
   ·rw[Y0 L]at e;by_cases hbP:b=P
    ·subst hbP;rw[r]at e;cases e;refine⟨_,m,by rw[ml];exact rk _ U,λO cv l=>?_⟩;rw[ml]at l;rcases sv _ U l with l|l
     ·obtain⟨c1,o,a0,t1,a1,a2,a3,a5⟩:=N O cv l;exact⟨c1,o,a0,t1,a1,a2,up _ _ a3,a5⟩
     ·exact⟨a,g,vs,t,l,a7,Yr,x,Y⟩
    ·exact(I.hok b u e).stay (λc v l z=>q c v (l.elim (λy=>by rw[y];exact hbP) λy w=>by rw[w,r]at y;cases y) z) (λc z=>up c _ z) (λc xs z=>up c _ z) (λc o z=>up c _ z)
  refine h _ _ k.objs.size a d _ (I.un (t':=tk) un ok) (.inr ⟨T,g,rfl⟩) ?_ (by rw[<- hob];exact qd _ rfl) ⟨g,vs,t,Yr,x,Y⟩ (nh j);rw[Y0 (O0 J)];exact I.hok.fresh j
 | some cv=>
  obtain⟨a,g,vs,t,rfl,ne,own,x,Y⟩:=N pos cv hf;refine PySem.W.kla_makeFunctionHit (mg:=X.mg) M I.ok.glob G i Cs F U hf L λd k tk hk j=>?_;have q:∀b o,s.heap.get? b=some o->(k.push (kla_obj "<lambda>" (W8 X) params body scope clos ((X.mg "__name__").getD .none) a d)).get? b=some o:=λb o e=>qE _ (hk b o e);exact h _ H k.objs.size a d _ (I.un (t':=tk) (Un.kept q) (I.hok.kept q)) (.inl rfl) (I.hok.fresh j) (qd _ rfl) ⟨g,vs,t,own,x,Y⟩ (nh j)
end
structure Wi(N:List Str)(sc:Scope):Prop where
 kind:sc.kind=.function
 co:sc.isCoroutine=false
 gen:sc.isGenerator=false
 nocell:∀x∈sc.names,x.2≠.cell
 free:∀x∈N,sc.names.lookup x=some .free
def VD(j:Uq)(P:Program)(w:World)(K:qC)(k:Str->Option Value)(base:Heap)(N:List Str)(c:Str)(a:Scope)(f:Addr)(h:Value)(g:List (Str×Addr))(A:Around)(b:List Env)(s:Shared)(H:Hp)(E:XK):Cx where
 prog:=P
 w:=w
 K:=K
 mg:=k
 base:=base
 A:=A.deeper (envX c a s.heap.objs.size f h g)
 N:=N
 s₀:=s
 H₀:=H
 env:=envX c a s.heap.objs.size f h g
 outer:=b
 stack:=envX c a s.heap.objs.size f h g::b
 ex:=[]
 calm:=true
 fn:=λ_=>false
 pn:=[]
 xe:=λe s'=>wpAny (model P w) (A.deeper (envX c a s.heap.objs.size f h g)) (leaving (envX c a s.heap.objs.size f h g) e) (λ_ d=>j b H s E e d) (λn d=>j b H s E n d) s'
structure EL(cl:List (Str×Addr))(N:List Str)(vs:List V)(h:Heap)(H:Hp)(sc:Scope):Prop where
 inj:∀x y c,cl.lookup x=some c->cl.lookup y=some c->x=y
 has:∀x,sc.names.lookup x=some .free->∃c,cl.lookup x=some c
 cell:∀x c,cl.lookup x=some c->(∃v,h.IsCell c v)/\H c=none
 val:∀(i:Nat)(x:Str)(v:V),N[i]?=some x->vs[i]?=some v->∃c u,cl.lookup x=some c/\h.IsCell c (some u)/\ZF v u
 len:vs.length=N.length
section
variable{CX:Uq}{P:Program}{w:World}{K:qC}{mg:Str->Option Value}{base:Heap}{N:List Str}{name qual:Str}{params:Arguments}{body:Expr}{scope:Scope}{f c':Addr}{cl:List (Str×Addr)}{A:Around}{outer:List Env}{s:Shared}{H:Hp}{E:XK}{Q:VK}{vs:List V}{pm ctv:Value}{k:Nat}
theorem Bv(S:Wi N scope)(D:Y5 (k+1) A)(j:Wg P w K mg base A outer s H){o:Obj}(ho:s.heap.get? f=some o)(M:o.data=.func (kla_fn name qual params body scope cl pm (.ref c') ctv))(F:s.heap.CodeRec (.ref c') qual)
  (n:bindArgs (kla_fn name qual params body scope cl pm (.ref c') ctv) ⟨[],[]⟩=pure [])(r:EL cl N vs s.heap H scope)
  (l:Y5 k (A.deeper (envX qual scope s.heap.objs.size f (.ref c') cl))->∃t,PE (VD CX P w K mg base N qual scope f (.ref c') cl A outer s H E) body t/\t (vs.map some) H Q) :
  codeAny (model P w) A (.call (.ref f) ⟨[],[]⟩) (CR CX outer P w H s Q E) s:=by
 refine PySem.W.kla_callFunE D.depth ho M S.co S.gen rfl F ?_;rw[n]
 refine qV (wpAny_newFunctionEnv S.nocell (λx Y=>absurd (show x∈([]:List (Str×Value))from Y) (by simp)) (λa L C=>⟨((j.mod.nolimit.keeps λb o e=>(j.bs b o e).1)).fresh _ C,?_⟩) S.kind);show codeAny _ _ (.expr body (envX qual scope s.heap.objs.size f (.ref c') cl)) _ _;have G:∀b o,s.heap.get? b=some o->a.get? b=some o:=λb o e=>C.extBut b o (qt (qJ e)) (qE _ e);obtain⟨t,U,hq⟩:=l (D.deeper _)
 have noA:∀b:Addr,b∉(VD CX P w K mg base N qual scope f (.ref c') cl A outer s H E).ex:=λb z=>absurd (show b∈([]:List Addr)from z) (by simp);have g:∀c v,s.heap.IsCell c v->a.IsCell c v:=λc v ⟨o,e,d⟩=>⟨o,G _ _ e,d⟩
 have I:Inv (VD CX P w K mg base N qual scope f (.ref c') cl A outer s H E) [] (vs.map some) H {s with heap:=a,toks:=s.toks+([]:List (Str×Value)).length}:=by
  refine⟨⟨j.mod,S.kind,rfl,rfl,qM _,r.inj,λy m=>?_,λy c z _=>?_,λ_=>D.hd,mO j.frames,.inr ⟨rfl,rfl⟩,λb z=>absurd z (noA b),j.bs,j.bsz,λb _ _=>noA b,λb z=>absurd z (noA b),j.funs,j.frf⟩,
   rfl,j.bare,Un.kept G,⟨_,L,λi y v O B h3=>?_⟩,λy c z=>?_,j.hok.fresh (qM _),λy c z=>(r.cell y c z).2,λp Z=>absurd (show p∈([]:List (Addr×Obj))from Z) (by simp),j.hok.kept G,?_⟩
  ·have m:scope.names.lookup y=some .cell\/scope.names.lookup y=some .free:=m;rcases m with m|m
   ·exact absurd rfl (S.nocell _ (UI m))
   ·exact r.has y m
  ·cases z
  ·rw[qW]at B
   cases ev:vs[i]? with
   | none=>rw[ev]at B;cases B
   | some v0=>
    rw[ev]at B;cases B;obtain⟨c,u,a1,a2,R⟩:=r.val i y v O ev;exact⟨u,R,.inr ⟨.inr (S.free y (Ub O)),c,a1,g _ _ a2⟩⟩
  ·obtain⟨v,z⟩:=(r.cell y c z).1;exact⟨v,g _ _ z⟩
  ·rw[qD];exact r.len
 refine PySem.W.kla_codeExpr (TJ (U [] _ (vs.map some) H Q I hq) (λu s' h=>?_) λe s' h=>h);obtain⟨v,X,J,T,q⟩:=h;exact⟨v,X,J.os,J.bare,J.base,J.hok,T,q⟩
end
def RM(P:Program)(w:World)(K:qC)(d:Str->Option Value)(base:Heap)(CX:Uq)(k:Nat)(fs:List Addr)(s:Shared)(H:Hp)(g:Addr)(R:Hp->VK->XK->Prop):Prop:=
 ∀(A:Around)(a:List Env)(c:Shared)(b:Hp)(Q:VK)(E:XK),Y5 k A->Wg P w K d base A a c b->Un fs [] H b s.heap c.heap->R b Q E->codeAny (model P w) A (.call (.ref g) ⟨[],[]⟩) (CR CX a P w b c Q E) c
structure Wq(P:Program)(w:World)(K:qC)(mg:Str->Option Value)(base:Heap)(k j:Nat)(f:Addr)(fd:Xl)(p:Str)(tol:(Hp->VK->XK->Prop)->Hp->VK->Prop):Prop where
 run:∀(A:Around)(outer:List Env)(s:Shared)(H:Hp)(args:Args)(g:Addr)(R:Hp->VK->XK->Prop)(Q:VK),Y5 k A->Wg P w K mg base A outer s H->BindsTo s fd args [(p,.ref g)]->FnAt g s.heap->H g=none->RM P w K mg base (W6 P w) j (VR outer) s H g R->tol R H Q->
  codeAny (model P w) A (.call (.ref f) args) (CR Yz outer P w H s Q λ_ _ _=>False) s
theorem xm{P:Program}{w:World}{K:qC}{B:Str->Option Value}{base:Heap}{x c:Str}{r:Stmt}{f:Addr}{O:Xl}{N:List Str}{p:Str}{k j:Nat}{y:(Hp->VK->XK->Prop)->Hp->VK->Prop}(Fu:Yw K x c r f O)(S:ZW N [p] (YU r))
  (h:∀(d:Value)(A:Around)(a:List Env)(s:Shared)(H:Hp)(g:Addr)(R:Hp->VK->XK->Prop)(Q:VK),Y5 k (A.deeper (envOfC c (YU r) s.heap.objs.size f d))->Yt P w H s.heap->FnAt g s.heap->H g=none->RM P w K B base (W6 P w) j (VR a) s H g R->y R H Q->
   ∃t,W2 (X0 Yz P w K B base N c (YU r) f d A a s H λ_ _ _=>False) (Vi r) t/\t {nx:=λ_ m=>Q .non m,rt:=Q} (start N [.ref g]) H):Wq P w K B base (k+1) j f O p y:=by
 refine⟨λA a s H L g R Q D i hb hg Y X z=>?_⟩;obtain⟨oc,od,kV,Z,pm,an,d,ct,a0,rfl,T,F⟩:=Fu.ex;have M:K.In s.heap:=i.mod.kin.keeps λb o e=>(i.bs b o e).1;refine CQ D.depth (M _ _ T) rfl S.co S.gen rfl (Cn M F) (hb _ _ _ _ (Dg S.kind (λ⟨n,v⟩ hy=>?_) λW he s1 x=>?_))
 ·have G:(n,v)∈[p].zip [Value.ref g]:=hy;rcases S.par n (Qh G).1 with q|q
  ·exact .inl q
  ·exact .inr ⟨q,Hu _ _ _ (.inl q)⟩
 ·subst he;obtain⟨t,z,hq⟩:=h d A a s H g R Q (D.deeper _) i.hok hg Y X z;have I:=Ce (CX:=Yz) (E:=λ_ _ _=>False) (us:=[.ref g]) (vs:=[.ref g]) S D.hd i rfl (.cons rfl .nil) x;refine⟨(i.mod.nolimit.keeps λb o e=>(i.bs b o e).1).keeps x.toInCall.keep,CG (TJ (z [] s1 (start N [.ref g]) H _ I hq) (λfl s' l=>?_) λe s' l=>l)⟩
  cases fl with
  | ret u=>obtain⟨v,C,m,J,U,q⟩:=l;exact⟨v,m,J.os,J.bare,J.base,J.hok,U,q⟩
  | next=>obtain⟨C,m,J,q⟩:=l;exact⟨.non,m,J.os,J.bare,J.base,J.hok,rfl,q⟩
  | brk=>obtain⟨_,_,_,q⟩:=l;exact q.elim
  | cont=>obtain⟨_,_,_,q⟩:=l;exact q.elim
def LW(Ok:Addr->Prop)(g:Addr)(R:Hp->VK->XK->Prop)(b:Addr->TS)(i j:Nat):TS:=λD σ H=>σ[i]?=some (some (.ref g))/\R H (λ_ a=>D.nx σ a) (ND Ok b j D σ H)
section
variable{X:Cx}
theorem zw{Ok:Addr->Prop}{R:Hp->VK->XK->Prop}{p b t a m cp:Pos}{Z:Addr->TS}
  (As:RM X.prog X.w X.K X.mg X.base (W6 X.prog X.w) k X.fs X.s₀ X.H₀ g R)(d:X.ex=[])(hr:Y5 k X.A)(hg:FnAt g X.s₀.heap)(M:X.H₀ g=none)
  (hi:X.N[i]?=some l)(hv:C9 X.env.scope l)
  (hN:X.N.Nodup)(hj:X.N[j]?=some n)(hn:X.env.scope.names.lookup n=some .local)
  (F:X.stack=X.env::X.outer)(S:X.env.frame=some X.env.locals)(Q:Gl X q)(G:X.mg q=some (.ref B))(hex:∀C,Ok C->exmOne X.K (.ref C) (.ref B)=some true)(hs:∀C,Ok C->∀e,W2 (X.hold e) (T::suite) (Z C))
  (r:(l==("__debug__":Str))=false)(P:(l==("__classdict__":Str))=false)(O:(q==("__debug__":Str))=false)
  (J:swapsWith (.Call (.Name l p) [] [] b) none a.line X.env=pure false) :
  PS X (.Try [.Expr (.Call (.Name l p) [] [] b) a] [.ExceptHandler (some (.Name q cp)) (some n) (T::suite) m] [] [] t) (LW Ok g R Z i j):=by
 intro c s σ H D I h;obtain⟨L,hR⟩:=h;refine wpAny_Try_except ?_;refine px (wpAny_Expr_any (Kq ?_) I.quiet J);refine TJ (Nt (X:=X.nox) hi hv r P c s σ H (λv H'=>v=.ref g/\H'=H) (I.wish _) ⟨_,L,rfl,rfl⟩) (λu s1 ⟨v,H1,f,U,Y,eH⟩=>?_) λ_ _ z=>z.elim;subst Y;subst eH;cases U;have f:Inv X c σ H1 s1:=f.unwish;obtain⟨oc,od,fd,sl,eg⟩:=hg
 have y:FnAt g s1.heap:=by
  obtain⟨E,z⟩:=f.base.any eg M (by rw[d];simp);exact⟨oc,od,fd,E,z⟩
 refine PySem.W.callWith_F0 y ?_
 have un:Un X.fs [] X.H₀ H1 X.s₀.heap s1.heap:=by
  have:=f.base;rw[d]at this;exact this
 refine Lb (Oh (As X.A X.stack s1 H1 _ _ hr f.env0 un hR) λx s' o=>?_)
 cases x with
 | ok fl=>
  cases fl with
  | ret u=>
   obtain⟨v,H2,I2,U,q2⟩:=f.after o;exact Kw (Kw ⟨_,H2,I2,q2⟩)
  | next=>exact False.elim o
  | brk=>exact False.elim o
  | cont=>exact False.elim o
 | error Y=>exact handled hN hj hn F S Q G hex hs O f o
end
def QH(a:Scope)(env:Env):List (Str×Addr):=(a.names.filterMap λp=>if p.2==.free then(env.cells.lookup p.1).map λc=>(p.1,c)else none).reverse
theorem IB{g:Scope}{b:Env}:(x,c)∈QH g b↔(x,NameKind.free)∈g.names/\b.cells.lookup x=some c:=by
 unfold QH;rw[List.mem_reverse,Fy];constructor
 ·rintro⟨⟨y,k⟩,e,a⟩;dsimp only at a;split at a
  ·rename_i f;have f:k=NameKind.free:=by simpa using f
   obtain⟨d,i,h⟩:=qG.mp a;cases h;exact⟨f▸e,i⟩
  ·cases a
 ·rintro⟨e,a⟩;exact⟨(x,.free),e,by dsimp only;rw[if_pos (by rfl),a];rfl⟩
theorem jN:∀{l:List (Str×α)}{x:Str}{c:α},(x,c)∈l->∃d,l.lookup x=some d
 | (k,v)::r,x,c,h=>by
  rw[U9]
  cases hb:x==k with
  | true=>exact⟨v,rfl⟩
  | false=>
   rcases qN.mp h with e|h
   ·cases e;simp at hb
   ·exact jN h
theorem Gb{a:Env}(h:(QH b a).lookup x=some c):a.cells.lookup x=some c:=(IB.mp (UI h)).2
theorem Ji{f:Scope}{a:Env}(h:(x,NameKind.free)∈f.names)(e:a.cells.lookup x=some c):(QH f a).lookup x=some c:=by
 obtain⟨d,b⟩:=jN (IB.mpr ⟨h,e⟩);rw[b];exact(Gb b).symm.trans e
def NR(P:Addr)(q:Str)(i:List Nat)(k:Hp->XK->TE)(e:(Hp->VK->XK->Prop)->Hp->VK->Prop):TE:=λσ H Q=>H P=some (.tabO q)/\∃vs:List V,(i.map λj=>σ[j]?)=vs.map (λv=>some (some v))/\
 ∀d,(d=H\/∃c h,H c=none/\d=upd H c (.frz h (.own P)))->∃R:Hp->VK->XK->Prop,(∀a g f,R a g f->k a f (vs.map some) a g)/\e R (Yq P d) (λv a=>(∀b,YY P d b=true->a b=none)->Q v (UD P d a))
section
variable{X:Cx}{k j:Nat}{f c P:Addr}{fd:Xl}{pr:Str}{tol:(Hp->VK->XK->Prop)->Hp->VK->Prop}{tn:Str}{p lp pos:Pos}{params:Arguments}{body:Expr}{scope:Scope}{NB:List Str}{js:List Nat}{tb:Hp->XK->TE}
theorem vo(T:Wq X.prog X.w X.K X.mg X.base k (j+1) f fd pr tol)(hr:Y5 k X.A)(hg:Gl X tn)(hm:X.mg tn=some (.ref f))(hk:RJ X.K (.ref f)=true)(hb:Vm X.K fd [pr] [])
  (L:X.env.code=.ref c)(C:CodeHd X.base c P)(b3:BM X.mg X.base)(S:Wi NB scope)(c2:closureFor scope X.env=pure (QH scope X.env))(a7:defaultsOf params X.env=([],[]))
  (M:∀(cl:List (Str×Addr)) (pm cd a0:Value),bindArgs (kla_fn "<lambda>" (W8 X) params body scope cl pm cd a0) ⟨[],[]⟩=pure [])
  (D:∀q∈scope.names,q.2=.free->X.env.kindOf q.1=some .cell)
  (a5:js.map (λi=>X.N[i]?)=NB.map some)
  (hB:∀(A:Around)(a:List Env)(s:Shared)(H:Hp)(E:XK)(g U:Addr)(cl:List (Str×Addr)),Y5 j (A.deeper (envX (W8 X) scope s.heap.objs.size g (.ref U) cl))->Yt X.prog X.w H s.heap->PE (VD (W6 X.prog X.w) X.prog X.w X.K X.mg X.base NB (W8 X) scope g (.ref U) cl A a s H E) body (tb H E))
  (b9:(tn==("__debug__":Str))=false:=by decide)(he:starEach [.Lambda params body scope lp] X.env=(false,eval (.Lambda params body scope lp) X.env)::starEach [] X.env:=by rfl)(c3:(backTo pos (starEach [] X.env)).any (·.1)=false:=by rfl) :
  PE X (.Call (.Name tn p) [.Lambda params body scope lp] [] pos) (NR P (W8 X) js tb tol):=by
 intro pins s σ H Q I ⟨hP,vs,hvs,hk2⟩;refine Kq (E9 I hg hm ?_ b9);refine sf (h₀:=X.base) I.ok.mod.kin hk ?_ he c3;rw[he];show wpAny _ _ (spliced ((false,eval (.Lambda params body scope lp) X.env)::backTo pos (starEach [] X.env))) _ _ s;refine lQ (xy I L C hP b3 c2 a7 λO G g U a0 pm B a6 ng a4 a9 _=>?_);refine Calls.spliced_nil ⟨B.kIn,?_⟩
 have a8:G P=some (.tabO (W8 X)):=by
  rcases a6 with rfl|⟨n,oc,rfl⟩
  ·exact hP
  ·rw[Y0 (λz=>by rw[<- z,hP]at n;cases n)];exact hP
 obtain⟨R,hR,hT⟩:=hk2 G (a6.imp id λ⟨n,oc,e⟩=>⟨_,oc,n,e⟩);have h:∀x c,(QH scope X.env).lookup x=some c->(∃v,O.heap.IsCell c v)/\G c=none:=λx c z=>⟨B.cell x c (Gb z),B.freeC x c (Gb z)⟩
 have fr:∀x,scope.names.lookup x=some .free->∃c,(QH scope X.env).lookup x=some c:=λx z=>by
  have m:=UI z;obtain⟨c,e⟩:=B.ok.has x (.inl (D _ m rfl));exact⟨c,Ji m e⟩
 have Z:vs.length=NB.length:=by
  have F:=congrArg List.length hvs;have W:=congrArg List.length a5;simp only[qD]at F W;omega
 have val:∀(i:Nat)(x:Str)(v:V),NB[i]?=some x->vs[i]?=some v->∃c u,(QH scope X.env).lookup x=some c/\O.heap.IsCell c (some u)/\ZF v u:=λi x v e1 e2=>by
  have F:=congrArg (λl=>l[i]?) a5;have W:=congrArg (λl=>l[i]?) hvs;simp only[qW]at F W;rw[e1]at F;rw[e2]at W
  cases ej:js[i]? with
  | none=>rw[ej]at F;cases F
  | some jj=>
   rw[ej]at F W;have g1:X.N[jj]?=some x:=qZ F;have g2:σ[jj]?=some (some v):=qZ W;have kf:scope.names.lookup x=some .free:=S.free x (Ub e1);have kc:X.env.kindOf x=some .cell:=D _ (UI kf) rfl;obtain⟨m,hn,hl⟩:=B.loc;obtain⟨u,rv,lk⟩:=hl jj x v g1 g2 (.inr (.inl kc));rcases lk with⟨z,_⟩|⟨_,c,ec,ic⟩
   ·rw[kc]at z;cases z
   ·exact⟨c,u,Ji (UI kf) ec,ic,rv⟩
 have As:RM X.prog X.w X.K X.mg X.base (W6 X.prog X.w) (j+1) (VR X.stack) O (Yq P G) g R:=by
  intro A a s' H' Q' E' c0 r un b7;obtain⟨sl,b5⟩:=un.any a4 (Pb ng) (by simp);obtain⟨oc,c1,t,J,hd,hv⟩:=a9;have b2:=(B.hok _ _ J).1;have nc:Yq P G U=none:=JN (G9 J);obtain⟨c4,b1⟩:=un.any b2 nc (by simp)
  have ic:∀c v,O.heap.IsCell c v->G c=none->s'.heap.IsCell c v:=λc v ⟨o,e,d⟩ n=>by
   obtain⟨sl,z⟩:=un.any e (Pb n) (by simp);exact⟨_,z,d⟩
  refine Bv (N:=NB) (vs:=vs) S c0 r b5 rfl ⟨U,_,c1,t,rfl,b1,hd,hv⟩ (M _ _ _ _) ⟨λx y c z1 z2=>B.ok.inj x y c (Gb z1) (Gb z2),fr,λx c z=>?_,λi x v e1 e2=>?_,Z⟩ λrm=>⟨_,hB A a s' H' E' g U _ rm r.hok,hR H' Q' E' b7⟩
  ·obtain⟨⟨v,iv⟩,n⟩:=h x c z;refine⟨⟨v,ic c v iv n⟩,?_⟩;obtain⟨o,e,_⟩:=iv;exact un.free c o e (Pb n) (by simp)
  ·obtain⟨c,u,a1,a2,a3⟩:=val i x v e1 e2;exact⟨c,u,a1,ic c _ a2 (h x c a1).2,a3⟩
 have r:=B.env0;have b8:Wg X.prog X.w X.K X.mg X.base X.A X.stack O (Yq P G):=⟨r.frames,r.mod,λb o z=>⟨(r.bs b o z).1,Pb (r.bs b o z).2⟩,r.bsz,r.funs,λb z=>Pb (r.frf b z),BC a8 r.hok,r.bare⟩;refine Lb (Oh (T.run X.A X.stack O (Yq P G) ⟨[.ref g],[]⟩ g R _ hr b8 (hb O [.ref g] B.kIn rfl) ⟨_,_,_,_,a4⟩ (Pb ng) As hT) λb4 s' hq=>?_)
 cases b4 with
 | error e=>exact hq.elim
 | ok fl=>
  cases fl with
  | ret u=>
   obtain⟨v,H2,os,Y,un,ok,rv,q2⟩:=hq;obtain⟨b6,b0,hn⟩:=xt a8 B.hok B.stkFree un ok;exact⟨v,_,B.call' os b6 b0 Y (λb z=>absurd z (by simp)),rv,q2 hn⟩
  | next=>exact False.elim hq
  | brk=>exact False.elim hq
  | cont=>exact False.elim hq
end
section
variable{P:Program}{w:World}{K:qC}{mg:Str->Option Value}{base:Heap}{N:List Str}{qual:Str}{scope:Scope}{f:Addr}{cd:Value}{cl:List (Str×Addr)}{A:Around}{outer:List Env}{s:Shared}{H:Hp}{E:XK}
theorem BW(I:Inv (VD (W6 P w) P w K mg base N qual scope f cd cl A outer s H E) g σ h p)(c:Yt P w H s.heap)(F:N1 s.heap h e C dx)(q:OH H E (.ref C) (some dx) h) :
  (VD (W6 P w) P w K mg base N qual scope f cd cl A outer s H E).xe (.ref e) p:=by
 refine EU (X:=VD (W6 P w) P w K mg base N qual scope f cd cl A outer s H E) I rfl rfl (λb d z=>I.base.there b d z (λy=>absurd (show b∈([]:List Addr)from y) (by simp))) F λx k a i u r _=>?_;refine⟨e,C,dx,k,rfl,a.os,a.bare,a.base,a.hok,⟨F.new,_,i.choose_spec.1,.inr ⟨_,rfl,i.choose_spec.2⟩⟩,λl v t=>q l (λb o j m=>?_) (λb o z n=>t b o (r b o z n) n)⟩;obtain⟨d,y⟩:=(c b o j).there;exact v b o j (u b o d y m)
theorem DX(g:Yt P w H s.heap):zxj (W6 P w) (VD (W6 P w) P w K mg base N qual scope f cd cl A outer s H E) (OH H E):=by
 intro j σ v l e t I h;obtain⟨x,C,dx,p,rfl,r,d,un,ok,F,q⟩:=h;have o:=I.call' (s':=t) r un ok d (λb z=>absurd z (by simp))
 have i:∀b c,s.heap.get? b=some c->∃m,l.heap.get? b=some m:=λb c z=>I.base.there b c z (λy=>absurd (show b∈([]:List Addr)from y) (by simp))
 have k:∀b,l.heap.get? b=none->s.heap.get? b=none:=λb z=>by
  cases y:s.heap.get? b with
  | none=>rfl
  | some c=>obtain⟨m,n⟩:=i b c y;rw[z]at n;cases n
 refine BW o g ⟨k _ F.new,?_⟩ (q p (λ_ _ _ z=>z) (λ_ _ z _=>z));obtain⟨u,a,b⟩:=F.st;exact⟨u,a,b.imp id λ⟨T,x1,x2,x3,x4⟩=>⟨T,x1,x2,k _ x3,x4⟩⟩
end
abbrev PX(P:Addr)(q:Str)(H:Hp):Prop:=H P=some (.tabO q)
def QA(P:Addr)(q:Str)(c:TE)(f:EF):Prop:=∀(fx:Addr->Prop)(H0:Hp)(a:ZY)(σ:St)(H:Hp),PX P q H->EnvOk fx H0 a σ H->∀r,f a=some r->∀Q:VK,(∀v b,Z3 H b->Xj (lim fx a σ r.bs) H b r v->Q v b)->c σ H Q
def FN(P:Addr)(q:Str)(e:TT)(f:TF):Prop:=∀(d:Addr->Prop)(g:Hp)(a:ZY)(σ:St)(H:Hp),PX P q H->EnvOk d g a σ H->∀b,f a=some b->∀Q:Bool->Hp->Prop,(∀c,Z3 H c->Q b c)->e σ H Q
def Q4(P:Addr)(q:Str)(d:TS)(F:SF):Prop:=∀(c:Addr->Prop)(b:Hp)(a:ZY)(σ:St)(H:Hp)(D:XU),PX P q b->EnvOk c b a σ H->∀o,F a=some o->Ci c b D o->d D σ H
section
variable{P:Addr}{q:Str}
theorem HR(h:SE b f):QA P q b f:=λc e a σ H _ d=>h c e a σ H d
theorem V0(h:SS c F):Q4 P q c F:=λb e a σ H D _ d=>h b e a σ H D d
theorem FO(O:SO r f)(A:QA P q J G)(N:QA P q C fb):QA P q (Ul r J C) (Z2 f G fb):=by
 intro g t c σ H p h X j Q U;unfold Z2 at j;obtain⟨x,ex,j⟩:=qA.mp j;obtain⟨y,F,j⟩:=qA.mp j;obtain⟨⟨d,fr⟩,D,j⟩:=qA.mp j;cases j;refine A g t c σ H p h x ex _ λv M k R=>N g t c σ M (k _ _ p) (h.up k) y F _ λu z l T=>?_;have E:∀b,lim g c σ (x.bs++y.bs) b->lim g c σ x.bs b:=Nr λi n=>Uw _ n;have W:∀b,lim g c σ (x.bs++y.bs) b->lim g c σ y.bs b:=Nr λi n=>qf _ n;refine O (lim g c σ (x.bs++y.bs)) z v u x.d y.d ((h.up (k.trans l)).lims _) (R.later (Z3.refl _) l E).rp (T.later (Z3.refl _) (Z3.refl _) W).rp d fr D _ λw m S rp o=>U w m ((k.trans l).trans S) ⟨Oz rp,λe=>?_⟩;obtain⟨a,I,B,s⟩:=o e;refine⟨a,I,(k.trans l).free B,?_⟩;have L:XF d=false:=by cases d<;>first|rfl|exact s.elim
 show Wo (Z6 (λb=>lim g c σ (ZM d (x.bs++y.bs)) b\/b=a) m) m a d;rw[show ZM d (x.bs++y.bs)=x.bs++y.bs by unfold ZM;rw[if_neg (by rw[L];decide)]];exact s
theorem pY(h:QA P q j f):FN P q (UN j) (Zk f):=by
 intro k p g σ H i l b a Q m;unfold Zk at a;obtain⟨⟨d,fr,bs⟩,e,a⟩:=qA.mp a
 cases d with
 | bool c=>
  have a:some c=some b:=a;cases a;refine h k p g σ H i l _ e _ λv o s n=>?_;cases MW n.rp;exact⟨_,rfl,m o s⟩
 | _=>cases a
theorem LI{K:qC}{g:TE}{f:EF}(h:QA P q g f):FN P q (λσ H Q=>g σ H λx d=>∃k,T6 K x d k/\Q k d) (Zt f):=by
 intro j p c σ H i l b a Q m;unfold Zt at a;obtain⟨r,e,a⟩:=qA.mp a;exact h j p c σ H i l _ e _ λv o s n=>⟨b,E1 (Rp.same (Z6.same _ _) _ n.rp) a,m o s⟩
theorem LN(h:FN P q t f):FN P q (PB t) (Xk f):=by
 intro i m a σ H g j b d Q k;unfold Xk at d;obtain⟨c,e,rfl⟩:=qG.mp d;exact h i m a σ H g j c e _ λl s=>k l s
theorem UA(h1:Q4 P q t f)(h2:Q4 P q u g):Q4 P q (WE t u) (Z0 f g):=by
 intro l m c σ H D j h o e b;unfold Z0 at e;obtain⟨k,n,e⟩:=qA.mp e;refine h1 l m c σ H _ j h k n ?_
 cases k with
 | nx a=>exact λi r p=>h2 l m a i r D j p o e b
 | bk a=>cases e;exact b
 | ct a=>cases e;exact b
 | rt d fr=>cases e;exact b
theorem OC(n:FN P q m c)(h1:Q4 P q t f)(h2:Q4 P q u g):Q4 P q (Uo m t u) (YA c f g):=by
 intro i j a σ H D d h o e k;unfold YA at e;obtain⟨b,p,e⟩:=qA.mp e;refine n i j a σ H (h.base _ _ d) h b p _ λl s=>?_
 cases b with
 | true=>exact WA (h1 i j a σ l D d (h.up s) o e k)
 | false=>exact WB (h2 i j a σ l D d (h.up s) o e k)
theorem nN(h1:QA P q k f):Q4 P q (WR k) (Ze f):=by
 intro j u c σ H D g h o e n;unfold Ze at e;obtain⟨r,i,rfl⟩:=qG.mp e;refine h1 j u c σ H (h.base _ _ g) h r i _ λv l s d=>n v l (h.base.trans s) ⟨Rp.same (Z6.sub λb z=>.inl z) _ d.rp,λz=>?_⟩;obtain⟨a,m,t,p⟩:=d.fr z;exact⟨a,m,h.base.free t,p.same (Z6.sub λb y=>y.imp (λw=>.inl w) id) λo w=>w⟩
def RQ(P:Addr)(q:Str)(n:Nat)(g:GF):Sp:=λvs H Q E=>PX P q H/\YM n g vs H Q E
theorem LV(s:SA B f):QA P q (X7 (RQ P q n g) [] E0 B) (ZG n g f):=by
 intro o G j σ H C h J c Q F;unfold ZG at c;obtain⟨k,y,c⟩:=qA.mp c;split at c
 ·rename_i t;obtain⟨⟨d,fr⟩,x,c⟩:=qA.mp c;cases c;refine s o G j σ H h k y _ λvs L l E=>?_;have D:=(h.up l).lims (Yj k);refine⟨l _ _ C,lim o j σ (Yj k),XX k,d,fr,by rw[Q9];exact t,D,?_,x,λv m u r=>F v m (l.trans u) ⟨Oz r.1,λe=>?_⟩⟩
  ·rw[q9];exact S5 (λi z=>z) E
  ·obtain⟨a,A,w,p⟩:=r.2 e;refine⟨a,A,l.free w,?_⟩;have I:XF d=false:=by cases d<;>first|rfl|exact p.elim
   show Wo (Z6 (λb=>lim o j σ (ZM d (Yj k)) b\/b=a) m) m a d;rw[show ZM d (Yj k)=Yj k by unfold ZM;rw[if_neg (by rw[I];decide)]];exact p
 ·cases c
theorem u3{N:List Str}(j:Q4 P q t f)(h:RQ P q n (XQ N.length f) vs H Q E):t {nx:=λ_ a=>Q .non a,rt:=Q} (start N vs) H:=by
 obtain⟨c,e,A,d,fr,w,i,r,g,k⟩:=h;unfold XQ at g;split at g
 ·rename_i x o b;cases g;exact j e H _ _ H _ c (OB i r) _ b λv a s l=>k v a s l
 ·rename_i y b;cases g;exact j e H _ _ H _ c (OB i r) _ b λm a p=>k .non a p.base ⟨CZ,λz=>by cases z⟩
 ·cases g
end
def Re:HO->Bool
 | .lst _=>true
 | .tup _=>true
 | .dK _=>true
 | _=>false
theorem tz(h:Re o=true):Pn o=true:=by cases o<;>first|rfl|cases h
mutual
theorem M6(h:∀b o,G b=some o->Re o=true->G' b=some o):∀(d:PyData){v:V},Rp G d v->Rp G' d v
 | .none,v,r=>by unfold Rp at r ⊢;exact r
 | .bool b,v,r=>by unfold Rp at r ⊢;exact r
 | .int i,v,r=>by unfold Rp at r ⊢;exact r
 | .str x,v,r=>by unfold Rp at r ⊢;exact r
 | .list ds,v,r=>by
  unfold Rp at r ⊢;obtain⟨a,e,g,c,f⟩:=r;exact⟨a,e,g,h a _ c rfl,Wt h ds f⟩
 | .tuple ds,v,r=>by
  unfold Rp at r ⊢;obtain⟨a,e,g,c,f⟩:=r;exact⟨a,e,g,h a _ c rfl,Wt h ds f⟩
 | .dict ds,v,r=>by
  unfold Rp at r ⊢;obtain⟨a,e,g,c,f⟩:=r;exact⟨a,e,g,h a _ c rfl,Tu h ds f⟩
theorem Wt(h:∀b o,G b=some o->Re o=true->G' b=some o):∀(a:List PyData){vs:List V},ZH G a vs->ZH G' a vs
 | [],vs,r=>by unfold ZH at r ⊢;exact r
 | d::a,vs,r=>by
  unfold ZH at r ⊢;obtain⟨v,c,f,g,e⟩:=r;exact⟨v,c,f,M6 h d g,Wt h a e⟩
theorem Tu(h:∀b o,G b=some o->Re o=true->G' b=some o):∀(a:List (PyData×PyData)){vs:List (Y7×V)},YP G a vs->YP G' a vs
 | [],vs,r=>by unfold YP at r ⊢;exact r
 | (k,d)::a,vs,r=>by
  unfold YP at r ⊢;obtain⟨e,v,c,i,g,j,f⟩:=r;exact⟨e,v,c,i,g,M6 h d j,Tu h a f⟩
end
def GB(e:Str->Addr)(H:Hp)(Q:VK)(E:XK):WX->Prop
 | .ok _ _=>∀v a,Z3 H a->Q v a
 | .rx c d=>∀k b a,RX H (e c) d k b a->E k b a
def Qd(cl:Str->Addr)(g:WX->Option PyData):(Hp->VK->XK->Prop)->Hp->VK->Prop:=λR H Q=>∃(fx:Addr->Prop)(r:WX)(d:PyData),(∀b,fx b->∃o,H b=some o)/\(∀a e c,Z3 H a->GB cl a e c r->R a e c)/\g r=some d/\∀v a,Z3 H a->Rp (Z6 fx a) d v->Q v a
def O2:List Nat->AF
 | []=>Z8
 | j::a=>Z7 (Z9 j) (O2 a)
def Lv:List Nat->TA
 | []=>XI
 | j::a=>YW (YR j) (Lv a)
theorem FM:∀a:List Nat,SA (Lv a) (O2 a)
 | []=>Tf
 | j::a=>U4 (Vb j) (FM a)
theorem G2:∀(a:List Nat){σ:St}{H:Hp}{Q:List V->Hp->Prop},Lv a σ H Q->∃vs:List V,(a.map λj=>σ[j]?)=vs.map (λv=>some (some v))/\Q vs H
 | [],σ,H,Q,h=>⟨[],rfl,h⟩
 | j::a,σ,H,Q,h=>by
  obtain⟨v,e,h⟩:=h;obtain⟨vs,c,b⟩:=G2 a h;exact⟨v::vs,by rw[qL,qL,e,c],b⟩
def QQ(b:List Nat)(n:Nat)(c:Tw)(a:AF)(g:WX->Option PyData):EF:=λenv=>(O2 b env).bind λcs=>(a ((XX cs).map .pl)).bind λrs=>if rs.length=n then(c (XX rs)).bind λr=>(g r).map λd=>⟨d,false,ZM d (Yj cs)⟩else none
theorem ql{fx:Addr->Prop}{a:List PyData}{vs:List V}(c:∀b,fx b->∃o,H b=some o)(r:ZH (Z6 fx H) a vs):EnvOk fx H (a.map .pl) (vs.map some) H:=by
 have:=OB (N:=List.replicate a.length ("":Str)) c r;unfold Si start at this;rw[Q1,Nat.sub_self,<- r.length,Nat.sub_self]at this;simpa using this
theorem Iw{cl:Str->Addr}{g:WX->Option PyData}(ha:SA ta a) :
  QA P q (NR P q js (λH E=>X7 (VS cl n gf) [] (OH H E) ta) (Qd cl g)) (QQ js n gf a g):=by
 intro A Z p σ H X h rr m Q qq;unfold QQ at m;obtain⟨x,ec,m⟩:=qA.mp m;obtain⟨O,er,m⟩:=qA.mp m;split at m
 ·rename_i hn;obtain⟨r,eg,m⟩:=qA.mp m;obtain⟨d,ed,rfl⟩:=qG.mp m;refine⟨X,?_⟩;obtain⟨vs,ev,B,sx,T⟩:=G2 js (FM js A Z p σ H h x ec (λvs f=>∃B,Z3 H B/\B=f/\ZH (Z6 (lim A p σ (Yj x)) f) (XX x) vs) λvs f s v1=>⟨f,s,rfl,S5 (λi L=>L) v1⟩);obtain⟨rfl,T⟩:=T;refine⟨vs,ev,λl S=>?_⟩
  have G:Z3 B l:=by
   rcases S with rfl|⟨c,oc,nc,rfl⟩
   ·exact Z3.refl _
   ·exact λb o e=>by rw[Y0 (λz=>by rw[z,nc]at e;cases e)];exact e
  have J:l P=some (.tabO q):=G _ _ X;have hA:=(h.up G).lims (Yj x)
  let j:Addr->Prop:=λb=>lim A p σ (Yj x) b/\YY P l b=false
  have C:∀b,j b->∃o,Yq P l b=some o:=λb ⟨z1,z2⟩=>by
   obtain⟨o,e⟩:=hA b z1;exact⟨o,by unfold Yq;rw[z2];exact e⟩
  have N:∀(f:Hp),Z3 (Yq P l) f->∀b o,Z6 (lim A p σ (Yj x)) B b=some o->Re o=true->Z6 j f b=some o:=λf t b o e Y=>by
   obtain⟨nl,e⟩:=Z6.of e;have y:=G _ _ e;have nb:b≠P:=λz=>by rw[z,J]at y;cases y;cases Y
   rw[Z6.get (λz=>nl z.1)];exact t _ _ (zB y nb (tz Y))
  refine⟨λf R M=>Z3 (Yq P l) f/\GB cl f R M r,λf R M ⟨t,rw'⟩=>?_,j,r,d,C,λf R M t w=>⟨t,w⟩,ed,λv f t rp D=>?_⟩
  ·have W:=ql (fx:=j) (H:=f) (λb z=>let⟨o,e⟩:=C b z;⟨o,t _ _ e⟩) (Wt (N f t) _ T);refine ha j f _ _ f W O er _ λws H2 I v2=>?_;refine⟨lim j ((XX x).map .pl) (vs.map some) (Yj O),XX O,r,by rw[Q9];exact hn,(W.up I).lims _,by rw[q9];exact S5 (λi L=>L) v2,eg,?_⟩
   cases r with
   | ok d' a0=>exact λv U s3 _=>rw' v U (I.trans s3)
   | rx c d'=>exact λk od U z=>RX.stx (H0:=f) rw' (RX.base I z)
  ·have F:∀b o,f b=some o->UD P l f b=some o:=λb o e=>by
    cases u:YY P l b with
    | true=>rw[D b u]at e;cases e
    | false=>rw[Q3 u];exact e
   refine qq v _ (λb o e=>?_) ⟨Oz (M6 (λb o e _=>?_) _ rp),λz=>by cases z⟩
   ·have y:=G _ _ e
    cases u:YY P l b with
    | true=>rw[Rr u];exact y
    | false=>exact F b o (t _ _ (by unfold Yq;rw[u];exact y))
   ·obtain⟨nf,e⟩:=Z6.of e
    have u:YY P l b=false:=by
     cases z:YY P l b with
     | false=>rfl
     | true=>rw[D b z]at e;cases e
    rw[Z6.get (λz=>nf ⟨z,u⟩)];exact F b o e
 ·cases m
theorem lY{env:Env}:∀(l:List (Str×NameKind))(a:List (Str×Addr)),(∀p∈l,p.2=.free->∃c,env.cells.lookup p.1=some c)->
  (forIn l a (λ(x:Str×NameKind) (r:List (Str×Addr))=>match x with|(b,kind)=>if(kind==NameKind.free)=true then do let c <- cellOf env b;pure (ForInStep.yield ((b,c)::r))else pure (ForInStep.yield r)):Sem (List (Str×Addr))) =
   pure ((l.filterMap λp=>if p.2==.free then(env.cells.lookup p.1).map λc=>(p.1,c)else none).reverse++a)
 | [],a,_=>rfl
 | (x,k)::l,a,h=>by
  rw[DQ,Cv];have d:=λa=>lY (env:=env) l a λp g=>h p (qI _ g)
  cases hk:(k==NameKind.free)with
  | true=>
   obtain⟨c,e⟩:=h (x,k) (by simp) (by simpa using hk)
   have f:cellOf env x=pure c:=by
    have i:env.cells.lookup x=some c:=e;unfold cellOf;rw[i]
   dsimp only;rw[hk,if_pos rfl,if_pos rfl,f,pure_bind,pure_bind];dsimp only;rw[d,show env.cells.lookup x=some c from e];simp
  | false=>
   dsimp only;rw[hk,if_neg (by decide),if_neg (by decide),pure_bind];exact d a
theorem n6{a:Scope}{env:Env}(h:∀p∈a.names,p.2=.free->∃c,env.cells.lookup p.1=some c):closureFor a env=pure (QH a env):=by
 unfold closureFor QH;have:=lY (env:=env) a.names [] h;rw[q9]at this;show(forIn a.names [] _ >>=λr=>pure r)=_;rw[bind_pure];exact this
def yP(P:Program)(w:World)(K:qC)(d:Str->Option Value)(base:Heap)(x b:Str)(k j:Nat)(a:(Hp->VK->XK->Prop)->Hp->VK->Prop):Prop:=
 ∃f c,Wq P w K d base k j f c b a/\d x=some (.ref f)/\RJ K (.ref f)=true/\Vm K c [b] []
section
variable{X:Cx}
def DI(a b:Scope):Bool:=a.names.all λq=>(q.2 != .free)||(b.names.lookup q.1==some .cell)
theorem DI.of{a b:Scope}(h:DI a b=true):∀q∈a.names,q.2=.free->b.names.lookup q.1=some .cell:=λq c d=>by
 have:=Ug.mp h q c;rw[d]at this;simpa using this
theorem Jd{t:(Hp->VK->XK->Prop)->Hp->VK->Prop}{NB:List Str}{js:List Nat}{L:Hp->XK->TE}
  (D:yP X.prog X.w X.K X.mg X.base y pr k (j+1) t)(U:Y5 k X.A)(Z:Gl X y)(m:X.env.code=.ref c)(C:CodeHd X.base c P)(v:BM X.mg X.base)(S:Wi NB a)(r:defaultsOf b X.env=([],[]))
  (n:∀(cl:List (Str×Addr)) (pm cd G:Value),bindArgs (kla_fn "<lambda>" (W8 X) b e a cl pm cd G) ⟨[],[]⟩=pure [])
  (J:DI a X.env.scope=true)
  (B:js.map (λi=>X.N[i]?)=NB.map some)
  (R:∀(A:Around)(d:List Env)(s:Shared)(H:Hp)(E:XK)(g u:Addr)(cl:List (Str×Addr)),Y5 j (A.deeper (envX (W8 X) a s.heap.objs.size g (.ref u) cl))->Yt X.prog X.w H s.heap->Bx (PE (VD (W6 X.prog X.w) X.prog X.w X.K X.mg X.base NB (W8 X) a g (.ref u) cl A d s H E) e (L H E)))
  (x:(y==("__debug__":Str))=false)(O:starEach [.Lambda b e a M] X.env=(false,eval (.Lambda b e a M) X.env)::starEach [] X.env)(F:(backTo z (starEach [] X.env)).any (·.1)=false) :
  Bx (PE X (.Call (.Name y p) [.Lambda b e a M] [] z) (NR P (W8 X) js L t)):=by
 obtain⟨f,fd,T,hm,hk,hb⟩:=D;have l:∀q∈a.names,q.2=.free->X.env.kindOf q.1=some .cell:=DI.of J;refine⟨λo s σ H Q I h=>?_⟩;exact vo T U Z hm hk hb m C v S (n6 λp Y W=>I.ok.has p.1 (.inl (l p Y W))) r n l B (λA d s H E g u cl rm ok=>(R A d s H E g u cl rm ok).out) x O F o s σ H Q I h
theorem x5{cl:Str->Addr}{R:Hp->VK->XK->Prop}{p b q a h S:Pos}{D:Addr->TS}
  (P:RM X.prog X.w X.K X.mg X.base (W6 X.prog X.w) k X.fs X.s₀ X.H₀ g R)(XK:L5 X.prog X.w X.K X.mg X.base cl H KS m)(l:X.ex=[])(I:Y5 k X.A)(O:FnAt g X.s₀.heap)(t:X.H₀ g=none)
  (J:X.N[i]?=some d)(T:WI X.env.scope d=true)
  (E:X.N.Nodup)(L:X.N[j]?=some n)(F:X.env.scope.names.lookup n=some .local)
  (r:X.stack=X.env::X.outer)(y:X.env.frame=some X.env.locals)(v:Gl X m)
  (Q:∀C e f,Td X.K C f->findIn X.K (.ref C) "__class__"=some (some (.builtin "object.__class__"))->Bx (W2 (X.hold e) (z::suite) (D C)))
  (o:(d==("__debug__":Str))=false)(u:(d==("__classdict__":Str))=false)(B:(m==("__debug__":Str))=false)
  (s:swapsWith (.Call (.Name d p) [] [] b) none a.line X.env=pure false) :
  Bx (PS X (.Try [.Expr (.Call (.Name d p) [] [] b) a] [.ExceptHandler (some (.Name m S)) (some n) (z::suite) h] [] [] q) (LW (λC=>∃c∈H,C=cl c) g R D i j)):=by
 refine⟨zw P l I O t J (WI.of T) E L F r y v XK.mgB (λC ⟨c,hc,e⟩=>by subst e;exact XK.ex c hc) (λC ⟨c,hc,e⟩ ea=>?_) o u B s⟩;subst e;obtain⟨G,_,M,_,_,_,x,_⟩:=XK.ok c hc;exact(Q _ ea G M x).out
end
def Ie(b:List Str)(j:Nat)(r:WX)(f:Str->PyData->SF):SF:=λa=>match r with
 | .ok _ _=>some (.nx a)
 | .rx c d=>if c∈b then(f c d (a.set j .no)).bind λo=>match o with
  | .nx e=>some (.nx (e.set j .no))
  | _=>none else none
def LK(n i j:Nat)(a:List Str)(E0:EF)(b:Str->PyData->SF):WX->Option PyData:=λr=>match(Z0 (Z1 i E0) (Z0 (Ie a j r b) (Th i))) (List.replicate n .no)with
 | some (.rt d _)=>some d
 | _=>none
theorem Bo{cl:Str->Addr}{L:List Str}{N:List Str}{i j:Nat}{x:TE}{E0:EF}{T:Addr->TS}{X:Str->PyData->SF}(hi:i≠0)(hj:j<N.length)(hN:1<=N.length)(h0:SE x E0)(hs:∀c∈L,∀d,wA j (cl c) d (T (cl c)) (X c d)){H:Hp}{g:Addr}{R:Hp->VK->XK->Prop}{Q:VK}
  (h:Qd cl (LK N.length i j L E0 X) R H Q):WE (Xy x (Y6 i)) (WE (LW (λC=>∃c∈L,C=cl c) g R T 0 j) (WR (YR i))) {nx:=λ_ u=>Q .non u,rt:=Q} (start N [.ref g]) H:=by
 obtain⟨A,r,d,hf,Y,B,hq⟩:=h;unfold LK at B;split at B
 ·rename_i d' fr t;cases B
  have hl:(start N [V.ref g]).length=N.length:=by
   unfold start;rw[qU,qD,Q1];show 1+(N.length - 1)=N.length;omega
  have no:∀(k:Nat)(F:Sl),(List.replicate N.length Sl.no)[k]?=some F->F=.no:=λk F e=>B7 (Ub e);have hE:EnvOk A H (List.replicate N.length .no) (start N [.ref g]) H:=⟨by rw[Q1,hl],λk d e=>by(have:=no k _ e;cases this),λk d e=>by(have:=no k _ e;cases this),λk l d e a h1=>by(have:=no k _ h1;cases this),Z3.refl _,hf⟩;unfold Z0 at t;obtain⟨U,f,t⟩:=qA.mp t;refine L3 (J:=λk=>k=0) h0 hi A H _ _ H _ hE U f ?_
  cases U with
  | nx s=>
   intro z H1 q S
   have O:s.length=N.length:=by
    unfold Z1 at f;obtain⟨r1,_,f⟩:=qG.mp f;cases f;have:=q.len;unfold Vq;rw[Wd]
    have Z:∀(bs:List Nat)(o:ZY),(frzs o bs).length=o.length:=λbs=>by
     induction bs with
     | nil=>intro o;rfl
     | cons b bs ih=>intro o;show(frzs (frz1 o b) bs).length=_;rw[ih,tD]
    rw[Z,Q1]
   dsimp only at t;obtain⟨o2,n,t⟩:=qA.mp t;have hv:z[0]?=some (some (.ref g)):=(S 0 rfl).trans rfl;have y:∀m p w,EnvOk A H m p w->Th i m=some (.rt d fr)->(WR (YR i)) {nx:=λ_ u=>Q .non u,rt:=Q} p w:=λm p w G e3=>Q6 A H m p w _ G _ e3 λv E s3 rt=>hq v E s3 rt.1;refine⟨hv,Y H1 _ _ q.base ?_⟩;unfold Ie at n
   cases r with
   | ok d0 f0=>
    cases n;exact λv w s2=>y s z w (q.up s2) t
   | rx c d0=>
    dsimp only at n;split at n
    ·rename_i hc;refine yU (D:={nx:=λM u=>(WR (YR i)) {nx:=λ_ u=>Q .non u,rt:=Q} M u,rt:=Q}) q (by rw[O];exact hj) hc hs n ?_;obtain⟨o3,_,n⟩:=qA.mp n
     cases o3 with
     | nx W=>cases n;exact λP E I=>y _ P E I t
     | bk _=>cases n
     | ct _=>cases n
     | rt _ _=>cases n
    ·cases n
  | bk _=>unfold Z1 at f;obtain⟨_,_,f⟩:=qG.mp f;cases f
  | ct _=>unfold Z1 at f;obtain⟨_,_,f⟩:=qG.mp f;cases f
  | rt _ _=>unfold Z1 at f;obtain⟨_,_,f⟩:=qG.mp f;cases f
 ·cases B
theorem pj{P:Program}{w:World}{K:qC}{M:Str->Option Value}{base:Heap}{x d:Str}{m:Stmt}{f c:Addr}{D:Xl}{N G:List Str}{k:Nat}{F:Sp}(Fu:Yw K x d m f D)(S:ZW N G (YU m))(len:∀vs H Q E,F vs H Q E->vs.length=G.length)(hc:D.code=.ref c)
  (g:∀(A:Around)(a:List Env)(s:Shared)(H:Hp)(vs:List V)(Q:VK)(E:XK),Y5 k (A.deeper (envOfC d (YU m) s.heap.objs.size f (.ref c)))->F vs H Q E->
   ∃t,W2 (X0 Yz P w K M base N d (YU m) f (.ref c) A a s H E).nox (Vi m) t/\t {nx:=λ_ i=>Q .non i,rt:=Q} (start N vs) H):Zu P w K M base Yz (k+1) f D G F:=by
 refine⟨len,λA a s H L us vs Q E z l hb r j=>?_⟩;obtain⟨oc,od,kV,U,pm,an,C,ct,a0,rfl,R,B⟩:=Fu.ex;have p:C=.ref c:=hc;subst p;have O:K.In s.heap:=l.mod.kin.keeps λb o e=>(l.bs b o e).1;refine CQ z.depth (O _ _ R) rfl S.co S.gen rfl (Cn O B) (hb _ _ _ _ (Dg S.kind (λ⟨n,v⟩ hy=>?_) λW Y s1 x=>?_))
 ·rcases S.par n (Qh hy).1 with q|q
  ·exact .inl q
  ·exact .inr ⟨q,Hu _ _ _ (.inl q)⟩
 ·subst Y;obtain⟨t,X,hq⟩:=g A a s H vs Q E (z.deeper _) j;have I:=Ce (CX:=Yz) (E:=E) S z.hd l (len _ _ _ _ j) r x;refine⟨(l.mod.nolimit.keeps λb o e=>(l.bs b o e).1).keeps x.toInCall.keep,CG (TJ (X [] s1 (start N vs) H _ (I.wish _) hq) (λZ s' h=>?_) λe s' h=>h.elim)⟩
  cases Z with
  | ret u=>obtain⟨v,y,i,J,T,q⟩:=h;exact⟨v,i,J.os,J.bare,J.base,J.hok,T,q⟩
  | next=>obtain⟨y,i,J,q⟩:=h;exact⟨.non,i,J.os,J.bare,J.base,J.hok,rfl,q⟩
  | brk=>obtain⟨_,_,_,q⟩:=h;exact q.elim
  | cont=>obtain⟨_,_,_,q⟩:=h;exact q.elim
theorem Bw{vs:List V}(h:RQ P q n g vs H Q E):vs.length=n:=Xe h.2
def PD(K:qC)(P:Addr)(q:Str):Sp:=λvs H Q _=>∃(a:Addr)(c:List Int),vs=[.ref a]/\YK K H a (c.map V.int)/\PX P q H/\∀b,Z3 H b->Q (.bl true) b
theorem v9(g:Q4 P q t F){c:St->Hp->Prop}(hT:PX P q a)(h:EnvOk (λ_=>False) a b σ a)(e:F b=some (.rt (.bool true) false))(k:∀f,Z3 a f->Q (.bl true) f):t {nx:=c,rt:=Q} σ a:=by
 refine g _ a b σ a _ hT h _ e λv H s d=>?_;rw[show v=.bl true from MW d.1];exact k H s
theorem vT{P:Program}{w:World}{K:qC}{B mb:Str->Option Value}{CX:Uq}{k:Nat}{fa a c TP:Addr}{q:Str}{fd:Xl}{x:Str}{sp:Sp}{f:Shared}{vs:List Value}{R:List Int}
  (KX:K.In f.heap)(S:f.heap.Ns qy B)(t:f.heap.Ns builtinsNs mb)(a0:∀x:Str,x≠"__name__"->mb x=bootBuiltins x)(X:f.heap.NoLimit)(hg:f.gens=#[])
  (M:f.heap.get? a=some {cls:=.type "list",data:=.seq vs.toArray}) (hi:IntsAre vs R) (hl:R.length<=qa) (hr:Y5 k callerA)
  (hT:CodeHd f.heap c TP)(i:f.heap.get? TP=some (tabObj #[]))(nT:noTabs K=true)(a1:BM B f.heap)
  (F:∀base:Heap,K.In base->base.Ns qy B->BM B base->CodeHd base c TP->Zu P w K B base CX k fa fd [x] sp)(L:∀(s:Shared) (u:Value),BindsTo s fd ⟨[u],[]⟩ [(x,u)])
  (a5:∀H:Hp,PX TP q H->YK K H a (R.map V.int)->sp [.ref a] H (λv H'=>v=.bl true/\PX TP q H') λ_ _ _=>False)
  (a6:∀H e l,CX [] H f (λ_ _ _=>False) e l->False) :
  codeAny (model P w) callerA (.call (.ref fa) ⟨[.ref a],[]⟩) (λr l=>r=.ok (.ret (.bool true))/\OldK f.heap l.heap/\l.os=f.os/\AllBare l.gens) f:=by
 have rv:=J6 hi;have Y:=hi.length;have G:a≠TP:=λz=>by rw[z,i]at M;cases M
 have KT:K.lookup TP=none:=by
  cases e:K.lookup TP with
  | none=>rfl
  | some o=>
   have D:=KX _ _ e;rw[i]at D;cases D;have h2:=Ug.mp nT _ (PySem.W.mem_of_lookupK e)
   exact absurd (show false=true from h2) qQ
 have E:∀H:Hp,PX TP q H->YK K H a (R.map V.int)->Yt P w H f.heap->(∀b,H b≠none->b=a\/b=TP)->(H a≠none->K.lookup a=none/\∃o I,H a=some (.frz o (.lst I)))->
   codeAny (model P w) callerA (.call (.ref fa) ⟨[.ref a],[]⟩) (λr l=>r=.ok (.ret (.bool true))/\OldK f.heap l.heap/\l.os=f.os/\AllBare l.gens) f:=by
  intro H a4 hS Q hA hK
  have free:∀{b:Addr}{o:Obj},f.heap.get? b=some o->(∀I n,o.data≠.seq I n)->(∀vs,o.data≠.fields vs\/o.cls≠.none)->H b=none:=λ{b o} e n1 n2=>by
   cases z:H b with
   | none=>rfl
   | some u=>
    rcases hA b (by rw[z];simp)with rfl|rfl
    ·rw[M]at e;cases e;exact absurd rfl (n1 _ _)
    ·rw[i]at e;cases e;exact(n2 #[]).elim (λy=>absurd rfl y) (λy=>absurd rfl y)
  have A:∀{b:Addr}{m:Str->Option Value},f.heap.Ns b m->(V4 f.heap H).Ns b m:=λ{b m} ⟨o,es,ep,e,d,r⟩=>⟨o,es,ep,Ck e (free e (λI n z=>by rw[d]at z;cases z) (λvs=>.inl λz=>by rw[d]at z;cases z)),d,r⟩
  have Z:K.In (V4 f.heap H):=λb o e=>Ck (KX b o e) (by
   cases z:H b with
   | none=>rfl
   | some u=>
    rcases hA b (by rw[z];simp)with rfl|rfl
    ·rw[(hK (by rw[z];simp)).1]at e;cases e
    ·rw[KT]at e;cases e)
  have hM:Mod K B (V4 f.heap H):=⟨Z,A S,⟨mb,A t,a0⟩,let⟨mc,h1,h2⟩:=X;⟨mc,A h1,h2⟩⟩
  have a7:BM B (V4 f.heap H):=by
   obtain⟨bm,ob,b1,b2,b3,b4,b5,b6⟩:=a1;exact⟨bm,ob,b1,b2,Ck b3 (free b3 (λI n z=>by rw[b6]at z;cases z) (λvs=>.inl λz=>by rw[b6]at z;cases z)),b4,b5,b6⟩
  have a2:CodeHd (V4 f.heap H) c TP:=by
   obtain⟨o,a3,T,tf,J,tg,a8,O,tt,D,e2,e3,r⟩:=hT;exact⟨o,a3,T,tf,J,tg,a8,O,tt,Ck D (free D (λI n z=>by rw[e3]at z;cases z) (λvs=>.inr λz=>by rw[e2]at z;cases z)),e2,e3,r⟩
  have e0:Wg P w K B (V4 f.heap H) callerA [] f H:=⟨rfl,hM,λb o e=>oY e,Nat.le_of_eq (zU _ _),trivial,λb t=>absurd (show b∈([]:List Addr)from t) (by simp),Q,.of_eq hg⟩;refine Oh ((F _ Z (A S) a7 a2).run callerA [] f H ⟨[.ref a],[]⟩ [.ref a] [.ref a] _ _ hr e0 (L f (.ref a)) (.cons rfl .nil) (a5 H a4 hS)) λr l h=>?_
  cases r with
  | error e=>exact(a6 H e l h).elim
  | ok fl=>
   cases fl with
   | next=>exact False.elim h
   | brk=>exact False.elim h
   | cont=>exact False.elim h
   | ret u=>
    obtain⟨v,H',os,U,un,C,r',qv,qT⟩:=h;subst qv;obtain rfl:u=Value.bool true:=r'
    have kept:∀b o,f.heap.get? b=some o->b≠TP->l.heap.get? b=some o:=λb o e g=>by
     cases z:H b with
     | none=>exact un.keep b o e z (by intro z;exact absurd (show b∈([]:List Addr)from z) (by simp)) (by simp)
     | some u=>
      rcases hA b (by rw[z];simp)with rfl|rfl
      ·obtain⟨_,ob,I,j⟩:=hK (by rw[z];simp);have z2:=un.frzs b ob _ j;obtain⟨D,_⟩:=Q b _ j;obtain⟨e2,_⟩:=C b _ z2;rw[e]at D;cases D;exact e2
      ·exact absurd rfl g
    obtain⟨ps,N,_⟩:=C TP _ qT;refine⟨rfl,⟨λb o e=>?_,λb o e=>?_⟩,os,U⟩
    ·by_cases g:b=TP
     ·subst g;rw[i]at e;cases e;exact .inr (.inl ⟨(hT.tab i).isCodeTable,rfl,#[],ps,rfl,by rw[Array.empty_append];exact N⟩)
     ·exact .inl (kept b o e g)
    ·by_cases g:b=TP
     ·exact⟨_,by rw[g];exact N⟩
     ·exact⟨o,kept b o e g⟩
 have p:∀H:Hp,XE P w H f.heap TP (.tabO q):=λH=>⟨#[],i,trivial,λa9 cv h=>by cases h⟩
 cases hk:K.lookup a with
 | some o=>
  have e:=KX a o hk;rw[M]at e;cases e;refine E (λb=>if b=TP then some (.tabO q)else none) (if_pos rfl) (.inr ⟨_,vs.toArray,_,hk,rfl,rfl,rfl,by rw[qO,Y];exact hl,by simpa using rv⟩) (λb u z=>?_) (λb z=>?_) λz=>?_
  ·by_cases g:b=TP
   ·subst g;have j:=(if_pos rfl).symm.trans z;cases j;exact p _
   ·have j:=(if_neg g).symm.trans z;cases j
  ·by_cases g:b=TP
   ·exact .inr g
   ·exact absurd (if_neg g) z
  ·exact absurd (if_neg G) z
 | none=>
  refine E (λb=>if b=TP then some (.tabO q)else if b=a then some (.frz {cls:=.type "list",data:=.seq vs.toArray} (.lst (R.map V.int)))else none) (if_pos rfl) (.inl (.inr ⟨{cls:=.type "list",data:=.seq vs.toArray},(if_neg G).trans (if_pos rfl)⟩)) (λb u z=>?_) (λb z=>?_) λ_=>⟨hk,_,_,(if_neg G).trans (if_pos rfl)⟩
  ·by_cases g:b=TP
   ·subst g;have j:=(if_pos rfl).symm.trans z;cases j;exact p _
   ·have z:=(if_neg g).symm.trans z;by_cases t:b=a
    ·have j:=(if_pos t).symm.trans z;cases j;subst t;exact⟨M,by rw[qD];exact hl,vs,_,rv,M⟩
    ·have j:=(if_neg t).symm.trans z;cases j
  ·by_cases g:b=TP
   ·exact .inr g
   ·by_cases t:b=a
    ·exact .inl t
    ·exact absurd ((if_neg g).trans (if_neg t)) z
abbrev RO(q:Program)(a:Str)(dt:DefRec):Prop:=(recsOf q).find? (λe=>e.name==a)=some dt
theorem RZ{l:PySem.W.OpenLaw}{n k:Nat}{q:Program}{j:List Str}{U:(Str->Option Value)->Heap->Prop}{N:World->Heap->Prop}{d dt:DefRec}{K:Params->qC}{x v E:Str}{c TP:Addr}
  (P:l.most=some n)(y:n<=qa)(C:d.params.defaults=[])(X:Y5 k callerA)
  (hY:∀(w:World) (h:Heap),N w h->(K w.params).In h)
  (hrec:RO q v dt)(hti:∀w:World,tabIn (K w.params) v=some (c,TP))(hnt:∀w:World,noTabs (K w.params)=true)
  (F:∀(w:World)(i:Str->Option Value)(t:Addr)(h:Heap),(K w.params).In h->h.Ns qy i->i d.name=some (.ref t)->
   ∃B:Xl,(∀(s:Shared)(u:Value),BindsTo s B ⟨[u],[]⟩ [(x,u)])/\
    ∀base:Heap,(K w.params).In base->base.Ns qy i->BM i base->CodeHd base c TP->Zu l.prog w (K w.params) i base Yz k t B [x] (PD (K w.params) TP E)) :
  PySem.W.WalkO q j U N l.row.toRowW d [] (λf vs=>PySem.call f vs):=by
 refine Att.attach_call P C λw J L i mb t o pm cd O a vs ns G Y ho hd Z D r m p hg=>?_;have A:=hY w _ Y;obtain⟨B,hb,hF⟩:=F w i t _ A G.T.g D;obtain⟨t1,R⟩:=PySem.W.tab_of (x:=v) G.T A hrec (hti w);obtain⟨S,ob,b1,b2,b3,Q,b5,b6⟩:=G.T.bmain;exact vT (q:=E) A G.T.g G.T.b G.T.builtins G.T.nolimit hg r m (WT p y) X t1 R (hnt w) ⟨S,ob,b1,b2,b3,Q,b5,b6⟩ hF hb (λH I hS=>⟨a,ns,rfl,hS,I,λH' M=>⟨rfl,M _ _ I⟩⟩) λH e M z=>z.elim
section
variable{P:Program}{w:World}{K:qC}{h:Heap}{mg:Str->Option Value}{base:Heap}{x:Str}{st:Stmt}{f:Addr}{fd:Xl}{ps:List Str}{k:Nat}{sp:Sp}
structure ZK(K:qC)(x:Str)(st:Stmt)(f:Addr)(fd:Xl):Prop where
 ns:UW K qy x=some (some (.ref f))
 fn:Yw K x x st f fd
theorem NG{m:Value}{n j:Option Addr}{e:Array (Option Value)}{kV d i b g:Value}(a:UW K qy x=some (some (.ref f)))(l:K.lookup f=some ⟨m,n,.func (Ur x x (Sn st) (Vi st) (YU st) .none kV d i j b g),e⟩)
  (c:EI K b x=true) (k:RJ K (.ref f)=true):ZK K x st f (Ur x x (Sn st) (Vi st) (YU st) .none kV d i j b g):=⟨a,DW l c k⟩
theorem ZK.b1(d:ZK K x st f fd)(h:∀(kV b g:Value) (i:Option Addr) (c e a:Value),bindArgs (Ur x x (Sn st) (Vi st) (YU st) .none kV b g i c e) ⟨[a],[]⟩=pure [(p,a)]):Vm K fd [p] []:=
 d.fn.binds λkV b g i c e j l=>match j,l with|[a],_=>h kV b g i c e a
theorem ZK.b2(d:ZK K x st f fd)(h:∀(kV c i:Value) (j:Option Addr) (e g a b:Value),bindArgs (Ur x x (Sn st) (Vi st) (YU st) .none kV c i j e g) ⟨[a,b],[]⟩=pure [(p,a),(q,b)]):Vm K fd [p,q] []:=
 d.fn.binds λkV c i j e g l m=>match l,m with|[a,b],_=>h kV c i j e g a b
theorem ZK.b3(d:ZK K x st f fd)(h:∀(kV e j:Value) (l:Option Addr) (g i a b c:Value),bindArgs (Ur x x (Sn st) (Vi st) (YU st) .none kV e j l g i) ⟨[a,b,c],[]⟩=pure [(p,a),(q,b),(r,c)]):Vm K fd [p,q,r] []:=
 d.fn.binds λkV e j l g i m n=>match m,n with|[a,b,c],_=>h kV e j l g i a b c
theorem ZK.b5(d:ZK K x st f fd)(h:∀(kV i m:Value) (n:Option Addr) (j l a b c e g:Value),bindArgs (Ur x x (Sn st) (Vi st) (YU st) .none kV i m n j l) ⟨[a,b,c,e,g],[]⟩=pure [(p,a),(q,b),(r,c),(s,e),(t,g)]):Vm K fd [p,q,r,s,t] []:=
 d.fn.binds λkV i m n j l o u=>match o,u with|[a,b,c,e,g],_=>h kV i m n j l a b c e g
theorem ZK.dn(d:ZK K x st f fd)(X:K.In h)(G:h.Ns qy mg)(ok:Zu P w K mg base Yz k f fd ps sp)(b:Vm K fd ps []):Dn P w K mg base x ps k sp:=⟨f,fd,ok,Ra X G d.ns,d.fn.kp,b⟩
theorem ZK.dx(d:ZK K x st f fd)(X:K.In h)(G:h.Ns qy mg)(ok:Zu P w K mg base (W6 P w) k f fd ps sp)(b:Vm K fd ps []):Qg P w K mg base x ps k sp:=⟨f,fd,ok,Ra X G d.ns,d.fn.kp,b⟩
theorem ZK.dt{a:(Hp->VK->XK->Prop)->Hp->VK->Prop}(d:ZK K x st f fd)(X:K.In h)(G:h.Ns qy mg)(ok:Wq P w K mg base k j f fd p a)(b:Vm K fd [p] []):yP P w K mg base x p k j a:=⟨f,fd,ok,Ra X G d.ns,d.fn.kp,b⟩
theorem ZK.code(d:ZK K x st f fd)(X:K.In h)(G:h.Ns qy mg)(i:tabIn K x=some (c,T)):fd.code=.ref c:=by
 obtain⟨l,m,kV,e,o,p,j,n,b,rfl,a,g⟩:=d.fn.ex;exact PySem.W.law_code X G i (Ra X G d.ns) (X _ _ a) rfl
structure Tp(K:qC)(x:Str)(f:Addr):Prop where
 ns:UW K qy x=some (some (.ref f))
 cl:isClsIn K f=true
 ty:typeIn K (.ref f)=some (.type "type")
theorem Np(a:UW K qy x=some (some (.ref f)))(b:isClsIn K f=true)(c:typeIn K (.ref f)=some (.type "type")):Tp K x f:=⟨a,b,c⟩
structure wW(K:qC)(y fI:Addr):Prop where
 mx:Td K y fI
 cl:findIn K (.ref y) "__class__"=some (some (.builtin "object.__class__"))
 be:subIn K (.ref y) (.type "BaseException")=some true
 ve:subIn K (.ref y) (.type "ValueError")=some true
 se:subIn K (.ref y) (.ref y)=some true
theorem Ni(xi:findIn K (.ref y) "__init__"=some (some (.ref c)))(m:isFn K (.ref c)=true)(b:K.lookup y=some ⟨.type "type",s,.cls i,o⟩)(d:pT y i o=true)(l:RJ K (.ref y)=true)
  (g:findIn K (.ref y) "__setattr__"=some (some (.builtin "object.__setattr__")))(a:findIn K (.ref y) "at"=some none)(n:findIn K (.ref y) "__getattribute__"=some (some (.builtin "BaseException.__getattribute__")))(j:findIn K (.ref y) "__getattr__"=some none)
  (e:findIn K (.ref y) "__class__"=some (some (.builtin "object.__class__")))(r:subIn K (.ref y) (.type "BaseException")=some true)(q:subIn K (.ref y) (.type "ValueError")=some true)(p:subIn K (.ref y) (.ref y)=some true):wW K y c:=
 ⟨⟨(Jb b d).1,(Jb b d).2,xi,m,l,g,a,n,j⟩,e,r,q,p⟩
theorem PV{a:Str}{m:Value}{n j:Option Addr}{e:Array (Option Value)}{kV d i b g:Value}(l:K.lookup f=some ⟨m,n,.func (Ur x a (Sn st) (Vi st) (YU st) .none kV d i j b g),e⟩)
  (c:EI K b a=true) (k:RJ K (.ref f)=true):Yw K x a st f (Ur x a (Sn st) (Vi st) (YU st) .none kV d i j b g):=DW l c k
def RV:SF:=λ_=>none
def Ee:TS:=λ_ _ _=>False
theorem DV:Bx (W2 X b Ee):=⟨λ_ _ _ _ _ _ h=>h.elim⟩
theorem QB:SS Ee RV:=by intro c b a σ H D h o e;cases e
universe u9
theorem xi{p q:α->Prop}(a:p t)(b:q t):∃t,p t/\q t:=⟨t,a,b⟩
theorem XB{N Q:List Str}{e:Scope}(h:N.Nodup/\(∀x∈Q,e.names.lookup x=some .local\/e.names.lookup x=some .cell)/\∀y∈e.names,y.2≠.free:=by decide +kernel)(a:e.kind=.function:=by rfl)(b:e.isCoroutine=false:=by rfl)(c:e.isGenerator=false:=by rfl)(d:N.take Q.length=Q:=by rfl):ZW N Q e:=⟨a,b,c,h.1,d,h.2.1,h.2.2⟩
theorem Zq{X:Cx}{a:Pos}(c:X.N.Nodup)(m:Bx (PE X e d))(l:X.N[i]?=some y:=by rfl)(n:QN X.env.scope y:=by exact Or.inl rfl)(g:swapsWith e (some (.Name y b)) a.line X.env=pure false:=by rfl)(j:X.fn y=true\/X.env.scope.names.lookup y=some .local:=by exact .inl rfl):Bx (PS X (.Assign [.Name y b] e a) (Xy d (Y6 i))):=XS c l n m g j
theorem ZA{X:Cx}(a:X.N.Nodup)(d:X.N[i]?=some y:=by rfl)(e:QN X.env.scope y:=by exact Or.inl rfl)(c:X.fn y=true\/X.env.scope.names.lookup y=some .local:=by first|exact .inl rfl|exact .inr rfl|assumption):Bx (PG X (.Name y b) (Y6 i)):=Wn a d e c
end
class ICE (t:TE) (f:EF):Prop where
 h:SE t f
class ICA (t:TA) (f:AF):Prop where
 h:SA t f
class ICT (t:TT) (f:TF):Prop where
 h:ST t f
class ICI (t:TI) (f:Vs):Prop where
 h:SI t f
class ICO (t:R2) (f:OF):Prop where
 h:SO t f
class ICC (t:List V->Hp->VK->Prop) (f:GF):Prop where
 h:SC t f
class ICP (t:TO) (f:LR):Prop where
 h:Hn t f
section
variable{i j n:Nat}{K:qC}{t u:TE}{f g:EF}{ta:TA}{fa:AF}{tt tu:TT}{ft fu:TF}{r:R2}{o:OF}{c:List V->Hp->VK->Prop}{gc:GF}{tp tq:TO}{p q:LR}{x:Int}{b:Bool}{s:Str}
theorem YS[a:ICE t f]:SE t f:=a.h
theorem TQ[a:ICA ta fa]:SA ta fa:=a.h
theorem Vk[a:ICT tt ft]:ST tt ft:=a.h
theorem W0[a:ICI w k]:SI w k:=a.h
instance:ICE (YR i) (Z9 i):=⟨Vb i⟩
instance:ICE (tC (.int x)) (eC (.int x)):=⟨WV λ_=>VX⟩
instance:ICE (tC (.bl b)) (eC (.bool b)):=⟨WV λ_=>TB⟩
instance:ICE (tC (.str s)) (eC (.str s)):=⟨WV λ_=>Na⟩
instance:ICE (tC .non) (eC .none):=⟨WV λ_=>CZ⟩
instance [a:ICO r o] [d:ICE t f] [e:ICE u g]:ICE (Ul r t u) (Z2 o f g):=⟨UP a.h d.h e.h⟩
instance [a:ICC c gc] [d:ICA ta fa]:ICE (QV c ta) (Zy gc fa):=⟨MP a.h d.h⟩
instance [d:ICA ta fa]:ICE (X7 (YM n gc) [] E0 ta) (ZG n gc fa):=⟨Ot d.h⟩
instance [d:ICE t f]:ICE (Ul (T3 K) (YR i) t) (ZZ i f):=⟨Ld d.h⟩
instance [d:ICA ta fa]:ICE (SY ta) (ZE fa):=⟨IS d.h⟩
instance [d:ICA ta fa]:ICE (OV ta) (Y3 fa):=⟨Nu d.h⟩
instance [a:ICE t f] [d:ICP tp p] [e:ICP tq q]:ICE (DJ (OL K) t tp tq) (Ys f p q):=⟨Ar a.h d.h e.h⟩
instance [d:ICE t f]:ICP (Tj t) (YC f):=⟨oA d.h⟩
instance:ICP Ww XC:=⟨AV⟩
instance [d:ICE t f]:ICE (VN (YR i) t) (X8 i f):=⟨yA d.h⟩
instance [d:ICE t f]:ICE (DF (rU λi=>V.int (-i)) t) (Vr f):=⟨xK d.h⟩
instance [d:ICE t f] [e:ICE u g]:ICE (PR t u) (Vv false f g):=⟨t9 d.h e.h⟩
instance:ICE Vp Sj:=⟨pk⟩
instance [d:ICE t f] [e:ICE u g]:ICE (Tr t u) (WK f g):=⟨uM d.h e.h⟩
instance [d:ICE t f] [e:ICA ta fa]:ICA (YW t ta) (Z7 f fa):=⟨U4 d.h e.h⟩
instance:ICA XI Z8:=⟨Tf⟩
instance [d:ICE t f]:ICT (UN t) (Zk f):=⟨Ri d.h⟩
instance [d:ICT tt ft] [e:ICT tu fu]:ICT (Pe tt tu) (UZ ft fu):=⟨Pc d.h e.h⟩
instance:ICT Qo Yk:=⟨Ln⟩
instance [d:ICE t f]:ICI (Rt K t) (Zl f):=⟨Jh d.h⟩
instance [d:ICA ta fa]:ICI (S9 ta) (Vf fa):=⟨Ew d.h⟩
instance [d:ICA ta fa]:ICI (WM K ta) (Kn fa):=⟨GM d.h⟩
instance [d:ICA ta fa]:ICI (WM K ta) (Lm fa):=⟨om d.h⟩
instance [d:ICA ta fa]:ICI (P7 K ta) (TV fa):=⟨vD d.h⟩
instance:ICO (rI (λx j=>0<j) λi j=>V.int (i % j)) ZR:=⟨Fx⟩
instance:ICO (rI MR λi j=>V.int (i / j)) Yn:=⟨xI⟩
instance:ICO (Po K) Zr:=⟨GE⟩
instance:ICO (λx y H Q=>CJ x y H Q\/UC K false x y H Q) XT:=⟨NX⟩
instance:ICO (λx y H Q=>CD x y H Q\/UC K true x y H Q) X4:=⟨EY⟩
instance:ICO (Kf K b) (X3 b):=⟨zR⟩
instance:ICO (SR λi j=>V.int (i - j)) YL:=⟨vt⟩
instance:ICO NC Ya:=⟨ye⟩
instance:ICO (SR λi j=>V.bl (decide (j<i))) Vj:=⟨w9⟩
instance:ICO (T3 K) Xb:=⟨E2⟩
instance:ICC (λxs H Q=>∃x n,xs=[x]/\Qe K x H n/\Q (V.int n) H) Zp:=⟨xu⟩
instance:ICC (λxs H Q=>∃p ys,xs=[V.ref p]/\((YK K H p ys/\∀l:Addr,H l=none->Q (V.ref l) (upd H l (HO.tup ys)))\/Yh K H p ys/\Q (V.ref p) H)) Xw:=⟨t7⟩
instance:ICC (λxs H Q=>∃p ys,xs=[V.ref p]/\(YK K H p ys\/Yh K H p ys)/\∀l:Addr,H l=none->Q (V.ref l) (upd H l (HO.lst ys))) UO:=⟨vd⟩
instance {k:List Bool->Bool}:ICC (Sw K k) (XJ k):=⟨Aa⟩
class ICG (t:TG) (f:GT):Prop where
 h:SG t f
class ICS (t:TS) (f:SF):Prop where
 h:SS t f
variable{tg:TG}{fg:GT}{th:O3}{fh:N7}{ts tv:TS}{fs fv:SF}{wi:TI}{fi:Vs}
theorem Y9[a:ICS ts fs]:SS ts fs:=a.h
instance:ICG (Y6 i) (gN i):=⟨Wj⟩
instance {x:Str} {fr:List Nat} [a:ICI wi fi] [d:ICT tt ft] [e:ICE t f]:ICE (Xf wi (Y6 0) tt t [x] fr) (YB [x] fr fi (gN 0) ft f):=⟨Pj a.h Wj (Oj (show 0<1 by decide)) d.h e.h⟩
instance {x y:Str} {fr:List Nat} [a:ICI wi fi] [d:ICT tt ft] [e:ICE t f]:ICE (Xf wi (T4 K 2 (W3 (Y6 0) (W3 (Y6 1) SW))) tt t [x,y] fr) (YB [x,y] fr fi (gT 2 (Zw 0 (Zw 1 YE))) ft f):=⟨Pj a.h (S1 (W7 (W7 S7))) (ym (D9 (show 0<2 by decide) (D9 (show 1<2 by decide) pF))) d.h e.h⟩
instance [a:ICS ts fs] [d:ICS tv fv]:ICS (WE ts tv) (Z0 fs fv):=⟨Y4 a.h d.h⟩
instance:ICS U2 Zj:=⟨V1⟩
instance [a:ICE t f]:ICS (Xy t (Y6 i)) (Z1 i f):=⟨T8 a.h⟩
instance {x:Str} {fr:List Nat} [a:ICI wi fi] [d:ICT tt ft] [e:ICE t f]:ICS (Vo wi (Y6 0) tt t [x] fr i) (Z1 i (YB [x] fr fi (gN 0) ft f)):=⟨T8 (te:=Xf wi (Y6 0) tt t [x] fr) YS⟩
instance {x y:Str} {fr:List Nat} [a:ICI wi fi] [d:ICT tt ft] [e:ICE t f]:ICS (Vo wi (T4 K 2 (W3 (Y6 0) (W3 (Y6 1) SW))) tt t [x,y] fr i) (Z1 i (YB [x,y] fr fi (gT 2 (Zw 0 (Zw 1 YE))) ft f)):=⟨T8 (te:=Xf wi (T4 K 2 (W3 (Y6 0) (W3 (Y6 1) SW))) tt t [x,y] fr) YS⟩
instance [a:ICE t f]:ICS (WR t) (Ze f):=⟨R3 a.h⟩
instance [a:ICE t f]:ICS (XO (QD K "list" KI (YR i) (YW t XI))) (Zc i f):=⟨HA a.h⟩
instance [a:ICT tt ft] [d:ICS ts fs] [e:ICS tv fv]:ICS (Uo tt ts tv) (YA ft fs fv):=⟨Vz a.h d.h e.h⟩
instance [a:ICI wi fi] [d:ICG tg fg] [e:ICS ts fs]:ICS (RI wi tg ts) (Y2 fi fg fs):=⟨VY a.h d.h e.h⟩
end
open PySem
def Qw(n:Nat)(k:GF)(g:Tw)(f:AF):Wc:=λa=>(f a).bind λb=>if b.length=n then(g (XX b)).bind λr=>match r with
 | .ok d _=>(k [d]).map λz=>.ok (.rt z.1 z.2)
 | .rx c d=>some (.rx c d)else none
theorem Bu{x:Str->Addr}(B:SA O f):To x (λE=>WR (X7 (YM 1 k) [] E0 (YW (X7 (VS x n g) [] E O) XI))) (Qw n k g f):=by
 intro p X j σ H D E h o e q;obtain⟨m,J,e⟩:=qA.mp e;split at e
 ·rename_i C;obtain⟨r,I,e⟩:=qA.mp e;refine B p X j σ H h m J _ λvs Y l P=>?_;rw[q9];refine⟨lim p j σ (Yj m),XX m,r,by rw[Q9];exact C,(h.up l).lims _,S5 (λi L=>L) P,I,?_⟩
  cases r with
  | rx c d=>cases e;exact λk U A r=>q k U A (r.base (h.base.trans l))
  | ok d fr=>
   obtain⟨⟨N,s⟩,R,e⟩:=qG.mp e;cases e;intro w A v W;refine⟨lim p j σ (Yj m),[d],N,s,rfl,(h.up (l.trans v)).lims _,UF W.1 VP,R,λT F S t=>?_⟩;obtain⟨rp,u⟩:=t;refine q T F (((h.base.trans l).trans v).trans S) ⟨Rp.same (Z6.sub λb z=>.inl z) _ rp,λe=>?_⟩;obtain⟨a,M,G,Q⟩:=u e;exact⟨a,M,((h.base.trans l).trans v).free G,Q.same (Z6.sub λb y=>y.imp .inl id) λo z=>z⟩
 ·cases e
end L2
namespace Bc
open PySem L2
def Es:SF:=(Ze (YB ["name","elders"] [] (Zl (Z9 0)) (gT 2 (Zw 0 (Zw 1 YE))) Yk (Z9 0)))
def JO:GF:=XQ 1 Es
def F4:SF:=(Z0 (Z1 2 (ZG 1 JO (Z7 (Z9 0) Z8)))
  (Y2 (Zl (Z9 1)) (gN 3)
  (YA (Zk (Z2 (X3 true) (Z9 3) (Z9 2))) KR Zj)))
def FD:GF:=XQ 4 F4
def jY:SF:=(Z0 (Z1 1 Sj)
  (Z0 (Y2 (Zl (Z9 0)) (gT 2 (Zw 2 (Zw 3 YE)))
  (Z0 (Z1 4 (Ko (Z9 2) (eC (.bool true))))
  (Z0 (Y2 (Zl (Z9 3)) (gN 5)
  (V3 4 (X8 1 (Z9 5))))
  (Xz 1 (Z9 2) (Z9 4)))))
  (Th 1)))
def R7:GF:=XQ 6 jY
def H9:SF:=(Z0 (Z1 2 (Y3 Z8))
  (Z0 (Y2 (Lm (Z7 (Z9 1) Z8)) (gT 2 (Zw 3 (Zw 4 YE)))
  (Z0 (Z1 5 (Ys (Z9 1) XC (YC (Z9 3))))
  (Z0 (Z1 6 (Z2 Yn (ZZ 0 (Z9 3)) (eC (.int 5))))
  (Z0 (Z1 7 (Y3 Z8))
  (Z0 (Y2 (Vf (Z7 (Zy TN (Z7 (Z2 ZR (ZZ 0 (Z9 3)) (eC (.int 5))) (Z7 (Z9 3) Z8))) Z8)) (gN 8)
  (Z0 (Z1 9 (Z2 ZR (Z9 6) (Zy Zp (Z7 (Z9 5) Z8))))
  (Z0 (Z1 6 (Z2 Yn (Z9 6) (Zy Zp (Z7 (Z9 5) Z8))))
  (Mt 7 5 (Z9 9)))))
  (Zc 2 (ZE (Z7 (Z9 4) (Z7 (Z9 7) Z8)))))))))
  (Th 2)))
def Kc:GF:=XQ 10 H9
def JU:SF:=(Z0 (Z1 1 Sj)
  (Z0 (Y2 (Zl (Z9 0)) (gT 2 (Zw 2 (Zw 3 YE)))
  (Z0 (Z1 4 (Y3 (Z7 (Z9 2) Z8)))
  (Z0 (Y2 (Zl (Z9 3)) (gN 5)
  (Y2 (Zl (X8 1 (Z9 5))) (gN 6)
  (YA (Zk (Z2 (X3 true) (Z9 6) (Z9 4))) (Zc 4 (Z9 6)) Zj)))
  (Xz 1 (Z9 2) (Z9 4)))))
  (Th 1)))
def Ku:GF:=XQ 7 JU
theorem zcj{enc out:α->PyData}(p:α->Bool):∀{l:List α},(∀x∈l,∃a,g (enc x) env=some a/\t a=some (p x)/\(p x=true->∃r,e a=some r/\r.d=out x))->
  X5 g t e env (l.map enc)=some ((l.filter p).map out)
 | [],_=>rfl
 | x::l,h=>by
  obtain⟨a,i,k,f⟩:=h x qX;have b:=zcj (l:=l) p λy m=>h y (qI _ m);rw[qL];unfold X5;rw[i,qB,k,qB]
  cases hp:p x with
  | false=>
   rw[if_neg qQ,b,Pu,hp];rfl
  | true=>
   obtain⟨r,c,j⟩:=f hp;rw[if_pos rfl,c,qB,b,Pu,hp];simp[j]
theorem zdj{enc out:α->PyData}{l:List α}(h:∀x∈l,∃a,g (enc x) env=some a/\t a=some true/\∃r,e a=some r/\r.d=out x):X5 g t e env (l.map enc)=some (l.map out):=by
 have q:=zcj (enc:=enc) (out:=out) (g:=g) (t:=t) (e:=e) (env:=env) (λ_=>true) (l:=l) λx b=>let⟨a,h1,h2,h3⟩:=h x b;⟨a,h1,h2,λ_=>h3⟩;rw[q];congr 2;exact Fe.mpr λ_ _=>rfl
theorem JF{h:α->PyData}(I:List α->ZY->Prop)(all:List α):∀(l a:List α)(b:ZY),a++l=all->I a b->
  (∀a x f b,a++x::f=all->I a b->∃i e,g (h x) b=some i/\(d i=some (.nx e)\/d i=some (.ct e))/\I (a++[x]) e)->∃c,YH g d (l.map h) b=some (.nx c)/\I all c
 | [],a,b,hall,h0,hs=>by
  rw[q9]at hall;subst hall;exact⟨b,rfl,h0⟩
 | x::l,a,b,hall,h0,hs=>by
  obtain⟨i,e,n,j,m⟩:=hs a x l b hall h0;obtain⟨c,k,o⟩:=JF I all l (a++[x]) e (by rw[<- hall];simp) m hs;refine⟨c,?_,o⟩;rw[qL];unfold YH;rw[n,qB];rcases j with j|j<;>rw[j,qB]<;>exact k
theorem Uv{enc:α->PyData}{l:List α}(I:List α->ZY->Prop)(e:I [] env)(d:∀b x post env,b++x::post=l->I b env->∃e1 c,g (enc x) env=some e1/\(body e1=some (.nx c)\/body e1=some (.ct c))/\I (b++[x]) c) :
  ∃a,YH g body (l.map enc) env=some (.nx a)/\I l a:=JF I l l [] env rfl e d
theorem Hq{enc:α->PyData}(p:α->Bool)(d:PyData)(fr:Bool)(I:ZY->Prop):∀(l:List α)(env:ZY),I env->
  (∀x∈l,∀env,I env->∃c,g (enc x) env=some c/\(p x=true->∃b,body c=some (.nx b)/\I b)/\(p x=false->body c=some (.rt d fr)))->
  (l.all p=true->∃a,YH g body (l.map enc) env=some (.nx a)/\I a)/\(l.all p=false->YH g body (l.map enc) env=some (.rt d fr))
 | [],env,h0,hs=>⟨λ_=>⟨env,rfl,h0⟩,λh=>by simp at h⟩
 | x::l,env,h0,hs=>by
  obtain⟨c,i,k,f⟩:=hs x qX env h0;rw[qL,SH];unfold YH;rw[i,qB]
  cases hp:p x with
  | false=>
   rw[f hp,qB];exact⟨λh=>by simp at h,λ_=>rfl⟩
  | true=>
   obtain⟨b,e,j⟩:=k hp;rw[e,qB];exact Hq p d fr I l b j λy m=>hs y (qI _ m)
def Yi(cs:List Int):PyData:=.list (cs.map .int)
theorem Gj:∀(a:List Int),ZH H (a.map .int) (a.map .int)
 | []=>VP
 | c::a=>UF VX (Gj a)
def UR(n:Nat)(cs:List Int):ZY:=.no::.pl (Yi cs)::List.replicate n .no
theorem so{c:List Int}(e:f pc=some (.lst (c.map .int))):EnvOk (λ_=>False) f (UR n c) (some (.ref a)::some (.ref pc)::List.replicate n none) f:=by
 have no:∀(i:Nat)(d:PyData),(UR n c)[i]?≠some (Sl.ac d):=λi d=>by
  unfold UR
  cases i with
  | zero=>simp
  | succ i=>cases i with
   | zero=>simp
   | succ i=>simp[Gx]
 refine⟨by unfold UR;simp,λi d h=>?_,λi d h=>absurd h (no i d),λi j d e a h=>absurd h (no i d),Z3.refl _,λb z=>z.elim⟩;unfold UR at h
 cases i with
 | zero=>simp at h
 | succ i=>cases i with
  | zero=>
   simp at h;subst h;refine⟨.ref pc,rfl,zhv ?_ (Gj c)⟩;rw[Z6.get]
   ·exact e
   ·rintro(z|⟨j,g,z,_⟩)
    ·exact z
    ·exact no j g z
  | succ i=>simp[Gx]at h
theorem Zh(h:f env=some (.nx e1))(k:g e1=o):Z0 f g env=o:=by unfold Z0;rw[h];exact k
theorem GV(h:f env=some (.rt d fr)):Z0 f g env=some (.rt d fr):=by unfold Z0;rw[h];rfl
theorem for_list(h:f env=some ⟨.list a,fr,bs⟩)(k:YH g b a (frzs env bs)=o):Y2 (Zl f) g b env=o:=by
 unfold Y2 Zl;rw[h];exact k
theorem U5(h:f env=some (ds,bs))(k:YH g b ds (frzs env bs)=o):Y2 f g b env=o:=by
 unfold Y2;rw[h];exact k
theorem WO(h:c env=some true)(k:f env=o):YA c f g env=o:=by unfold YA;rw[h];exact k
theorem if_f(h:c env=some false)(k:g env=o):YA c f g env=o:=by unfold YA;rw[h];exact k
theorem zbe(h:f env=some r):Z1 i f env=some (.nx (Vq env i r)):=by unfold Z1;rw[h];rfl
theorem JC(h:f env=some r):Sm f env=some (.nx env):=by unfold Sm;rw[h];rfl
theorem Uy(h:f env=some ⟨d,fr,bs⟩):Ze f env=some (.rt d fr):=by unfold Ze;rw[h];rfl
theorem Yp{rs:List Yo}(h:f env=some rs)(a:rs.length=n)(k:g (XX rs)=some (d,fr)):ZG n g f env=some ⟨d,fr,ZM d (Yj rs)⟩:=by
 unfold ZG;rw[h,qB,if_pos a,k];rfl
theorem VU{own:List Str}{fr:List Nat}{fi:Vs}{g:GT}{t:TF}{e:EF}{env:ZY}{ds:List PyData}{bs:List Nat}{rs:List PyData}(h:fi env=some (ds,bs))(a:ds.length<100000)(k:X5 g t e (YN own fr env) ds=some rs) :
  YB own fr fi g t e env=some ⟨.list rs,true,if WS rs=true then[]else bs++Yb fr env⟩:=by
 unfold YB;rw[h,qB,if_pos a,k];rfl
theorem zgd(h:Si n ds=env)(e:f env=some (.rt d fr)):XQ n f ds=some (d,fr):=by
 unfold XQ;rw[h,e]
theorem oK(h:Si n b=env)(e:f env=some (.nx a)):XQ n f b=some (.none,false):=by
 unfold XQ;rw[h,e]
theorem Jp(n:Int):X4 (.int n) (.int n)=some (.bool false,false):=by
 have e:Xn (.int n) (.int n)=true:=by unfold Xn;exact beq_self_eq_true n
 show some (PyData.bool (!PyData.eqv (.int n) (.int n)),false)=_;rw[e];rfl
def Z4(xs:List Str):PyData:=.list (xs.map .str)
def XH(p:Str×List Str):PyData:=.tuple [.str p.1,Z4 p.2]
def ZT(W:YD):PyData:=.list (W.map XH)
theorem Cy(a:List Str):WS (a.map .str)=true:=by
 unfold WS;rw[List.all_map];exact Ug.mpr λ_ _=>rfl
theorem Ii(a:List Str)(x:Str):((a.map PyData.str).any λe=>Xn e (.str x))=decide (x∈a):=by
 rw[KY,TH,RF,decide_eq_true_iff];constructor
 ·rintro⟨y,b,h⟩;have:y=x:=by simpa [Xn]using h
  rw[<- this];exact b
 ·exact λh=>⟨x,h,by simp[Xn]⟩
theorem IC(b:Bool)(a:List Str)(x:Str):X3 b (.str x) (Z4 a)=some (.bool (if b then !decide (x∈a)else decide (x∈a)),false):=by
 unfold X3 Z4;simp only[Vg];rw[if_pos ⟨rfl,Cy a⟩,Ii]
theorem jg{W:YD}(a:W.length<100000):JO [ZT W]=some (Z4 (nm W),true):=by
 have c:X5 (gT 2 (Zw 0 (Zw 1 YE))) Yk (Z9 0) [.no,.no] (W.map XH)=some (W.map λp=>PyData.str p.1):=zdj λp _=>⟨[.pl (.str p.1),.pl (Z4 p.2)],rfl,rfl,⟨.str p.1,false,[]⟩,rfl,rfl⟩
 have e:Es [.pl (ZT W)]=some (.rt (Z4 (nm W)) true):=by
  unfold Es Ze YB Zl;simp only[Z9,QW,qB,ZT,Vg,Ru,qD];rw[if_pos a];show Option.map _ (Option.map _ (X5 _ _ _ [.no,.no] _))=_;rw[c];unfold Z4 nm;simp
 show(match Es [.pl (ZT W)]with|some (.rt d fr)=>some (d,fr)|some (.nx _)=>some (.none,false)|_=>none)=_;rw[e]
theorem Ak{W:YD}(j:W.length<100000)(h:∀n∈b,n∈nm W):FD [ZT W,Z4 b]=some (.none,false):=by
 have l:∃a,YH (gN 3) (YA (Zk (Z2 (X3 true) (Z9 3) (Z9 2))) KR Zj) (b.map .str) [.pl (ZT W),.pl (Z4 b),.ac (Z4 (nm W)),.no]=some (.nx a)/\True:=by
  refine Uv (λ_ c=>∃s,c=[.pl (ZT W),.pl (Z4 b),.ac (Z4 (nm W)),s]) ⟨_,rfl⟩ ?_ |>.imp λ_ q=>⟨q.1,trivial⟩;rintro i x f c k ⟨s,rfl⟩;have g:=h x (by rw[<- k];simp);refine⟨_,[.pl (ZT W),.pl (Z4 b),.ac (Z4 (nm W)),.pl (.str x)],rfl,.inl ?_,_,rfl⟩;simp[YA,Zk,Z2,Z9,Zj,IC,g,ZM,XF]
 obtain⟨a,l,_⟩:=l
 have e:F4 [.pl (ZT W),.pl (Z4 b),.no,.no]=some (.nx a):=by
  unfold F4 Z0 Z1 ZG Y2 Zl;simp only[Z7,Z8,Z9,QW,Rg,qB,Ru,XX,qL,Oa,qu,N8,jg j,if_true];simp[Vq,frzs,ZM,Z4,XF,Yj,OJ,Vg];exact l
 show(match F4 [.pl (ZT W),.pl (Z4 b),.no,.no]with|some (.rt d fr)=>some (d,fr)|some (.nx _)=>some (.none,false)|_=>none)=_;rw[e]
def Zb(ks:List Str)(k:Str):List Str:=if k∈ks then ks else ks++[k]
def X6(acc:List (Str×List Str))(e:Str):List Str:=(acc.lookup e).getD []
def OD(acc:List (Str×List Str))(p:Str×List Str):List (Str×List Str):=acc++[(p.1,p.2.foldl (λks e=>(X6 acc e).foldl Zb ks) [p.1])]
def ZX(W:YD):List (Str×List Str):=W.foldl OD []
def up(W:YD)(n:Str):List Str:=X6 (ZX W) n
theorem Nl(W:YD)(p:Str×List Str):ZX (W++[p])=OD (ZX W) p:=by unfold ZX;rw[Je];rfl
theorem nX:x∈Zb a k↔x∈a\/x=k:=by
 unfold Zb;split
 ·rename_i h;exact⟨.inl,λz=>z.elim id λe=>e▸h⟩
 ·simp
theorem Dq:∀{b a:List Str},x∈b.foldl Zb a↔x∈a\/x∈b
 | [],a=>by simp
 | m::b,a=>by
  rw[Lg,Dq,nX];simp[or_assoc]
theorem pK{a:List Str}(h:a.Nodup):(Zb a k).Nodup:=by
 unfold Zb;split
 ·exact h
 ·rename_i b;exact M7 h b
theorem Nz:∀{ms a:List Str},a.Nodup->(ms.foldl Zb a).Nodup
 | [],_,h=>h
 | _::ms,_,h=>Nz (ms:=ms) (pK h)
theorem ER:∀{es ks:List Str},x∈es.foldl (λks e=>(X6 acc e).foldl Zb ks) ks↔x∈ks\/∃e∈es,x∈X6 acc e
 | [],ks=>by simp
 | e::es,ks=>by
  rw[Lg,ER,Dq];simp[or_assoc]
theorem PY:∀{es ks:List Str},ks.Nodup->(es.foldl (λks e=>(X6 acc e).foldl Zb ks) ks).Nodup
 | [],_,h=>h
 | _::es,_,h=>PY (es:=es) (Nz h)
theorem DD{l:List (Str×List Str)}{p:Str×List Str}:(l++[p]).lookup n=(l.lookup n).or (if n==p.1 then some p.2 else none):=by
 induction l with
 | nil=>
  obtain⟨a,b⟩:=p;show List.lookup n [(a,b)]=_;rw[U9];cases n==a<;>rfl
 | cons q l c=>
  obtain⟨a,b⟩:=q;rw[B9,U9,U9]
  cases n==a with
  | true=>rfl
  | false=>exact c
theorem KM{P:List α->Prop}(c:P [])(b:∀l x,P l->P (l++[x])):∀l,P l:=by
 intro l
 have:∀n (l:List α),l.length=n->P l:=by
  intro n
  induction n with
  | zero=>intro l e;rw[OY.mp e];exact c
  | succ n d=>
   intro l e;have a:l≠[]:=λz=>by rw[z]at e;cases e
   rw[<- List.dropLast_concat_getLast a];exact b _ _ (d _ (by rw[lX,e];rfl))
 exact this _ l rfl
theorem QR:∀(W:YD),(ZX W).map (·.1)=nm W:=by
 refine KM rfl λW p a=>?_;rw[Nl];unfold OD nm;rw[qx,qx,a];rfl
theorem NO(W:YD)(p:Str×List Str):nm (W++[p])=nm W++[p.1]:=by unfold nm;rw[qx];rfl
theorem Ml{p:Str×List Str}(h:ZV (W++[p])):ZV W/\p.1∉nm W/\(∀e∈p.2,e∈nm W)/\p.2.length<=4:=by
 have b:(W++[p])[W.length]?=some p:=by simp
 refine⟨⟨?_,λi n g e=>?_,λq f=>h.few q (Uw _ f),?_⟩,?_,λe d=>?_,h.few p (by simp)⟩
 ·have:=h.nd;rw[NO]at this;exact(R0.mp this).1
 ·have c:i<W.length:=(qK.mp e).1;have q:=h.el i n g (by rw[qc c];exact e);rw[Gp (by omega)]at q;exact q
 ·have:=h.len;simp at this;omega
 ·have:=h.nd;rw[NO]at this;intro a;exact(R0.mp this).2.2 p.1 a p.1 (by simp) rfl
 ·have q:=h.el W.length p.1 p.2 b e d;rw[Gp (qM _),oQ]at q;exact q
theorem Lj{l:List (Str×List Str)}(h:n∈l.map (·.1)):∃ks,l.lookup n=some ks/\(n,ks)∈l:=by
 induction l with
 | nil=>simp at h
 | cons q l d=>
  obtain⟨a,b⟩:=q;rw[U9]
  cases e:n==a with
  | true=>rw[eq_of_beq e];exact⟨b,rfl,qX⟩
  | false=>
   have g:n≠a:=beq_eq_false_iff_ne.mp e;rcases qN.mp h with z|z
   ·exact absurd z g
   ·obtain⟨ks,f,c⟩:=d z;exact⟨ks,f,qI _ c⟩
theorem K6(h:m∈nm W):up (W++[p]) m=up W m:=by
 unfold up X6;rw[Nl];unfold OD;obtain⟨a,e,_⟩:=Lj (l:=ZX W) (n:=m) (by rw[QR];exact h);rw[DD,e];rfl
theorem nj{l:List (Str×List Str)}(h:n∉l.map (·.1)):l.lookup n=none:=by
 induction l with
 | nil=>rfl
 | cons q l d=>
  obtain⟨a,b⟩:=q;rw[U9];have c:n≠a:=λz=>h (by simp[z]);rw[beq_eq_false_iff_ne.mpr c];exact d λz=>h (qI _ z)
theorem Gn{p:Str×List Str}(h:p.1∉nm W):up (W++[p]) p.1=p.2.foldl (λa e=>(X6 (ZX W) e).foldl Zb a) [p.1]:=by
 unfold up X6;rw[Nl];unfold OD;rw[DD,nj (by rw[QR];exact h)];simp[X6]
theorem BJ(h:(n,a)∈W):n∈nm W:=qo.mpr ⟨_,h,rfl⟩
theorem MS(h:ZV W)(a:(n,es)∈W):∀e∈es,e∈nm W:=λe c=>by
 obtain⟨i,b,d⟩:=DT a;have q:=h.el i n es (by rw[qH b,d]) e c;obtain⟨p,f,g⟩:=qo.mp q;exact qo.mpr ⟨p,MY f,g⟩
theorem HP:∀{W:YD},ZV W->∀{n:Str}{a:List Str},(n,a)∈W->(x∈up W n↔x=n\/∃e∈a,x∈up W e):=by
 intro W;refine KM (P:=λW=>ZV W->∀{n:Str}{a:List Str},(n,a)∈W->(x∈up W n↔x=n\/∃e∈a,x∈up W e)) (λ_ n a h=>nomatch h) (λW p j h n a d=>?_) W;obtain⟨g,i,f,_⟩:=Ml h;rcases qk.mp d with d|d
 ·rw[K6 (BJ d),j g d]
  have:(∃e∈a,x∈up W e)↔∃e∈a,x∈up (W++[p]) e:=by
   constructor
   ·rintro⟨e,b,c⟩;exact⟨e,b,by rw[K6 (MS g d e b)];exact c⟩
   ·rintro⟨e,b,c⟩;exact⟨e,b,by rw[K6 (MS g d e b)]at c;exact c⟩
  rw[this]
 ·have e:(n,a)=p:=by simpa using d
  subst e;rw[Gn i,ER]
  have:(∃e∈a,x∈X6 (ZX W) e)↔∃e∈a,x∈up (W++[(n,a)]) e:=by
   constructor
   ·rintro⟨e,b,c⟩;exact⟨e,b,by rw[K6 (f e b)];exact c⟩
   ·rintro⟨e,b,c⟩;exact⟨e,b,by rw[K6 (f e b)]at c;exact c⟩
  rw[this];simp
theorem sd(h:ZV W)(c:n∈nm W):n∈up W n:=by
 obtain⟨⟨m,d⟩,b,a⟩:=qo.mp c;cases a;exact(HP h b).mpr (.inl rfl)
theorem Pl:∀{W:YD},ZV W->∀{n x:Str},x∈up W n->x∈nm W:=by
 intro W;refine KM (P:=λW=>ZV W->∀{n x:Str},x∈up W n->x∈nm W) (λ_ n x h=>by simp[up,ZX,X6]at h) (λW p c h n x a=>?_) W;obtain⟨b,d,f,_⟩:=Ml h;rw[NO];by_cases hn:n∈nm W
 ·rw[K6 hn]at a;exact Uw _ (c b a)
 ·by_cases e:n=p.1
  ·rw[e,Gn d,ER]at a;rcases a with a|⟨g,_,a⟩
   ·exact qf _ (by simpa using a)
   ·exact Uw _ (c b a)
  ·unfold up X6 at a;rw[Nl]at a;unfold OD at a;rw[DD,nj (by rw[QR];exact hn),beq_eq_false_iff_ne.mpr e]at a;simp at a
theorem BS:∀{W:YD}{n:Str},(up W n).Nodup:=by
 intro W;refine KM (P:=λW=>∀{n:Str},(up W n).Nodup) (λ{n}=>by simp[up,ZX,X6]) (λW p a n=>?_) W;unfold up X6;rw[Nl];unfold OD;rw[DD]
 cases e:(ZX W).lookup n with
 | some b=>
  have q:=a (n:=n);unfold up X6 at q;rw[e]at q;exact q
 | none=>
  show((if n==p.1 then some _ else none).getD []).Nodup;split
  ·exact PY (by simp)
  ·exact HV
theorem ML(h:ZV W)(n:Str):(up W n).length<=12:=by
 have:=Gw _ (nm W) (BS (W:=W) (n:=n)) λx a=>Pl h a;have:=Nn h;omega
def dS(f:List Str->PyData)(l:List (Str×List Str)):List (PyData×PyData):=l.map λp=>(.str p.1,f p.2)
theorem Os(f:List Str->PyData)(n:Str):∀l:List (Str×List Str),U8 (dS f l) (Sum.inr n)=(l.lookup n).map f
 | []=>rfl
 | (a,b)::l=>by
  have c:=Os f n l;show(if Zd (.str a)=some (Sum.inr n)then some (f b)else U8 (dS f l) (Sum.inr n))=_;rw[U9];by_cases e:a=n
  ·subst e;rw[if_pos (show Zd (.str a)=some (Sum.inr a)from rfl),beq_self_eq_true];rfl
  ·rw[if_neg (show ¬Zd (.str a)=some (Sum.inr n)from λz=>e (JA (qZ z))),beq_eq_false_iff_ne.mpr (Xs e)];exact c
theorem Mr(f:List Str->PyData){l:List (Str×List Str)}(h:n∉l.map (·.1)):Up (dS f l) (.str n) (f ks)=dS f (l++[(n,ks)]):=by
 unfold Up dS;rw[if_neg,qx]
 ·rfl
 ·intro z;rw[KY,RF]at z;obtain⟨p,a,e⟩:=z;have e:=of_decide_eq_true e;exact h (qo.mpr ⟨p,a,JA (qZ e)⟩)
def V9(ks:List Str):List (PyData×PyData):=ks.map λk=>(.str k,.bool true)
def Zi(ks:List Str):PyData:=.dict (V9 ks)
theorem Ft(x:Str):∀a:List Str,Ue (V9 a) (Sum.inr x)=decide (x∈a)
 | []=>by simp[V9,Ue,U8]
 | k::a=>by
  have b:=Ft x a;unfold Ue at b ⊢;show(if Zd (.str k)=some (Sum.inr x)then some (PyData.bool true)else U8 (V9 a) (Sum.inr x)).isSome=_;by_cases e:k=x
  ·subst e;rw[if_pos (show Zd (.str k)=some (Sum.inr k)from rfl)];simp
  ·rw[if_neg (show ¬Zd (.str k)=some (Sum.inr x)from λz=>e (JA (qZ z))),b];have:¬x=k:=λz=>e z.symm;simp[this]
theorem BX(a:List Str)(k:Str):Up (V9 a) (.str k) (.bool true)=V9 (Zb a k):=by
 have d:((V9 a).any λc=>decide (Zd c.1=Zd (.str k)))=decide (k∈a):=by
  unfold V9;rw[KY,TH,RF,decide_eq_true_iff];constructor
  ·rintro⟨y,b,h⟩;have h:=of_decide_eq_true h;have:y=k:=JA (qZ h);rw[<- this];exact b
  ·exact λh=>⟨k,h,decide_eq_true rfl⟩
 unfold Up Zb;rw[d];by_cases hk:k∈a
 ·rw[if_pos (decide_eq_true hk),if_pos hk];unfold V9;rw[TX];refine Pf λy _=>?_;show(if Zd (PyData.str y)=Zd (.str k)then(PyData.str y,PyData.bool true)else(PyData.str y,PyData.bool true))=_;split<;>rfl
 ·rw[if_neg (by simpa using hk),if_neg hk];unfold V9;rw[qx];rfl
theorem xV:∀(a ks:List Str),Q7 (V9 ks) (V9 a)=V9 (a.foldl Zb ks)
 | [],_=>rfl
 | m::a,ks=>by
  show Q7 (Up (V9 ks) (.str m) (.bool true)) (V9 a)=_;rw[BX,xV a];rfl
theorem JR(h:a++x::post=l):l=(a++[x])++post:=by rw[<- h];simp
theorem Gq:∀{post W:YD},ZV (W++post)->ZV W:=by
 intro post;refine KM (P:=λpost=>∀{W:YD},ZV (W++post)->ZV W) (λ{W} h=>by rwa [q9]at h) (λpost p a W h=>?_) post;rw[<- C7]at h;exact a (Ml h).1
theorem DP(h:ZV W):R7 [ZT W]=some (.dict (dS Zi (ZX W)),true):=by
 have s:∀(V:YD)(p:Str×List Str)(u a:List Str)(g:Sl),ZV (V++[p])->a++u=p.2->
   ∃d,YH (gN 5) (V3 4 (X8 1 (Z9 5))) (u.map .str) [.pl (ZT W),.ac (.dict (dS Zi (ZX V))),.pl (.str p.1),.pl (Z4 p.2),.ac (Zi (a.foldl (λc e=>(X6 (ZX V) e).foldl Zb c) [p.1])),g] =
    some (.nx [.pl (ZT W),.ac (.dict (dS Zi (ZX V))),.pl (.str p.1),.pl (Z4 p.2),.ac (Zi (p.2.foldl (λc e=>(X6 (ZX V) e).foldl Zb c) [p.1])),d]):=by
  intro V p u
  induction u with
  | nil=>intro a g _ e;rw[q9]at e;subst e;exact⟨g,rfl⟩
  | cons e u I=>
   intro a g t C;obtain⟨j,F,y,v⟩:=Ml t;have G:e∈nm V:=y e (by rw[<- C];simp);obtain⟨c,E,_⟩:=Lj (l:=ZX V) (n:=e) (by rw[QR];exact G);have B:X6 (ZX V) e=c:=by unfold X6;rw[E];rfl
   have M:c.length<=12:=by rw[<- B];exact ML j e
   have sub:∀x∈a.foldl (λc e=>(X6 (ZX V) e).foldl Zb c) [p.1],x∈nm (V++[p]):=λx H=>by
    rw[NO];rcases ER.mp H with z|⟨N,_,z⟩
    ·exact qf _ (by simpa using z)
    ·exact Uw _ (Pl j z)
   have O:(a.foldl (λc e=>(X6 (ZX V) e).foldl Zb c) [p.1]).length<=12:=by
    have:=Gw _ _ (PY (acc:=ZX V) (es:=a) (ks:=[p.1]) (by simp)) sub;have:=Nn t;omega
   obtain⟨d,q⟩:=I (a++[e]) (.pl (.str e)) t (by rw[<- C];simp);refine⟨d,?_⟩;rw[qL];unfold YH;simp only[gN,qB,Co,D5]
   have b:V3 4 (X8 1 (Z9 5)) [.pl (ZT W),.ac (.dict (dS Zi (ZX V))),.pl (.str p.1),.pl (Z4 p.2),.ac (Zi (a.foldl (λc e=>(X6 (ZX V) e).foldl Zb c) [p.1])),.pl (.str e)] =
     some (.nx [.pl (ZT W),.ac (.dict (dS Zi (ZX V))),.pl (.str p.1),.pl (Z4 p.2),.ac (Zi ((a++[e]).foldl (λc e=>(X6 (ZX V) e).foldl Zb c) [p.1])),.pl (.str e)]):=by
    have D:(V9 (a.foldl (λc e=>(X6 (ZX V) e).foldl Zb c) [p.1])).length+(V9 c).length<=100000:=by unfold V9;rw[qD,qD];omega
    simp only[V3,Zi,X8,Z9,Rg,QW,qB,Zd,Os,E,Ru];rw[if_pos ⟨D,by simp⟩,xV];simp[frzs,Je,B]
   rw[b,qB];exact q
 have o:∃i,YH (gT 2 (Zw 2 (Zw 3 YE))) (Z0 (Z1 4 (Ko (Z9 2) (eC (.bool true)))) (Z0 (Y2 (Zl (Z9 3)) (gN 5) (V3 4 (X8 1 (Z9 5)))) (Xz 1 (Z9 2) (Z9 4)))) (W.map XH) [.pl (ZT W),.ac (.dict []),.no,.no,.no,.no]=some (.nx i)/\
   ∃w A r g,i=[.pl (ZT W),.ac (.dict (dS Zi (ZX W))),w,A,r,g]:=by
  refine Uv (λa m=>∃w A r g,m=[.pl (ZT W),.ac (.dict (dS Zi (ZX a))),w,A,r,g]) ⟨_,_,_,_,rfl⟩ ?_;rintro a p k m C ⟨w,A,r,g,rfl⟩;have t:ZV (a++[p]):=Gq (post:=k) (by rw[<- JR C];exact h);obtain⟨j,F,y,v⟩:=Ml t;obtain⟨d,q⟩:=s a p p.2 [] g t rfl;refine⟨[.pl (ZT W),.ac (.dict (dS Zi (ZX a))),.pl (.str p.1),.pl (Z4 p.2),r,g],[.pl (ZT W),.ac (.dict (dS Zi (ZX (a++[p])))),.pl (.str p.1),.pl (Z4 p.2),.pl (Zi (p.2.foldl (λc e=>(X6 (ZX a) e).foldl Zb c) [p.1])),d],rfl,.inl ?_,_,_,_,_,rfl⟩
  have D:(dS Zi (ZX a)).length<100000:=by
   unfold dS;rw[qD,<- qD (f:=(·.1)),QR];have:=Nn j;omega
  have L:Z1 4 (Ko (Z9 2) (eC (.bool true))) [.pl (ZT W),.ac (.dict (dS Zi (ZX a))),.pl (.str p.1),.pl (Z4 p.2),r,g]=some (.nx [.pl (ZT W),.ac (.dict (dS Zi (ZX a))),.pl (.str p.1),.pl (Z4 p.2),.ac (Zi [p.1]),g]):=by
   simp[Z1,Ko,Z9,eC,Zd,Vq,frzs,OJ,Zi,V9]
  have pt:Xz 1 (Z9 2) (Z9 4) [.pl (ZT W),.ac (.dict (dS Zi (ZX a))),.pl (.str p.1),.pl (Z4 p.2),.ac (Zi (p.2.foldl (λc e=>(X6 (ZX a) e).foldl Zb c) [p.1])),d] =
    some (.nx [.pl (ZT W),.ac (.dict (dS Zi (ZX (a++[p])))),.pl (.str p.1),.pl (Z4 p.2),.pl (Zi (p.2.foldl (λc e=>(X6 (ZX a) e).foldl Zb c) [p.1])),d]):=by
   simp only[Xz,Z9,Rg,QW,qB,Zd];rw[if_pos ⟨D,by simp⟩,Mr Zi (by rw[QR];exact F),Nl];simp[frzs,frz1,OD]
  exact Zh L (Zh (for_list rfl q) pt)
 obtain⟨i,J,w,A,r,g,rfl⟩:=o;exact zgd (env:=[.pl (ZT W),.no,.no,.no,.no,.no]) rfl (Zh rfl (Zh (for_list rfl J) rfl))
theorem EJ{W:YD}:∀(b ks:List Str)(c:Sl),ks.length+b.length<100000->∃a,YH (gN 6) (YA (Zk (Z2 (X3 true) (Z9 6) (Z9 4))) (Zc 4 (Z9 6)) Zj) (b.map .str) [A,B,C,D,.ac (Z4 ks),E,c]=some (.nx [A,B,C,D,.ac (Z4 (b.foldl Zb ks)),E,a])
 | [],ks,c,_=>⟨c,rfl⟩
 | m::b,ks,c,hl=>by
  have step:YA (Zk (Z2 (X3 true) (Z9 6) (Z9 4))) (Zc 4 (Z9 6)) Zj [A,B,C,D,.ac (Z4 ks),E,.pl (.str m)]=some (.nx [A,B,C,D,.ac (Z4 (Zb ks m)),E,.pl (.str m)]):=by
   by_cases hm:m∈ks
   ·refine if_f ?_ ?_
    ·simp[Zk,Z2,Z9,IC,hm]
    ·rw[show Zb ks m=ks from if_pos hm];rfl
   ·refine WO ?_ ?_
    ·simp[Zk,Z2,Z9,IC,hm]
    ·have e:(ks.map PyData.str).length<100000:=by rw[qD];simp at hl;omega
     simp only[Zc,Z4,Z9,Rg,QW,qB];rw[if_pos ⟨e,by simp⟩];simp[frzs,Zb,hm]
  have d:(Zb ks m).length+b.length<100000:=by
   have:(Zb ks m).length<=ks.length+1:=by unfold Zb;split<;>simp
   simp at hl;omega
  obtain⟨a,q⟩:=EJ (W:=W) b (Zb ks m) (.pl (.str m)) d;refine⟨a,?_⟩;rw[qL];unfold YH;simp only[gN,qB,Co,D5];rw[step,qB];exact q
theorem ut(h:ZV W):Ku [ZT W]=some (.dict (dS Z4 (ZX W)),true):=by
 have s:∀(V:YD)(p:Str×List Str)(u a:List Str)(i g:Sl),ZV (V++[p])->a++u=p.2->
   ∃d c,YH (gN 5) (Y2 (Zl (X8 1 (Z9 5))) (gN 6) (YA (Zk (Z2 (X3 true) (Z9 6) (Z9 4))) (Zc 4 (Z9 6)) Zj)) (u.map .str) [.pl (ZT W),.ac (.dict (dS Z4 (ZX V))),.pl (.str p.1),.pl (Z4 p.2),.ac (Z4 (a.foldl (λb e=>(X6 (ZX V) e).foldl Zb b) [p.1])),i,g] =
    some (.nx [.pl (ZT W),.ac (.dict (dS Z4 (ZX V))),.pl (.str p.1),.pl (Z4 p.2),.ac (Z4 (p.2.foldl (λb e=>(X6 (ZX V) e).foldl Zb b) [p.1])),d,c]):=by
  intro V p u
  induction u with
  | nil=>intro a i g _ e;rw[q9]at e;subst e;exact⟨i,g,rfl⟩
  | cons e u Q=>
   intro a i g t J;obtain⟨k,M,F,w⟩:=Ml t;have O:e∈nm V:=F e (by rw[<- J];simp);obtain⟨b,L,_⟩:=Lj (l:=ZX V) (n:=e) (by rw[QR];exact O);have I:X6 (ZX V) e=b:=by unfold X6;rw[L];rfl
   have U:b.length<=12:=by rw[<- I];exact ML k e
   have sub:∀x∈a.foldl (λb e=>(X6 (ZX V) e).foldl Zb b) [p.1],x∈nm (V++[p]):=λx P=>by
    rw[NO];rcases ER.mp P with z|⟨X,_,z⟩
    ·exact qf _ (by simpa using z)
    ·exact Uw _ (Pl k z)
   have Y:(a.foldl (λb e=>(X6 (ZX V) e).foldl Zb b) [p.1]).length<=12:=by
    have:=Gw _ _ (PY (acc:=ZX V) (es:=a) (ks:=[p.1]) (by simp)) sub;have:=Nn t;omega
   obtain⟨c,S⟩:=EJ (W:=W) (A:=.pl (ZT W)) (B:=.ac (.dict (dS Z4 (ZX V)))) (C:=.pl (.str p.1)) (D:=.pl (Z4 p.2)) (E:=.pl (.str e)) b (a.foldl (λb e=>(X6 (ZX V) e).foldl Zb b) [p.1]) g (by omega);obtain⟨d,G,q⟩:=Q (a++[e]) (.pl (.str e)) c t (by rw[<- J];simp);refine⟨d,G,?_⟩;rw[qL];unfold YH;simp only[gN,qB,Co,D5]
   have N:X8 1 (Z9 5) [.pl (ZT W),.ac (.dict (dS Z4 (ZX V))),.pl (.str p.1),.pl (Z4 p.2),.ac (Z4 (a.foldl (λb e=>(X6 (ZX V) e).foldl Zb b) [p.1])),.pl (.str e),g]=some ⟨Z4 b,false,[]⟩:=by
    simp[X8,Z9,Zd,Os,L]
   rw[for_list N S,qB];rw[Je,Lg,List.foldl_nil,I]at q;exact q
 have r:∃j,YH (gT 2 (Zw 2 (Zw 3 YE))) (Z0 (Z1 4 (Y3 (Z7 (Z9 2) Z8))) (Z0 (Y2 (Zl (Z9 3)) (gN 5) (Y2 (Zl (X8 1 (Z9 5))) (gN 6) (YA (Zk (Z2 (X3 true) (Z9 6) (Z9 4))) (Zc 4 (Z9 6)) Zj))) (Xz 1 (Z9 2) (Z9 4)))) (W.map XH) [.pl (ZT W),.ac (.dict []),.no,.no,.no,.no,.no]=some (.nx j)/\
   ∃y H v i g,j=[.pl (ZT W),.ac (.dict (dS Z4 (ZX W))),y,H,v,i,g]:=by
  refine Uv (λa o=>∃y H v i g,o=[.pl (ZT W),.ac (.dict (dS Z4 (ZX a))),y,H,v,i,g]) ⟨_,_,_,_,_,rfl⟩ ?_;rintro a p m o J ⟨y,H,v,i,g,rfl⟩;have t:ZV (a++[p]):=Gq (post:=m) (by rw[<- JR J];exact h);obtain⟨k,M,F,w⟩:=Ml t;obtain⟨d,c,q⟩:=s a p p.2 [] i g t rfl;refine⟨[.pl (ZT W),.ac (.dict (dS Z4 (ZX a))),.pl (.str p.1),.pl (Z4 p.2),v,i,g],[.pl (ZT W),.ac (.dict (dS Z4 (ZX (a++[p])))),.pl (.str p.1),.pl (Z4 p.2),.pl (Z4 (p.2.foldl (λb e=>(X6 (ZX a) e).foldl Zb b) [p.1])),d,c],rfl,.inl ?_,_,_,_,_,_,rfl⟩
  have T:(dS Z4 (ZX a)).length<100000:=by
   unfold dS;rw[qD,<- qD (f:=(·.1)),QR];have:=Nn k;omega
  have pt:Xz 1 (Z9 2) (Z9 4) [.pl (ZT W),.ac (.dict (dS Z4 (ZX a))),.pl (.str p.1),.pl (Z4 p.2),.ac (Z4 (p.2.foldl (λb e=>(X6 (ZX a) e).foldl Zb b) [p.1])),d,c] =
    some (.nx [.pl (ZT W),.ac (.dict (dS Z4 (ZX (a++[p])))),.pl (.str p.1),.pl (Z4 p.2),.pl (Z4 (p.2.foldl (λb e=>(X6 (ZX a) e).foldl Zb b) [p.1])),d,c]):=by
   simp only[Xz,Z9,Rg,QW,qB,Zd];rw[if_pos ⟨T,by simp⟩,Mr Z4 (by rw[QR];exact M),Nl];simp[frzs,frz1,OD]
  exact Zh rfl (Zh (for_list rfl q) pt)
 obtain⟨j,R,y,H,v,i,g,rfl⟩:=r;exact zgd (env:=[.pl (ZT W),.no,.no,.no,.no,.no,.no]) rfl (Zh rfl (Zh (for_list rfl R) rfl))
def ltr(i:Int):Str:=⟨#[97+i.toNat]⟩
def Xv(x:Str):Prop:=∀c∈x.cps.toList,c<128
theorem HI(h:Xv x):qz x=true:=by
 unfold qz;rw[<- Array.all_toList,Ug];intro c a;have:=h c a;exact decide_eq_true (by omega)
theorem Mx(a b:Str):(a++b).cps.toList=a.cps.toList++b.cps.toList:=by
 show(a.cps++b.cps).toList=_;simp
theorem Xv.app(h1:Xv a)(h2:Xv b):Xv (a++b):=λc d=>by
 rw[Mx]at d;exact(qk.mp d).elim (h1 c) (h2 c)
theorem Xv.slice(h:Xv x)(l u:Option Int):Xv (Txt.slice x l u):=λc a=>by
 unfold Txt.slice at a;split at a
 ·exact h c a
 ·have a:c∈(List.filterMap (x.cps[·]?) (Builtin.Str.strSliceIndices l u 1 x.length)):=by simpa using a
  obtain⟨i,_,e⟩:=Fy.mp a
  exact h c (by
   have:=lG e;simpa using this)
theorem Xv.ltr(b:0<=i)(h1:i<26):Xv (ltr i):=λc a=>by
 have:c=97+i.toNat:=by simpa [Bc.ltr]using a
 omega
theorem Em(c:Nat):∀(n:Nat)(a:Array Nat),((List.replicate n #[c]).foldl (·++·) a).toList=a.toList++List.replicate n c
 | 0,a=>by simp
 | n+1,a=>by
  rw[C2,Lg,Em c n,C2];simp
theorem Jw{n:Int}(h:0<=n):(Txt.mul ⟨#[c]⟩ n).cps.toList=List.replicate n.toNat c:=by
 unfold Txt.mul;split
 ·have:n.toNat=0:=by omega
  rw[this];rfl
 ·split
  ·rename_i b a
   have:n=1:=by
    rcases JD.mp a with z|z
    ·exact eq_of_beq z
    ·exact absurd z (by simp[Str.length])
   subst this;rfl
  ·rw[Em];rfl
theorem Xv.mul(b:c<128)(h:0<=n):Xv (Txt.mul ⟨#[c]⟩ n):=λd a=>by
 rw[Jw h]at a;rw[B7 a];exact b
theorem GI{n:Int}(h:0<=n):(Txt.mul ⟨#[c]⟩ n).length=n.toNat:=by
 have:=congrArg List.length (Jw (c:=c) h);rw[Q1]at this;simpa [Str.length]using this
def Vn(d o c:Int)(a:Str)(b:Int)(k:Nat):Str:=
 if d=0 then Txt.slice a none (some b)++ltr ((o+c * k) % 26)++Txt.slice a (some b) none
 else if d=1 then Txt.slice a none (some (k * c % (a.length+1)))++ltr ((o+c * k) % 26)
 else Txt.mul (ltr ((o+k / 8) % 26)) (1+k * c % 8)
theorem Gy(a:0<=i)(h1:0<=j)(h:ltr i=ltr j):i=j:=by
 unfold ltr at h;have:#[97+i.toNat]=#[97+j.toNat]:=by injection h
 have:97+i.toNat=97+j.toNat:=by simpa using this
 omega
theorem UH:∀c∈([1,3,5,7,9,11,15,17]:List Nat),∀a<16,∀b<16,c * a % 26=c * b % 26->a=b:=by decide +kernel
theorem Ff{o f:Int}(g:f∈([1,3,5,7,9,11,15,17]:List Int)){a b:Nat}(c:a<16)(d:b<16)(h:(o+f * a) % 26=(o+f * b) % 26):a=b:=by
 have e:=Int.emod_add_cancel_left.mp h;simp only[qN,CV,or_false]at g;rcases g with rfl|rfl|rfl|rfl|rfl|rfl|rfl|rfl
 ·exact UH 1 (by decide) a c b d (by exact_mod_cast e)
 ·exact UH 3 (by decide) a c b d (by exact_mod_cast e)
 ·exact UH 5 (by decide) a c b d (by exact_mod_cast e)
 ·exact UH 7 (by decide) a c b d (by exact_mod_cast e)
 ·exact UH 9 (by decide) a c b d (by exact_mod_cast e)
 ·exact UH 11 (by decide) a c b d (by exact_mod_cast e)
 ·exact UH 15 (by decide) a c b d (by exact_mod_cast e)
 ·exact UH 17 (by decide) a c b d (by exact_mod_cast e)
theorem yN{x y:Int}(a:0<=x)(b:0<=y)(h:97+x.toNat=97+y.toNat):x=y:=by omega
theorem Bq{x y:Int}(a:0<=x)(b:0<=y)(h:(1+x).toNat=(1+y).toNat):x=y:=by omega
theorem El{x:Int}(a:0<=x):(1+x).toNat=x.toNat+1:=by omega
theorem US:∀c∈([1,3,5,7,9,11,15,17]:List Nat),∀a<16,∀b<16,a / 8=b / 8->a * c % 8=b * c % 8->a=b:=by decide +kernel
theorem xo{o f:Int}(g:f∈([1,3,5,7,9,11,15,17]:List Int)){a b:Nat}(c:a<16)(e:b<16)(h:(o+(a:Int) / 8) % 26=(o+(b:Int) / 8) % 26)(h2:(a:Int) * f % 8=b * f % 8):a=b:=by
 have d:a / 8=b / 8:=by omega
 simp only[qN,CV,or_false]at g;rcases g with rfl|rfl|rfl|rfl|rfl|rfl|rfl|rfl
 ·exact US 1 (by decide) a c b e d (by exact_mod_cast h2)
 ·exact US 3 (by decide) a c b e d (by exact_mod_cast h2)
 ·exact US 5 (by decide) a c b e d (by exact_mod_cast h2)
 ·exact US 7 (by decide) a c b e d (by exact_mod_cast h2)
 ·exact US 9 (by decide) a c b e d (by exact_mod_cast h2)
 ·exact US 11 (by decide) a c b e d (by exact_mod_cast h2)
 ·exact US 15 (by decide) a c b e d (by exact_mod_cast h2)
 ·exact US 17 (by decide) a c b e d (by exact_mod_cast h2)
theorem zC{j o c f:Int}{e:Str}(g:c∈([1,3,5,7,9,11,15,17]:List Int))(E:0<=o){a b:Nat}(m:a<16)(n:b<16)(h:Vn j o c e f a=Vn j o c e f b):a=b:=by
 have D:0<=c:=by
  simp only[qN,CV,or_false]at g;rcases g with rfl|rfl|rfl|rfl|rfl|rfl|rfl|rfl<;>decide
 have d:∀z:Int,0<=z % 26:=λz=>Ve z (by decide);unfold Vn at h;by_cases h0:j=0
 ·rw[if_pos h0,if_pos h0]at h;have q:=congrArg (λx:Str=>x.cps.toList) h;simp only[Mx]at q;have B:=List.append_cancel_right q;have i:=List.append_cancel_left B
  have l:ltr ((o+c * a) % 26)=ltr ((o+c * b) % 26):=by
   unfold ltr at i ⊢;congr 1;exact Array.toList_inj.mp i
  exact Ff g m n (Gy (d _) (d _) l)
 ·rw[if_neg h0,if_neg h0]at h;by_cases h1:j=1
  ·rw[if_pos h1,if_pos h1]at h;have q:=congrArg (λx:Str=>x.cps.toList) h;simp only[Mx]at q;have i:=(List.append_inj' q (by simp[ltr])).2
   have l:ltr ((o+c * a) % 26)=ltr ((o+c * b) % 26):=by
    unfold ltr at i ⊢;congr 1;exact Array.toList_inj.mp i
   exact Ff g m n (Gy (d _) (d _) l)
  ·rw[if_neg h1,if_neg h1]at h;have p:∀z:Int,0<=z % 8:=λz=>Ve z (by decide);have q:(Txt.mul (ltr ((o+(a:Int) / 8) % 26)) (1+a * c % 8)).cps.toList=(Txt.mul (ltr ((o+(b:Int) / 8) % 26)) (1+b * c % 8)).cps.toList:=by rw[h]
   have s:∀k:Nat,(Txt.mul (ltr ((o+(k:Int) / 8) % 26)) (1+k * c % 8)).cps.toList=List.replicate (1+(k:Int) * c % 8).toNat (97+((o+(k:Int) / 8) % 26).toNat):=λk=>Jw (by have:=p (k * c);omega);rw[s a,s b]at q;have r:=congrArg List.length q;rw[Q1,Q1]at r;have t:=p (a * c);have u:=p (b * c)
   have C:(97+((o+(a:Int) / 8) % 26).toNat)=(97+((o+(b:Int) / 8) % 26).toNat):=by
    have v:(1+(a:Int) * c % 8).toNat=((a:Int) * c % 8).toNat+1:=El t;have A:(1+(b:Int) * c % 8).toNat=((b:Int) * c % 8).toNat+1:=El u;rw[v,A,C2,C2]at q;exact(List.cons.inj q).1
   have w:=d (o+(a:Int) / 8);have y:=d (o+(b:Int) / 8);exact xo (o:=o) g m n (yN w y C) (Bq t u r)
theorem hV{f:Nat->α}(h:∀a b,a<n->b<n->f a=f b->a=b):((List.range n).map f).Nodup:=by
 rw[List.nodup_iff_pairwise_ne,List.pairwise_map];refine List.Pairwise.imp_of_mem ?_ (List.pairwise_lt_range (n:=n));intro a b g d c e;have:=h a b (TY.mp g) (TY.mp d) e;omega
theorem BG(c:Xv b)(f:0<=o)(e:0<=st)(k:Nat):Xv (Vn g o st b d k):=by
 have a:∀z:Int,0<=z % 26/\z % 26<26:=λz=>⟨Ve z (by decide),Tc z (by decide)⟩;unfold Vn;split
 ·exact((c.slice _ _).app (Xv.ltr (a _).1 (a _).2)).app (c.slice _ _)
 ·split
  ·exact(c.slice _ _).app (Xv.ltr (a _).1 (a _).2)
  ·have:=Ve ((k:Int) * st) (show(8:Int)≠0 by decide);exact Xv.mul (by have:=a (o+(k:Int) / 8);omega) (by omega)
abbrev vi(i:Int):Yo:=⟨.int i,false,[]⟩
abbrev vs(x:Str):Yo:=⟨.str x,false,[]⟩
abbrev vb(b:Bool):Yo:=⟨.bool b,false,[]⟩
section
variable{a b:EF}{env:ZY}{i j:Int}
theorem Wy(d:a env=some (vi i))(c:b env=some (vi j))(h:0<j):Z2 ZR a b env=some (vi (i % j)):=by
 unfold Z2;rw[d,c];simp[ZR,Wx,h,ZM,XF]
theorem Rv(d:a env=some (vi i))(c:b env=some (vi j))(h:0<j)(h2:j<1073741824):Z2 Yn a b env=some (vi (i / j)):=by
 unfold Z2;rw[d,c];simp[Yn,Wx,h,h2,ZM,XF]
theorem QJ(d:a env=some (vi i))(c:b env=some (vi j)):Z2 Zr a b env=some (vi (i+j)):=by
 unfold Z2;rw[d,c];simp[Zr,ZM,XF]
theorem P1(d:a env=some (vi i))(c:b env=some (vi j)):Z2 YL a b env=some (vi (i - j)):=by
 unfold Z2;rw[d,c];simp[YL,Wx,ZM,XF]
theorem O4(d:a env=some (vi i))(c:b env=some (vi j))(h:(-(2 ^ 64)<i/\i<2 ^ 64)\/(-(2 ^ 64)<j/\j<2 ^ 64)):Z2 Ya a b env=some (vi (i * j)):=by
 unfold Z2;rw[d,c];simp only[qB,Ya];rw[if_pos h];simp[ZM,XF]
theorem Q0(d:a env=some (vi i))(c:b env=some (vi j)):Z2 XT a b env=some (vb (i==j)):=by
 unfold Z2;rw[d,c];rfl
theorem ME{x y:Str}(d:a env=some (vs x))(c:b env=some (vs y))(h:x.length+y.length<=100000):Z2 Zr a b env=some (vs (x++y)):=by
 unfold Z2;rw[d,c];simp only[qB,Zr];rw[if_pos h];simp[ZM,XF]
theorem GJ{x:Str}(d:a env=some (vs x))(c:b env=some (vi j))(h:x.length<=1000/\-1000<=j/\j<=1000):Z2 Ya a b env=some (vs (Txt.mul x j)):=by
 unfold Z2;rw[d,c];simp only[qB,Ya];rw[if_pos h];simp[ZM,XF]
theorem MQ{x:Str}(c:a env=some (vs x))(g:l env=some lo)(e:h env=some f)(d:x.length<=100000):Ys a l h env=some (vs (Txt.slice x lo f)):=by
 unfold Ys;rw[c,g,e];simp only[qB,pX];rw[if_pos d];simp[ZM,XF]
theorem RN(c:a env=some (vi i)):YC a env=some (some i):=by unfold YC;rw[c];rfl
theorem zdv(d:a env=some (vb c)):Zk a env=some c:=by unfold Zk;rw[d];rfl
theorem XP(c:a env=some r):Z7 a Z8 env=some [r]:=by unfold Z7 Z8;rw[c];rfl
theorem Il{x:Str}(c:a env=some (vs x))(d:x.length<=100000):Zy Zp (Z7 a Z8) env=some (vi x.length):=by
 unfold Zy;rw[XP c];simp[XX,Zp,d,ZM,XF]
theorem Q2{ds:List PyData}(c:a env=some ⟨.list ds,fr,bs⟩):Zy Zp (Z7 a Z8) env=some (vi ds.length):=by
 unfold Zy;rw[XP c];simp[XX,Zp,ZM,XF]
theorem zagf{k n:Nat}{b:EF}{ds:List PyData}{d:PyData}(c:env[k]?=some (.pl (.list ds)))(e:b env=some (vi (n:Int)))(f:ds[n]?=some d):ZZ k b env=some ⟨d,false,[]⟩:=by
 unfold ZZ;rw[c];unfold Z2 Z9;rw[c,e];simp only[qB,Xb];rw[XW f];simp[ZM]
theorem uj{k n:Nat}{b:EF}{ds:List PyData}{d:PyData}(c:env[k]?=some (.ac (.list ds)))(e:b env=some (vi (n:Int)))(f:ds[n]?=some d):ZZ k b env=some ⟨d,false,[]⟩:=by
 unfold ZZ;rw[c];simp only;rw[e];simp only[qB];rw[XW f];rfl
end
def V6:Str:="abcdefghijklmnopqrstuvwxyz"
theorem nS:(List.range 26).all (λi=>V6.cps.toList[i]?==some (97+i))=true:=by decide +kernel
theorem rS:V6.length=26:=by decide +kernel
theorem rM{i:Int}(a:0<=i)(h1:i<26):atI V6.cps.toList i=some (97+i.toNat):=by
 have q:=Ug.mp nS i.toNat (TY.mpr (by omega));have e:((i.toNat:Nat):Int)=i:=by omega
 rw[<- e];have z:=XW (eq_of_beq q);rw[e]at z ⊢;exact z
theorem Nc(a:env[k]?=some (.pl (.str V6)))(d:b env=some (vi i))(c:0<=i)(h1:i<26):ZZ k b env=some (vs (ltr i)):=by
 unfold ZZ;rw[a];unfold Z2 Z9;rw[a,d];simp only[qB,Xb];rw[if_pos (by rw[rS];decide),rM c h1];simp[ZM,XF,ltr]
theorem rq(b:0<=i)(h1:i<8):∃a:Int,atI [PyData.int 1,.int 3,.int 5,.int 7,.int 9,.int 11,.int 15,.int 17] i=some (.int a)/\a∈([1,3,5,7,9,11,15,17]:List Int):=by
 rcases(show i=0\/i=1\/i=2\/i=3\/i=4\/i=5\/i=6\/i=7 by omega)with rfl|rfl|rfl|rfl|rfl|rfl|rfl|rfl
 all_goals exact⟨_,rfl,by decide⟩
theorem OP{env:ZY}{ds:List PyData}(c:env[i]?=some (.ac (.list ds)))(b:f env=some ⟨d,fr,[]⟩)(a:ds.length<100000):Zc i f env=some (.nx (env.set i (.ac (.list (ds++[d]))))):=by
 unfold Zc;rw[c];simp only;rw[b];simp only[qB];rw[if_pos ⟨a,by simp⟩];rfl
theorem Dl(n:Nat):Mq 0 n=(List.range n).map (λ(k:Nat)=>PyData.int (k:Int)):=by
 unfold Mq;refine Pf λk _=>?_;show PyData.int (0+(k:Int))=_;rw[Int.zero_add]
theorem OZ(a b:Str):(a++b).length=a.length+b.length:=by
 have:=congrArg List.length (Mx a b);rw[qU]at this;simpa [Str.length]using this
theorem tx:ZV []:=⟨HV,λi n b e=>by simp at e,λp a=>by simp at a,by simp⟩
theorem n5{W:YD}{p:Str×List Str}(h:ZV W)(c:p.1∉nm W)(f:∀e∈p.2,e∈nm W)(d:p.2.length<=4)(j:W.length<12):ZV (W++[p]):=by
 refine⟨by rw[NO];exact M7 h.nd c,λi n g e=>?_,λq a=>?_,by simp;omega⟩
 ·by_cases hi:i<W.length
  ·rw[qc hi]at e;rw[Gp (by omega)];exact h.el i n g e
  ·rw[qg (by omega)]at e
   have b:i - W.length=0:=by
    have:=(qK.mp e).1;simp at this;omega
   rw[b]at e;cases e;have:i=W.length:=by omega
   subst this;rw[Gp (qM _),oQ];exact f
 ·rcases qk.mp a with a|a
  ·exact h.few q a
  ·rw[Tn.mp a];exact d
theorem L1(ds:List PyData)(k:Nat)(h:k<=ds.length):X1 ds none (some (k:Int))=ds.take k:=by
 unfold X1;have a:HT.sIx ds.length 0 none=0:=rfl;rw[a,HT.sIx_nat];simp
theorem Hl(a:α->PyData)(l:List α):QS (l.map a)=(l.zipIdx).map λ(p:α×Nat)=>PyData.tuple [.int (p.2:Int),a p.1]:=by
 unfold QS;rw[List.zipIdx_map,TX];rfl
theorem Ay{l:List α}(a:l.Nodup){c:i<l.length}{b:j<l.length}(e:l[i]=l[j]):i=j:=by
 rcases Nat.lt_trichotomy i j with h|h|h
 ·exact absurd e (lS.mp a i j c b h)
 ·exact h
 ·exact absurd e.symm (lS.mp a j i b c h)
theorem nu:∀(l:List α)(i:Nat)(h:i<l.length),(l[i]::l.eraseIdx i).Perm l
 | [],_,h=>by simp at h
 | a::l,0,_=>jT _
 | a::l,i+1,h=>by
  have b:i<l.length:=by simpa using h
  have c:=nu l i b;show(l[i]::a::l.eraseIdx i).Perm (a::l);exact(List.Perm.swap a l[i] _).trans (List.Perm.cons a c)
theorem GC(f:α->β):∀(l:List α)(i:Nat),(l.map f).eraseIdx i=(l.eraseIdx i).map f
 | [],_=>rfl
 | _::_,0=>rfl
 | a::l,i+1=>by
  show f a::(l.map f).eraseIdx i=f a::(l.eraseIdx i).map f;rw[GC f l i]
theorem Fb{xs:List Str}(z:xs.length<=12):∀(t:Nat)(b d:List Str)(e:Int)(n j:Sl),(d++b).Perm xs->t+d.length<=4->t<=b.length->
  ∃f p u g h,YH (gN 8) (Z0 (Z1 9 (Z2 ZR (Z9 6) (Zy Zp (Z7 (Z9 5) Z8)))) (Z0 (Z1 6 (Z2 Yn (Z9 6) (Zy Zp (Z7 (Z9 5) Z8)))) (Mt 7 5 (Z9 9)))) ((List.range' d.length t).map λ(k:Nat)=>PyData.int (k:Int)) [A,B,C,.pl (.int (kk:Int)),nn,.ac (Z4 b),.pl (.int e),.ac (Z4 d),n,j] =
   some (.nx [A,B,C,.pl (.int (kk:Int)),nn,p,u,.ac (Z4 f),g,h])/\f.Nodup=f.Nodup/\(∃v,(f++v).Perm xs)/\f.length=t+d.length
 | 0,b,d,e,n,j,pm,_,_=>⟨d,_,_,n,j,rfl,rfl,⟨b,pm⟩,by simp⟩
 | t+1,b,d,e,n,j,pm,h4,hl=>by
  have y:0<b.length:=by omega
  have D:=pm.length_eq;rw[qU]at D;have F:=Ve e (show((b.length:Nat):Int)≠0 by omega);have G:=Tc e (show(0:Int)<((b.length:Nat):Int) by omega);have m:(e % ((b.length:Nat):Int)).toNat<b.length:=by omega
  have x:((e % ((b.length:Nat):Int)).toNat:Int)=e % ((b.length:Nat):Int):=by omega
  generalize eA:(e % ((b.length:Nat):Int)).toNat=c at m x
  have w:((d++[b[c]])++b.eraseIdx c).Perm xs:=by
   refine List.Perm.trans ?_ pm;rw[C7];exact List.Perm.append_left d (nu b c m)
  obtain⟨f,p,u,g,h,q,_,E,l⟩:=Fb (A:=A) (B:=B) (C:=C) (kk:=kk) (nn:=nn) z t (b.eraseIdx c) (d++[b[c]]) (e / ((b.length:Nat):Int)) (.pl (.int (d.length:Int))) (.pl (.int (c:Int))) w (by simp;omega) (by rw[List.length_eraseIdx_of_lt m];omega);refine⟨f,p,u,g,h,?_,rfl,E,by rw[l];simp;omega⟩;rw[List.range'_succ,qL];unfold YH;simp only[gN,qB,Co,D5]
  have r:Z1 9 (Z2 ZR (Z9 6) (Zy Zp (Z7 (Z9 5) Z8))) [A,B,C,.pl (.int (kk:Int)),nn,.ac (Z4 b),.pl (.int e),.ac (Z4 d),.pl (.int (d.length:Int)),j]=some (.nx [A,B,C,.pl (.int (kk:Int)),nn,.ac (Z4 b),.pl (.int e),.ac (Z4 d),.pl (.int (d.length:Int)),.pl (.int (c:Int))]):=by
   have:=zbe (i:=9) (Wy (a:=Z9 6) (env:=[A,B,C,.pl (.int (kk:Int)),nn,.ac (Z4 b),.pl (.int e),.ac (Z4 d),.pl (.int (d.length:Int)),j]) rfl (Q2 (a:=Z9 5) rfl) (by rw[qD];omega));rw[this,qD,<- x];rfl
  have o:Z1 6 (Z2 Yn (Z9 6) (Zy Zp (Z7 (Z9 5) Z8))) [A,B,C,.pl (.int (kk:Int)),nn,.ac (Z4 b),.pl (.int e),.ac (Z4 d),.pl (.int (d.length:Int)),.pl (.int (c:Int))]=some (.nx [A,B,C,.pl (.int (kk:Int)),nn,.ac (Z4 b),.pl (.int (e / ((b.length:Nat):Int))),.ac (Z4 d),.pl (.int (d.length:Int)),.pl (.int (c:Int))]):=by
   have:=zbe (i:=6) (Rv (a:=Z9 6) (env:=[A,B,C,.pl (.int (kk:Int)),nn,.ac (Z4 b),.pl (.int e),.ac (Z4 d),.pl (.int (d.length:Int)),.pl (.int (c:Int))]) rfl (Q2 (a:=Z9 5) rfl) (by rw[qD];omega) (by rw[qD];omega));rw[this,qD];rfl
  have s:Mt 7 5 (Z9 9) [A,B,C,.pl (.int (kk:Int)),nn,.ac (Z4 b),.pl (.int (e / ((b.length:Nat):Int))),.ac (Z4 d),.pl (.int (d.length:Int)),.pl (.int (c:Int))]=some (.nx [A,B,C,.pl (.int (kk:Int)),nn,.ac (Z4 (b.eraseIdx c)),.pl (.int (e / ((b.length:Nat):Int))),.ac (Z4 (d++[b[c]])),.pl (.int (d.length:Int)),.pl (.int (c:Int))]):=by
   simp only[Mt,Z4,Z9,Rg,QW,qB];rw[if_pos ⟨by omega,by omega,by rw[qD];omega,by decide⟩,Jl,qW,qH m];simp[GC]
  rw[Zh r (Zh o s),qB];rw[show(d++[b[c]]).length=d.length+1 by simp]at q;exact q
theorem Am{cs:List Int}{xs:List Str}(a2:xs.length<=cs.length)(a5:xs.length<=12)(R:xs.Nodup):∃W,Kc [Yi cs,Z4 xs]=some (ZT W,true)/\nm W=xs/\ZV W:=by
 have x:∃f,YH (gT 2 (Zw 3 (Zw 4 YE))) (Z0 (Z1 5 (Ys (Z9 1) XC (YC (Z9 3))))
  (Z0 (Z1 6 (Z2 Yn (ZZ 0 (Z9 3)) (eC (.int 5))))
  (Z0 (Z1 7 (Y3 Z8))
  (Z0 (Y2 (Vf (Z7 (Zy TN (Z7 (Z2 ZR (ZZ 0 (Z9 3)) (eC (.int 5))) (Z7 (Z9 3) Z8))) Z8)) (gN 8)
  (Z0 (Z1 9 (Z2 ZR (Z9 6) (Zy Zp (Z7 (Z9 5) Z8))))
  (Z0 (Z1 6 (Z2 Yn (Z9 6) (Zy Zp (Z7 (Z9 5) Z8))))
  (Mt 7 5 (Z9 9)))))
  (Zc 2 (ZE (Z7 (Z9 4) (Z7 (Z9 7) Z8)))))))) ((xs.zipIdx).map λ(p:Str×Nat)=>PyData.tuple [.int (p.2:Int),.str p.1]) [.pl (Yi cs),.pl (Z4 xs),.ac (ZT []),.no,.no,.no,.no,.no,.no,.no]=some (.nx f)/\
   ∃W w D s o m g d,f=[.pl (Yi cs),.pl (Z4 xs),.ac (ZT W),w,D,s,o,m,g,d]/\nm W=(xs.zipIdx).map (λp:Str×Nat=>p.1)/\ZV W:=by
  refine Uv (λa b=>∃W w D s o m g d,b=[.pl (Yi cs),.pl (Z4 xs),.ac (ZT W),w,D,s,o,m,g,d]/\nm W=a.map (λp:Str×Nat=>p.1)/\ZV W) ⟨[],_,_,_,_,_,_,_,rfl,rfl,tx⟩ ?_;rintro a ⟨n,i⟩ X b Q ⟨W,w,D,s,o,m,g,d,rfl,c,ok⟩;have t:(xs.zipIdx)[a.length]?=some (n,i):=by rw[<- Q];simp
  rw[l4]at t
  have hi:i=a.length/\xs[a.length]?=some n:=by
   cases e:xs[a.length]? with
   | none=>rw[e]at t;cases t
   | some y=>rw[e]at t;simp at t;exact⟨by omega,by rw[t.1]⟩
  obtain⟨rfl,O⟩:=hi;have a1:a.length<xs.length:=(qK.mp O).1;have M:a.length<cs.length:=by omega
  have h:a.map (λp:Str×Nat=>p.1)=xs.take a.length:=by
   have e1:(xs.zipIdx).map (λp:Str×Nat=>p.1)=xs:=ku 0 xs;have S:=congrArg (λl:List (Str×Nat)=>(l.map (λp:Str×Nat=>p.1)).take a.length) Q;simp only[e1]at S;rw[<- S,qx,Gp (by simp),<- KQ,oQ]
  have a3:W.length=a.length:=by
   have:=congrArg List.length c;unfold nm at this;simpa using this
  have P:∀{b:ZY},b[0]?=some (.pl (Yi cs))->b[3]?=some (.pl (.int (a.length:Int)))->ZZ 0 (Z9 3) b=some (vi cs[a.length]):=λ{b} h0 h3=>
   zagf (ds:=cs.map .int) h0 (by unfold Z9;rw[h3]) (by rw[qW,qH M];rfl)
  have m5:=Ve cs[a.length] (show(5:Int)≠0 by decide);have a4:=Tc cs[a.length] (show(0:Int)<5 by decide);generalize eN:(if((a.length:Nat):Int)<cs[a.length] % 5 then((a.length:Nat):Int)else cs[a.length] % 5)=N;have hN:0<=N/\N<=a.length/\N<=4:=by rw[<- eN];split<;>omega
  have tl:(xs.take a.length).length=a.length:=by rw[Pp];omega
  obtain⟨v,G,E,H,J,q,_,⟨ls,U⟩,I⟩:=Fb (A:=.pl (Yi cs)) (B:=.pl (Z4 xs)) (C:=.ac (ZT W)) (kk:=a.length) (nn:=.pl (.str n)) (xs:=xs.take a.length) (by omega) N.toNat (xs.take a.length) [] (cs[a.length] / 5) g d (jT _) (by simp;omega) (by omega);have L:(xs.take a.length).Nodup:=R.sublist (sE _ _);have a0:v.Nodup:=(R0.mp (U.nodup_iff.mpr L)).1;have u:∀e∈v,e∈nm W:=λe Y=>by rw[c,h];exact U.mem_iff.mp (Uw _ Y)
  have nW:n∉nm W:=by
   rw[c,h];intro hm;obtain⟨j,hj,T⟩:=DT hm;rw[List.getElem_take]at T;obtain⟨hh,Z⟩:=qK.mp O;have:=Ay R (T.trans Z.symm);rw[tl]at hj;omega
  refine⟨_,[.pl (Yi cs),.pl (Z4 xs),.ac (ZT (W++[(n,v)])),.pl (.int (a.length:Int)),.pl (.str n),G,E,.pl (Z4 v),H,J],rfl,.inl ?_,W++[(n,v)],_,_,_,_,_,_,_,rfl,by rw[NO,c];simp,n5 ok nW u (by rw[I];simp;omega) (by omega)⟩
  have F:Z1 5 (Ys (Z9 1) XC (YC (Z9 3))) [.pl (Yi cs),.pl (Z4 xs),.ac (ZT W),.pl (.int (a.length:Int)),.pl (.str n),s,o,m,g,d]=some (.nx [.pl (Yi cs),.pl (Z4 xs),.ac (ZT W),.pl (.int (a.length:Int)),.pl (.str n),.ac (Z4 (xs.take a.length)),o,m,g,d]):=by
   have:Ys (Z9 1) XC (YC (Z9 3)) [.pl (Yi cs),.pl (Z4 xs),.ac (ZT W),.pl (.int (a.length:Int)),.pl (.str n),s,o,m,g,d]=some ⟨Z4 (xs.take a.length),true,[]⟩:=by
    simp only[Ys,Z9,XC,YC,Rg,QW,qB,Z4,pX];rw[L1 _ _ (by rw[qD];omega),<- KQ];simp[ZM,XF]
   exact zbe this
  refine Zh F (Zh (zbe (r:=vi _) (Rv (P rfl rfl) rfl (by decide) (by decide))) (Zh rfl (Zh (U5 (ds:=(List.range' ([]:List Str).length N.toNat).map λ(k:Nat)=>PyData.int (k:Int)) (bs:=[]) ?_ q) ?_)))
  ·have:Zy TN (Z7 (Z2 ZR (ZZ 0 (Z9 3)) (eC (.int 5))) (Z7 (Z9 3) Z8)) [.pl (Yi cs),.pl (Z4 xs),.ac (ZT W),.pl (.int (a.length:Int)),.pl (.str n),.ac (Z4 (xs.take a.length)),.pl (.int (cs[a.length] / 5)),.ac (.list []),g,d]=some (vi N):=by
    unfold Zy Z7;rw[Wy (P rfl rfl) (j:=5) rfl (by decide)];show((TN [.int (cs[a.length] % 5),.int ((a.length:Nat):Int)]).bind λz=>some (⟨z.1,z.2,ZM z.1 _⟩:Yo))=_;unfold TN;simp only[qB];rw[eN];rfl
   show Vf _ [.pl (Yi cs),.pl (Z4 xs),.ac (ZT W),.pl (.int (a.length:Int)),.pl (.str n),.ac (Z4 (xs.take a.length)),.pl (.int (cs[a.length] / 5)),.ac (.list []),g,d]=_;unfold Vf;rw[XP this];simp only[qB];rw[if_pos ⟨by omega,by omega⟩,Dl,List.range_eq_range'];rfl
  ·have lz:(W.map XH).length<100000:=by rw[qD];omega
   simp only[Zc,ZT,ZE,Z7,Z8,Z9,Rg,QW,qB,Ru,XX,Yj];rw[if_pos (by simp)];simp only[qB];rw[if_pos ⟨lz,by simp⟩];simp[frzs,frz1,XH,Z4]
 obtain⟨f,hl,W,w,D,s,o,m,g,d,rfl,c,ok⟩:=x;refine⟨W,zgd (env:=[.pl (Yi cs),.pl (Z4 xs),.no,.no,.no,.no,.no,.no,.no,.no]) rfl (Zh rfl (Zh (U5 (ds:=(xs.zipIdx).map λ(p:Str×Nat)=>PyData.tuple [.int (p.2:Int),.str p.1]) (bs:=[]) ?_ hl) rfl)),c.trans (ku 0 xs),ok⟩;unfold Lm;rw[XP (r:=⟨Z4 xs,false,[]⟩) rfl];simp only[qB,Z4];rw[Hl]
section
variable{a b:EF}{env:ZY}{x y:Str}
theorem O8(e:a env=some (vs x))(d:b env=some ⟨Z4 c,fr,bs⟩):Z2 (X3 neg) a b env=some (vb (if neg then !decide (x∈c)else decide (x∈c))):=by
 unfold Z2;rw[e,d];simp[IC,ZM,XF]
theorem KA(c:env[k]?=some (.pl (.dict kvs))\/env[k]?=some (.ac (.dict kvs)))(e:b env=some (vs y))(f:U8 kvs (Sum.inr y)=some d):X8 k b env=some ⟨d,false,[]⟩:=by
 unfold X8;rcases c with c|c<;>rw[c]<;>simp only<;>rw[e]<;>simp[Zd,f]
theorem GN(e:a env=some (vs x))(d:b env=some ⟨Zi c,fr,bs⟩):Vv neg a b env=some (vb (if neg then !decide (x∈c)else decide (x∈c))):=by
 unfold Vv;rw[e,d];simp[Zi,Zd,Ft]
end
theorem EN:∀{W:YD},W.lookup n=some d->W[(nm W).idxOf n]?=some (n,d)
 | [],h=>by cases h
 | (a,b)::W,h=>by
  rw[U9]at h;show((a,b)::W)[(a::nm W).idxOf n]?=_;rw[List.idxOf_cons]
  cases e:n==a with
  | true=>
   rw[e]at h;cases h;rw[<- eq_of_beq e];simp
  | false=>
   rw[e]at h
   have c:(a==n)=false:=by
    have:=beq_eq_false_iff_ne.mp e;exact beq_eq_false_iff_ne.mpr (Xs this)
   rw[c];simpa using EN (W:=W) h
theorem xj{l:List Str}(h:x∈l.take n):l.idxOf x<n:=by
 have:l.idxOf x=(l.take n).idxOf x:=by
  conv=>lhs;rw[<- lJ n l]
  rw[List.idxOf_append,if_pos h]
 rw[this];have a:=List.idxOf_lt_length_of_mem h;rw[Pp]at a;omega
theorem JW(h:ZV W)(a:e∈X6 W n):e∈nm W/\(nm W).idxOf e<(nm W).idxOf n:=by
 unfold X6 at a
 cases hl:W.lookup n with
 | none=>rw[hl]at a;simp at a
 | some c=>
  rw[hl]at a;have b:=EN hl;have q:=h.el _ _ _ b e a;have:nm (W.take ((nm W).idxOf n))=(nm W).take ((nm W).idxOf n):=by unfold nm;rw[KQ]
  rw[this]at q;exact⟨MY q,xj q⟩
theorem Bl{W:YD}(h:n∈nm W):∃a,W.lookup n=some a/\(n,a)∈W:=Lj (l:=W) (n:=n) h
theorem Nm(h:ZV W)(c:n∈nm W):x∈up W n↔x=n\/∃e∈X6 W n,x∈up W e:=by
 obtain⟨d,a,b⟩:=Bl c;rw[HP h b];unfold X6;rw[a];rfl
theorem Dk(h:n∈nm W):(ZX W).lookup n=some (up W n):=by
 obtain⟨a,e,_⟩:=Lj (l:=ZX W) (n:=n) (by rw[QR];exact h);unfold up X6;rw[e];rfl
theorem UE{a:EF}{f:AF}{env:ZY}{r:Yo}{rs:List Yo}(c:a env=some r)(b:f env=some rs):Z7 a f env=some (r::rs):=by unfold Z7;rw[c,b];rfl
theorem Rq{f:EF}{env:ZY}{c:Bool}(h:f env=some (vb c)):Xk (Zt f) env=some (!c):=by unfold Xk Zt;rw[h];rfl
theorem rK(c:List Int)(a b:Nat)(h:b<=c.length)(d:a<=b):X1 (c.map .int) (some (a:Int)) (some (b:Int))=((c.drop a).take (b - a)).map .int:=by
 unfold X1;have f:min a c.length=a:=by omega
 have e:min b c.length=b:=by omega
 rw[HT.sIx_nat,HT.sIx_nat,qD,f,e,<- J8,<- KQ]
theorem KF{env:ZY}{cs:List Int}{b:EF}{n:Nat}(h1:env[1]?=some (.pl (Yi cs)))(c:b env=some (vi (n:Int)))(a:n<cs.length):ZZ 1 b env=some (vi (cs[n]'a)):=
 zagf (ds:=cs.map .int) h1 c (by rw[qW,qH a];rfl)
theorem p6{W:YD}:X5 (gT 2 (Zw 0 (Zw 1 YE))) Yk (ZE (Z7 (Z9 0) (Z7 (Zy UO (Z7 (Z9 1) Z8)) Z8))) [.no,.no] (W.map XH)=some (W.map XH):=
 zdj λp _=>⟨[.pl (.str p.1),.pl (Z4 p.2)],rfl,rfl,⟨XH p,false,[]⟩,rfl,rfl⟩
theorem Mk:∀(a:List Str),(∀x∈a,qz x=true)->qw (a.map .str)=true/\qb (a.map .str)=0
 | [],_=>⟨rfl,rfl⟩
 | x::a,h=>by
  obtain⟨d,b⟩:=Mk a λy c=>h y (qI _ c);rw[qL];refine⟨?_,?_⟩
  ·show(qz x&&qw (a.map .str))=true;rw[h x qX,d];rfl
  ·show max 0 (qb (a.map .str))=0;rw[b];rfl
theorem FJ:∀(W:YD),(∀p∈W,qz p.1=true/\∀e∈p.2,qz e=true)->qw (W.map XH)=true/\qb (W.map XH)<=2
 | [],_=>⟨rfl,V5 _⟩
 | p::r,h=>by
  obtain⟨d,i⟩:=FJ r λq c=>h q (qI _ c);obtain⟨b,f⟩:=h p qX;obtain⟨a,g⟩:=Mk p.2 f;rw[qL];constructor
  ·show((qz p.1&&(qw (p.2.map .str)&&true))&&qw (r.map XH))=true;rw[b,a,d];rfl
  ·show max (max 0 (max (qb (p.2.map .str)+1) 0)+1) (qb (r.map XH))<=2;rw[g];omega
theorem y9(h:ZV W)(a:∀x∈nm W,Xv x):∀p∈W,qz p.1=true/\∀e∈p.2,qz e=true:=λp b=>
 ⟨HI (a _ (qo.mpr ⟨p,b,rfl⟩)),λe c=>HI (a e (MS h (n:=p.1) (es:=p.2) b e c))⟩
def tI:SF:=(Z0 (YA (Zt (Wz "tuple" (Z9 0))) (Ze (Zy UO (Z7 (Z9 0) Z8))) Zj)
  (Ze (Y3 (Z7 (Z9 0) Z8))))
def Wk:GF:=XQ 1 tI
def FZ:SF:=(Z0 (Z1 2 Sj)
  (Z0 (Y2 (Zl (ZG 1 Wk (Z7 (Z9 1) Z8))) (gN 3)
  (V3 2 (X8 0 (Z9 3))))
  (Th 2)))
def J2:GF:=XQ 4 FZ
theorem FG(h:ZV W):∀(m:Nat){k n e:Str},(nm W).idxOf k<m->k∈nm W->n∈up W k->e∈up W n->e∈up W k
 | 0,_,_,_,hm,_,_,_=>absurd hm (Ky _)
 | m+1,k,n,e,hm,hk,hn,he=>by
  rcases(Nm h hk).mp hn with rfl|⟨e',he',hn'⟩
  ·exact he
  ·obtain⟨a,b⟩:=JW h he';exact(Nm h hk).mpr (.inr ⟨e',he',FG h m (by omega) a hn' he⟩)
theorem rY(f:α->Bool):∀(l:List α),Nb (l.map λx=>.bool (f x))=some (l.map f)
 | []=>rfl
 | x::l=>by
  show(Nb (l.map λx=>.bool (f x))).map _=_;rw[rY f l];rfl
theorem Ei{f:α->Bool}{l:List α}{bs:List Nat}(b:a env=some ⟨.list (l.map λx=>.bool (f x)),fr,bs⟩):Zy (XJ λbs=>bs.all id) (Z7 a Z8) env=some (vb (l.all f)):=by
 unfold Zy;rw[XP b,qB];show((Nb (l.map λx=>.bool (f x))).map _).bind _=_;rw[rY];simp only[Ru,qB,List.all_map];rfl
theorem mQ{a:α->PyData}{out:α->List PyData}:∀{l:List α},(∀x∈l,∃b,g (a x) env=some b/\t b=some true/\P6 d k c e b=some (out x))->
  Rm g t d k c e env (l.map a)=some (l.flatMap out)
 | [],_=>rfl
 | x::l,h=>by
  obtain⟨b,j,m,i⟩:=h x qX;have f:=mQ (l:=l) λy n=>h y (qI _ n);rw[qL];unfold Rm;rw[j,qB,m,qB,if_pos rfl,i,qB,f,List.flatMap_cons];rfl
theorem tS{own:List Str}{fr:List Nat}{fi:Vs}{g:GT}{t:TF}{c:Vs}{a:GT}{b:TF}{e:EF}{env:ZY}{ds:List PyData}{bs:List Nat}{rs:List PyData}(h:fi env=some (ds,bs))(d:ds.length<300)(k:Rm g t c a b e (YN own fr env) ds=some rs) :
  Ro own fr fi g t c a b e env=some ⟨.list rs,true,if WS rs=true then[]else bs++Yb fr env⟩:=by
 unfold Ro;rw[h,qB,if_pos d,k];rfl
def l6:SF:=(Ze (Ro ["arm","name"] [] (Zl (Z9 0)) (gN 0) Yk (Zl (ZG 1 Wk (Z7 (Z9 0) Z8))) (gN 1) Yk (Z9 1)))
def Kg:GF:=XQ 1 l6
def kh:SF:=(Z0 (YA (Zk (Z2 X4 (Zy Zp (Z7 (Z9 2) Z8)) (Z9 1))) KR Zj)
  (Sm (ZG 2 FD (Z7 (Z9 0) (Z7 (ZG 1 Kg (Z7 (Z9 2) Z8)) Z8)))))
def CN:GF:=XQ 3 kh
def m4:SF:=(Ze (YB ["arm"] [0] (Zl (Z9 1)) (gN 0) Yk (ZG 2 J2 (Z7 (Z9 1) (Z7 (Z9 0) Z8)))))
def Gh:GF:=XQ 2 m4
def mI:SF:=(Ze (Zy (XJ λbs=>bs.all id) (Z7 (YB ["kind","roof"] [] (TV (Z7 (Z9 0) (Z7 (Z9 1) Z8))) (gT 2 (Zw 0 (Zw 1 YE))) Yk (Vv false (Z9 0) (Z9 1))) Z8)))
def Er:GF:=XQ 2 mI
def mz:SF:=(Ze (WK (Z2 X4 (Z9 1) (Z9 2)) (Zy (XJ λbs=>bs.all id) (Z7 (YB ["low","high"] [0] (TV (Z7 (Z9 1) (Z7 (Z9 2) Z8))) (gT 2 (Zw 0 (Zw 1 YE))) Yk (Vv false (Z9 1) (X8 2 (Z9 0)))) Z8))))
def Ow:GF:=XQ 3 mz
def kR:SF:=(Z0 (RC (Z9 0) (gT 3 (Zw 2 (Zw 3 (Zw 4 YE)))))
  (Z0 (Sm (ZG 3 CN (Z7 (Z9 2) (Z7 (Z9 3) (Z7 (Z9 1) Z8)))))
  (Z0 (Z1 5 (ZG 2 Gh (Z7 (ZG 1 R7 (Z7 (Z9 2) Z8)) (Z7 (Z9 1) Z8))))
  (Ze (YB ["rule"] [5] (Zl (Z9 4)) (gN 0) (Zt (ZG 2 Er (Z7 (ZZ 0 (eC (.int 1))) (Z7 (Z9 1) Z8)))) (Z9 0))))))
def PJ:GF:=XQ 6 kR
def mn:SF:=(Ze (YB ["rule"] [0,1] (Zl (Z9 1)) (gN 0) (Xk (Zt (Zy (XJ λbs=>bs.any id) (Z7 (YB ["name","kinds"] [0,1] (Zl (Z9 2)) (gT 2 (Zw 0 (Zw 1 YE))) Yk (ZG 3 Ow (Z7 (Z9 3) (Z7 (Z9 1) (Z7 (ZZ 2 (eC (.int 1))) Z8))))) Z8)))) (Z9 0)))
def PP:GF:=XQ 2 mn
def m7:SF:=(Ze (YB ["name","kinds"] [] (Zl (Z9 0)) (gT 2 (Zw 0 (Zw 1 YE))) Yk (Z9 0)))
def Ta:GF:=XQ 1 m7
def m3:SF:=(Z0 (YA (Xk (Zt (Z9 0))) (Ze (ZE (Z7 (eC (.str "none")) Z8))) Zj)
  (Z0 (YA (Zk (Z2 XT (Zy Zp (Z7 (Z9 0) Z8)) (eC (.int 1)))) (Ze (ZE (Z7 (eC (.str "rule")) (Z7 (ZZ 0 (eC (.int 0))) Z8)))) Zj)
  (Ze (ZE (Z7 (eC (.str "quarrel")) (Z7 (Zy Xw (Z7 (Z9 0) Z8)) Z8))))))
def K3:GF:=XQ 1 m3
def l8:SF:=(Ze (ZG 1 K3 (Z7 (ZG 1 Ta (Z7 (ZG 2 PP (Z7 (Z9 0) (Z7 (Z9 1) Z8))) Z8)) Z8)))
def C1:GF:=XQ 2 l8
def F9:SF:=(Z0 (Z1 2 (ZG 2 PJ (Z7 (Z9 0) (Z7 (Z9 1) Z8))))
  (Ze (ZG 1 Ta (Z7 (ZG 2 PP (Z7 (ZG 1 R7 (Z7 (ZZ 0 (eC (.int 0))) Z8)) (Z7 (Z9 2) Z8))) Z8))))
def CA:GF:=XQ 3 F9
def mV:SF:=(Ze (ZG 1 K3 (Z7 (ZG 2 CA (Z7 (Z9 0) (Z7 (Z9 1) Z8))) Z8)))
def Fl:GF:=XQ 2 mV
def I0:SF:=(Z0 (RC (Z9 0) (gT 3 (Zw 3 (Zw 4 (Zw 5 YE)))))
  (Z0 (YA (Zk (Z2 (X3 true) (Z9 2) (ZG 1 Ta (Z7 (Z9 5) Z8)))) KR Zj)
  (Z0 (Z1 6 (ZG 2 PJ (Z7 (Z9 0) (Z7 (Z9 1) Z8))))
  (Z0 (YA (Zk (Z2 (X3 true) (Z9 2) (ZG 1 Ta (Z7 (Z9 6) Z8)))) KR Zj)
  (Z0 (Z1 7 (Rk (Zy U0 (Z7 (Z9 6) Z8)) (Z9 2)))
  (Z0 (Z1 8 (ZG 1 R7 (Z7 (Z9 3) Z8)))
  (Ze (ZG 2 C1 (Z7 (Z9 8) (Z7 (YB ["rule"] [7,8] (Zl (Z9 6)) (gN 0) (Zt (ZG 3 Ow (Z7 (Z9 2) (Z7 (Z9 1) (Z7 (ZZ 0 (eC (.int 1))) Z8))))) (Z9 0)) Z8))))))))))
def K8:GF:=XQ 9 I0
def zL:SF:=(Z0 (Z1 2 (eC (.str "abcdefghijklmnopqrstuvwxyz")))
  (Z0 (Z1 3 (Z2 Xb (ZE (Z7 (eC (.int 1)) (Z7 (eC (.int 3)) (Z7 (eC (.int 5)) (Z7 (eC (.int 7)) (Z7 (eC (.int 9)) (Z7 (eC (.int 11)) (Z7 (eC (.int 15)) (Z7 (eC (.int 17)) Z8))))))))) (Z2 ZR (Z2 Yn (Z9 1) (eC (.int 3))) (eC (.int 8)))))
  (Z0 (Z1 4 (Z2 ZR (Z2 Yn (Z9 1) (eC (.int 24))) (eC (.int 26))))
  (Z0 (Z1 5 (Z2 Ya (ZZ 2 (Z2 ZR (Z2 Yn (Z9 1) (eC (.int 624))) (eC (.int 26)))) (Z2 ZR (Z2 Yn (Z9 1) (eC (.int 16224))) (eC (.int 8)))))
  (Z0 (Z1 6 (Z2 ZR (Z2 Yn (Z9 1) (eC (.int 129792))) (Z2 Zr (Zy Zp (Z7 (Z9 5) Z8)) (eC (.int 1)))))
  (Z0 (Z1 7 (Y3 Z8))
  (Z0 (Y2 (Vf (Z7 (Z9 0) Z8)) (gN 8)
  (Z0 (Z1 9 (ZZ 2 (Z2 ZR (Z2 Zr (Z9 4) (Z2 Ya (Z9 3) (Z9 8))) (eC (.int 26)))))
  (YA (Zk (Z2 XT (Z2 ZR (Z9 1) (eC (.int 3))) (eC (.int 0)))) (Zc 7 (Z2 Zr (Z2 Zr (Ys (Z9 5) XC (YC (Z9 6))) (Z9 9)) (Ys (Z9 5) (YC (Z9 6)) XC))) (YA (Zk (Z2 XT (Z2 ZR (Z9 1) (eC (.int 3))) (eC (.int 1)))) (Zc 7 (Z2 Zr (Ys (Z9 5) XC (YC (Z2 ZR (Z2 Ya (Z9 8) (Z9 3)) (Z2 Zr (Zy Zp (Z7 (Z9 5) Z8)) (eC (.int 1)))))) (Z9 9))) (Zc 7 (Z2 Ya (ZZ 2 (Z2 ZR (Z2 Zr (Z9 4) (Z2 Yn (Z9 8) (eC (.int 8)))) (eC (.int 26)))) (Z2 Zr (eC (.int 1)) (Z2 ZR (Z2 Ya (Z9 8) (Z9 3)) (eC (.int 8))))))))))
  (Z0 (YA (Zk (Z2 XT (Z2 ZR (Z2 Yn (Z9 1) (eC (.int 1038336))) (eC (.int 6))) (eC (.int 5)))) (Z0 (Z1 10 (Y3 (Z7 (eC (.str "none")) (Z7 (eC (.str "rule")) (Z7 (eC (.str "quarrel")) (Z7 (eC (.str "near")) (Z7 (eC (.str "far")) (Z7 (eC (.str "out")) Z8))))))))
  (Z0 (Z1 11 (Z2 ZR (Z2 Yn (Z9 1) (eC (.int 6230016))) (eC (.int 6))))
  (Z1 7 (Ys (Z2 Zr (Z2 Zr (Ys (Z9 10) (YC (Z9 11)) XC) (Ys (Z9 10) XC (YC (Z9 11)))) (Ys (Z9 7) (YC (eC (.int 6))) XC)) XC (YC (Z9 0)))))) Zj)
  (Th 7)))))))))
def Q8:GF:=XQ 12 zL
def l5:SF:=(Z0 (Z1 3 (Y3 Z8))
  (Z0 (Z1 4 (Z9 0))
  (Z0 (Z1 5 (Zy Zp (Z7 (Z9 1) Z8)))
  (Z0 (Y2 (Vf (Z7 (Z9 2) Z8)) (gN 6)
  (Z0 (Z1 7 (Z2 ZR (Z9 4) (Z9 5)))
  (Z0 (Z1 4 (Z2 Yn (Z9 4) (Z9 5)))
  (Z0 (YA (Zk (Z2 XT (Z2 ZR (Z9 4) (eC (.int 4))) (eC (.int 2)))) (Zc 3 (ZE (Z7 (ZZ 1 (Z2 YL (Z2 YL (Z9 5) (eC (.int 1))) (Z9 7))) Z8))) (YA (UZ (Zk (Z2 XT (Z2 ZR (Z9 4) (eC (.int 4))) (eC (.int 3)))) (Zk (Z2 Vj (Z9 5) (eC (.int 1))))) (Z0 (Z1 8 (Z2 ZR (Z2 Zr (Z2 Zr (Z9 7) (eC (.int 1))) (Z2 ZR (Z2 Yn (Z9 4) (eC (.int 4))) (Z2 YL (Z9 5) (eC (.int 1))))) (Z9 5)))
  (Z0 (Z1 9 (YB ["_law_name"] [1,7,8] (Zl (Ys (Z9 1) (YC (Z2 YL (Z9 5) (Z2 ZR (Z9 4) (eC (.int 3))))) XC)) (gN 0) (Zk (Z2 (X3 true) (Z9 0) (ZE (Z7 (ZZ 1 (Z9 2)) (Z7 (ZZ 1 (Z9 3)) Z8))))) (Z9 0)))
  (Zc 3 (Zy Xw (Z7 (Z2 Zr (Y3 (Z7 (ZZ 1 (Z9 7)) (Z7 (ZZ 1 (Z9 8)) Z8))) (Z9 9)) Z8))))) (Zc 3 (ZZ 1 (Z2 YL (Z2 YL (Z9 5) (eC (.int 1))) (Z9 7))))))
  (Z1 4 (Z2 Yn (Z9 4) (Z2 Ya (eC (.int 4)) (Z9 5))))))))
  (Ze (Zy Xw (Z7 (Z9 3) Z8)))))))
def Oi:GF:=XQ 10 l5
def nk:SF:=(Z0 (Z1 5 (Y3 Z8))
  (Z0 (Y2 (Lm (Z7 (Z9 4) Z8)) (gT 2 (Zw 6 (Zw 7 YE)))
  (Z0 (Z1 8 (Z2 Yn (ZZ 0 (Z9 6)) (eC (.int 4))))
  (Z0 (Z1 9 (Y3 Z8))
  (Z0 (Y2 (Zl (Z9 3)) (gN 10)
  (Z0 (Z1 11 (Z9 1))
  (Z0 (YA (Zk (Z2 Vj (Z2 ZR (ZZ 0 (Z9 6)) (eC (.int 4))) (eC (.int 0)))) (Z1 11 (YB ["_law_name"] [2,10] (Zl (Z9 1)) (gN 0) (Zt (Zy (XJ λbs=>bs.any id) (Z7 (YB ["_law_one"] [0,1] (Zl (ZG 1 Wk (Z7 (Z9 2) Z8))) (gN 0) Yk (Z2 (X3 false) (Z9 1) (X8 2 (Z9 0)))) Z8))) (Z9 0))) Zj)
  (Z0 (Zc 9 (ZZ 11 (Z2 ZR (Z9 8) (Zy Zp (Z7 (Z9 11) Z8)))))
  (Z1 8 (Z2 Yn (Z9 8) (Zy Zp (Z7 (Z9 11) Z8))))))))
  (YA (Zk (Z2 (Tv true) (Zy Xw (Z7 (Z9 9) Z8)) (YB ["_law_one","_law_row"] [] (Zl (Z9 5)) (gT 2 (Zw 0 (Zw 1 YE))) Yk (Z9 1)))) (Zc 5 (ZE (Z7 (Z9 7) (Z7 (Zy Xw (Z7 (Z9 9) Z8)) Z8)))) Zj)))))
  (Th 5)))
def K2:GF:=XQ 12 nk
def k9:SF:=(Z0 (Y2 (Kn (Z7 (Z9 1) Z8)) (gT 2 (Zw 3 (Zw 4 YE)))
  (YA (Xk (Zt (Zy (XJ λbs=>bs.any id) (Z7 (YB ["_law_name"] [0,4] (Zl (ZG 1 Wk (Z7 (ZZ 2 (Z9 3)) Z8))) (gN 0) Yk (Z2 (X3 false) (Z9 2) (X8 1 (Z9 0)))) Z8)))) (Ze (eC (.bool false))) Zj))
  (Ze (eC (.bool true))))
def VA:GF:=XQ 5 k9
def HU:Wc:=(W4 (TU (Z1 2 (ZG 1 JO (Z7 (Z9 0) Z8))))
  (Ic (Zl (Z9 1)) (gN 3)
  (TZ (Zk (Z2 (X3 true) (Z9 3) (Z9 2))) (OE "NoKind" (Z9 3)) (TU Zj))))
def GY:Tw:=Tt 4 HU
def ma:Wc:=(W4 (TZ (Zk (Z2 X4 (Zy Zp (Z7 (Z9 2) Z8)) (Z9 1))) (OE "NoCall" (eC .none)) (TU Zj))
  (TK 2 GY (Z7 (Z9 0) (Z7 (ZG 1 Kg (Z7 (Z9 2) Z8)) Z8))))
def Dd:Tw:=Tt 3 ma
def mB:Wc:=(W4 (TU (RC (Z9 0) (gT 3 (Zw 2 (Zw 3 (Zw 4 YE))))))
  (W4 (TK 3 Dd (Z7 (Z9 2) (Z7 (Z9 3) (Z7 (Z9 1) Z8))))
  (TU RV)))
def EX:Tw:=Tt 6 mB
def kN:Wc:=(W4 (Sq 2 2 EX (Z7 (Z9 0) (Z7 (Z9 1) Z8)))
  (TU RV))
def C8:Tw:=Tt 3 kN
def jo:Wc:=(Qw 2 K3 C8 (Z7 (Z9 0) (Z7 (Z9 1) Z8)))
def CI:Tw:=Tt 2 jo
def LX:Vu:=(Pm (Z1 2 (Y3 Z8))
  (Pm (Z1 3 (ZG 2 Fl (Z7 (Z9 0) (Z7 (Z9 1) Z8))))
  (Pm (UV (Zk (Z2 XT (ZZ 3 (eC (.int 0))) (eC (.str "rule")))) (Z0 (Zc 2 (ZZ 3 (eC (.int 1))))
  (Z1 3 (ZG 3 K8 (Z7 (Z9 0) (Z7 (Z9 1) (Z7 (ZZ 3 (eC (.int 1))) Z8)))))) 1000)
  (Mm (LA 2 (NM (BI (Z9 3)) EG))))))
def Ov:FR:=zP 4 LX
def oG:Vu:=(Pm (Z1 2 (ZG 2 PJ (Z7 (Z9 0) (Z7 (Z9 1) Z8))))
  (Pm (Z1 3 (ZG 1 R7 (Z7 (ZZ 0 (eC (.int 0))) Z8)))
  (Pv (Yg (Pk [] 4 (QZ (Y3 Z8)))
  (RS (yT (Zt (Z9 2))) (Yg (yS [4] (Z1 5 (ZG 2 PP (Z7 (Z9 3) (Z7 (Z9 2) Z8)))))
  (Yg (SX [5] (Xq 4) (QZ (ZG 1 Ta (Z7 (Z9 5) Z8))))
  (yS [4] (Z1 2 (YB ["rule"] [5] (Zl (Z9 2)) (gN 0) (Zk (Z2 (Tv true) (Z9 0) (Z9 1))) (Z9 0)))))) 1000)) (Xq 4))))
def N4:FR:=zP 6 oG
def kx:SF:=(Z0 (Z1 2 (Y3 Z8))
  (Z0 (Y2 (Zl (Z9 1)) (gT 2 (Zw 3 (Zw 4 YE)))
  (YA (Xk (Zt (Zy (XJ λbs=>bs.any id) (Z7 (YB ["_law_one","_law_other"] [0,4] (Zl (Z9 1)) (gT 2 (Zw 0 (Zw 1 YE))) Yk (WK (Z2 X4 (Z9 1) (Z9 3)) (ZG 3 VA (Z7 (Z9 2) (Z7 (Z9 3) (Z7 (Z9 1) Z8)))))) Z8)))) (Zc 2 (ZE (Z7 (Z9 3) (Z7 (Z9 4) Z8)))) Zj))
  (Th 2)))
def Ol:GF:=XQ 5 kx
def jv:SF:=(Z0 (Z1 2 Sj)
  (Z0 (Y2 (Zl (Z9 1)) (gT 2 (Zw 3 (Zw 4 YE)))
  (Xz 2 (Z9 3) (eC (.int 0))))
  (Z0 (Y2 (Vf (Z7 (Zy Zp (Z7 (Z9 1) Z8)) Z8)) (gN 5)
  (Y2 (Zl (Z9 1)) (gT 2 (Zw 3 (Zw 4 YE)))
  (Y2 (Zl (Z9 1)) (gT 2 (Zw 6 (Zw 7 YE)))
  (YA (UZ (Zk (Z2 X4 (Z9 7) (Z9 4))) (UZ (Zt (ZG 3 VA (Z7 (Z9 0) (Z7 (Z9 4) (Z7 (Z9 7) Z8))))) (Zk (Z2 CY (X8 2 (Z9 3)) (X8 2 (Z9 6)))))) (Xz 2 (Z9 3) (Z2 Zr (X8 2 (Z9 6)) (eC (.int 1)))) Zj))))
  (Th 2))))
def JB:GF:=XQ 8 jv
def jk:SF:=(Z0 (Z1 2 (ZG 2 JB (Z7 (Z9 0) (Z7 (Z9 1) Z8))))
  (Z0 (Z1 3 (Y3 Z8))
  (Z0 (Y2 (Vf (Z7 (Zy Zp (Z7 (Z9 1) Z8)) Z8)) (gN 4)
  (Z0 (Z1 5 (YB ["_law_name","_law_kinds"] [2,4] (Zl (Z9 1)) (gT 2 (Zw 0 (Zw 1 YE))) (Zk (Z2 XT (X8 2 (Z9 0)) (Z9 3))) (Z9 0)))
  (YA (Zk (Z2 Vj (Zy Zp (Z7 (Z9 5) Z8)) (eC (.int 0)))) (Zc 3 (Z9 5)) Zj)))
  (Th 3))))
def GU:GF:=XQ 6 jk
def mL:SF:=(Z0 (Z1 2 (Y3 Z8))
  (Z0 (Z1 3 (Zy UO (Z7 (Z9 1) Z8)))
  (Z0 (Z1 4 (ZG 2 Ol (Z7 (Z9 0) (Z7 (Z9 3) Z8))))
  (Z0 (UV (Zk (Z2 XT (Zy Zp (Z7 (Z9 4) Z8)) (eC (.int 1)))) (Z0 (Zc 2 (Z2 Xb (ZZ 4 (eC (.int 0))) (eC (.int 0))))
  (Z0 (Z1 5 (Z2 Xb (ZZ 4 (eC (.int 0))) (eC (.int 1))))
  (Z0 (Z1 3 (YB ["_law_rule"] [0,5] (Zl (Z9 3)) (gN 0) (UZ (Zk (Z2 X4 (ZZ 0 (eC (.int 1))) (Z9 2))) (Zt (ZG 3 VA (Z7 (Z9 1) (Z7 (ZZ 0 (eC (.int 1))) (Z7 (Z9 2) Z8)))))) (Z9 0)))
  (Z1 4 (ZG 2 Ol (Z7 (Z9 0) (Z7 (Z9 3) Z8))))))) 1000)
  (Z0 (YA (Zk (Z2 XT (Zy Zp (Z7 (Z9 4) Z8)) (eC (.int 0)))) (Ze (ZE (Z7 (Z9 2) (Z7 (ZE (Z7 (eC (.str "none")) Z8)) Z8)))) Zj)
  (Ze (ZE (Z7 (Z9 2) (Z7 (ZE (Z7 (eC (.str "quarrel")) (Z7 (Zy Xw (Z7 (YB ["_law_name","_law_kinds"] [] (Zl (Z9 4)) (gT 2 (Zw 0 (Zw 1 YE))) Yk (Z9 0)) Z8)) Z8))) Z8)))))))))
def FY:GF:=XQ 6 mL
def mR:SF:=(Z0 (Z1 3 (YB ["_law_rule"] [1,2] (Zl (ZZ 0 (eC (.int 2)))) (gN 0) (Zt (ZG 3 VA (Z7 (Z9 1) (Z7 (ZZ 0 (eC (.int 1))) (Z7 (Z9 2) Z8))))) (Z9 0)))
  (Z0 (Z1 4 (ZG 2 GU (Z7 (Z9 1) (Z7 (Z9 3) Z8))))
  (Z0 (Z1 5 (ZG 2 FY (Z7 (Z9 1) (Z7 (Z9 3) Z8))))
  (Z0 (Y2 (Vf (Z7 (eC (.int 2)) Z8)) (gN 6)
  (Ss (Yg (QG 7 2 Ov (Z7 (Z9 0) (Z7 (Z9 2) Z8)))
  (Yg (QG 8 2 N4 (Z7 (Z9 0) (Z7 (Z9 2) Z8)))
  (Yg (R1 (yT (WQ (Xk (Zt (Wz "tuple" (Z9 7)))) (WQ (Zk (Z2 X4 (Z9 7) (Z9 5))) (Xk (Zt (Wz "list" (ZZ 7 (eC (.int 0))))))))) (SD (yE (eC (.bool false)))) Uk)
  (Yg (R1 (yT (WQ (Xk (Zt (Wz "list" (Z9 8)))) (Zk (Z2 X4 (Z9 8) (Z9 4))))) (SD (yE (eC (.bool false)))) Uk)
  (Yg (Wr (Qa (Xq 7) (yE (eC (.int 0)))) (L9 (yE (eC (.str "a")))))
  (Yg (R1 (yT (Zk (Z2 Vj (Zy Zp (Z7 (Z9 8) Z8)) (eC (.int 0))))) (Wr (Qa (Xq 8) (yE (eC (.int 0)))) (L9 (yE (eC (.str "a"))))) Uk)
  (Yg (S0 (Xq 8))
  (Wr (Xq 8) (Ds (Y3 Z8))))))))))))
  (Ze (eC (.bool true)))))))
def Rz:GF:=XQ 9 mR
def Ql:WX->Option PyData:=(LK 3 2 1 ["NoCall","NoKind"] (ZE (Z7 (eC (.str "no refusal")) Z8)) (λa b=>(Z1 2 (ZE (Z7 (eC (.bool (decide (a="NoCall")))) (Z7 (eC (.bool (decide (a="NoKind")))) (Z7 (eC b) Z8)))))))
def jF:Wc:=(W4 (TU (Z1 2 (Y3 Z8)))
  (W4 (Sq 3 2 CI (Z7 (Z9 0) (Z7 (Z9 1) Z8)))
  (TU RV)))
def La:Tw:=Tt 4 jF
def lI:Wc:=(W4 (Sq 2 2 EX (Z7 (Z9 0) (Z7 (Z9 1) Z8)))
  (TU RV))
def Kr:Tw:=Tt 6 lI
def kl:SF:=(Z0 (YA (Zk (Z2 X4 (QQ [0,1] 2 La (Z7 (Z9 0) (Z7 (Z9 1) Z8)) Ql) (Z9 2))) (Ze (eC (.bool false))) Zj)
  (Ze (Z2 XT (QQ [0,1] 2 Kr (Z7 (Z9 0) (Z7 (Z9 1) Z8)) Ql) (Z9 2))))
def QK:GF:=XQ 3 kl
theorem GP:bootBuiltins "all"=some (.builtin "all"):=by decide +kernel
theorem Cd:bootBuiltins "any"=some (.builtin "any"):=by decide +kernel
theorem oB:bootBuiltins "dict"=some (.type "dict"):=by decide +kernel
theorem Mz:bootBuiltins "isinstance"=some (.builtin "isinstance"):=by decide +kernel
theorem U6:bootBuiltins "len"=some (.builtin "len"):=by decide +kernel
theorem N0:bootBuiltins "list"=some (.type "list"):=by decide +kernel
theorem wh:bootBuiltins "min"=some (.builtin "min"):=by decide +kernel
theorem SJ:bootBuiltins "tuple"=some (.type "tuple"):=by decide +kernel
theorem iw:bootBuiltins "zip"=some (.type "zip"):=by decide +kernel
def XM(i:Nat):Stmt:=PySem.Challenge.pw_bestcalls_k20_chains_and_layers.main.body.getD i (.Pass ⟨0,0,0,0⟩)
structure Txt(mg:Str->Option Value):Prop where
 all:mg "all"=none
 any:mg "any"=none
 dict:mg "dict"=none
 enumerate:mg "enumerate"=none
 isinstance:mg "isinstance"=none
 len:mg "len"=none
 list:mg "list"=none
 min:mg "min"=none
 range:mg "range"=none
 tuple:mg "tuple"=none
 zip:mg "zip"=none
abbrev Aw:Stmt:=XM 7
abbrev jh:List Str:=["web"]
theorem jB:ZW jh ["web"] (YU Aw):=XB
theorem hX:jh.Nodup:=jB.nd
abbrev nG:Stmt:=XM 8
abbrev jW:List Str:=["arm"]
theorem kI:ZW jW ["arm"] (YU nG):=XB
theorem iW:jW.Nodup:=kI.nd
abbrev C4:Stmt:=XM 9
abbrev mr:List Str:=["web","names","known","name"]
abbrev Gs:List Str:=["web","names"]
theorem zD:ZW mr Gs (YU C4):=XB
theorem Df:mr.Nodup:=zD.nd
abbrev vr:Stmt:=XM 10
abbrev kr:List Str:=["web","roofs","name","elders","roof","elder"]
theorem jq:ZW kr ["web"] (YU vr):=XB
theorem Fi:kr.Nodup:=jq.nd
abbrev vw:Stmt:=XM 11
abbrev D3:List Str:=["roofs","arm","roof","name"]
abbrev AX:List Str:=["roofs","arm"]
theorem lD:ZW D3 AX (YU vw):=XB
theorem lF:D3.Nodup:=lD.nd
abbrev pW:Stmt:=XM 13
abbrev l9:List Str:=["call"]
theorem nz:ZW l9 ["call"] (YU pW):=XB
theorem iE:l9.Nodup:=nz.nd
abbrev Dy:Stmt:=XM 14
abbrev jR:List Str:=["web","places","call"]
abbrev IQ:List Str:=["web","places","call"]
theorem yw:ZW jR IQ (YU Dy):=XB
theorem iF:jR.Nodup:=yw.nd
abbrev vf:Stmt:=XM 15
abbrev j4:List Str:=["roofs","call"]
abbrev rB:List Str:=["roofs","call"]
theorem jQ:ZW j4 rB (YU vf):=XB
theorem iT:j4.Nodup:=jQ.nd
abbrev zt:Stmt:=XM 16
abbrev jp:List Str:=["kinds","call_roofs"]
abbrev Al:List Str:=["kinds","call_roofs"]
theorem ko:ZW jp Al (YU zt):=XB
theorem iP:jp.Nodup:=ko.nd
abbrev uU:Stmt:=XM 17
abbrev lj:List Str:=["roofs","one","other"]
abbrev Ah:List Str:=["roofs","one","other"]
theorem kE:ZW lj Ah (YU uU):=XB
theorem iZ:lj.Nodup:=kE.nd
abbrev CT:Stmt:=XM 19
abbrev mf:List Str:=["book","call","web","places","rules","call_roofs"]
abbrev D1:List Str:=["book","call"]
theorem uu:ZW mf D1 (YU CT):=XB
theorem M1:mf.Nodup:=uu.nd
abbrev uB:Stmt:=XM 20
abbrev lM:List Str:=["roofs","rules"]
abbrev pq:List Str:=["roofs","rules"]
theorem k7:ZW lM pq (YU uB):=XB
theorem ia:lM.Nodup:=k7.nd
abbrev uR:Stmt:=XM 21
abbrev lU:List Str:=["rules"]
theorem jx:ZW lU ["rules"] (YU uR):=XB
theorem iK:lU.Nodup:=jx.nd
abbrev xr:Stmt:=XM 22
abbrev md:List Str:=["names"]
theorem kX:ZW md ["names"] (YU xr):=XB
theorem il:md.Nodup:=kX.nd
abbrev sD:Stmt:=XM 23
abbrev mJ:List Str:=["roofs","rules"]
abbrev y7:List Str:=["roofs","rules"]
theorem kL:ZW mJ y7 (YU sD):=XB
theorem iN:mJ.Nodup:=kL.nd
abbrev CO:Stmt:=XM 24
abbrev DY:List Str:=["book","call","rules"]
abbrev Ir:List Str:=["book","call"]
theorem o5:ZW DY Ir (YU CO):=XB
theorem mi:DY.Nodup:=o5.nd
abbrev Dp:Stmt:=XM 25
abbrev j5:List Str:=["book","call"]
abbrev Eu:List Str:=["book","call"]
theorem sP:ZW j5 Eu (YU Dp):=XB
theorem jb:j5.Nodup:=sP.nd
abbrev M3:Stmt:=XM 27
abbrev HH:List Str:=["book","call","name","web","places","rules","fit","own","roofs"]
abbrev Nk:List Str:=["book","call","name"]
theorem Gr:ZW HH Nk (YU M3):=XB
theorem Kk:HH.Nodup:=Gr.nd
abbrev Pi:Stmt:=XM 28
abbrev HN:List Str:=["book","call","names","end"]
abbrev NK:List Str:=["book","call"]
theorem My:ZW HN NK (YU Pi):=XB
theorem Jo:HN.Nodup:=My.nd
abbrev DK:Stmt:=XM 29
abbrev Gv:List Str:=["book","call","left","roofs","told","layer"]
abbrev Ly:List Str:=["book","call"]
theorem Bz:ZW Gv Ly (YU DK):=XB
theorem Ki:Gv.Nodup:=Bz.nd
abbrev wo:Stmt:=XM 31
abbrev nr:List Str:=["_law_script","_law_many","_law_seed","_law_cell","_law_found","_law_k"]
abbrev oF:List Str:=["_law_script","_law_many"]
theorem mh:ZW nr oF (YU wo):=XB
theorem Hw:nr.Nodup:=mh.nd
abbrev wX:Stmt:=XM 32
abbrev kG:List Str:=["_law_many","_law_cell","_law_letters","_law_step","_law_origin","_law_stem","_law_at","_law_names_here","_law_k","_law_sign","_law_own","_law_turn"]
abbrev vG:List Str:=["_law_many","_law_cell"]
theorem jn:ZW kG vG (YU wX):=XB
theorem RK:kG.Nodup:=jn.nd
abbrev u7:Stmt:=XM 33
abbrev Ja:List Str:=["_law_cells","_law_names_here","_law_web_here","_law_k","_law_name","_law_left","_law_rest","_law_elders","_law_turn","_law_at"]
abbrev zZ:List Str:=["_law_cells","_law_names_here"]
theorem kQ:ZW Ja zZ (YU u7):=XB
theorem Qz:Ja.Nodup:=kQ.nd
abbrev LF:Stmt:=XM 34
abbrev Ex:List Str:=["_law_web_here","_law_up_here","_law_name","_law_elders","_law_own","_law_elder","_law_one"]
abbrev NH:List Str:=["_law_web_here"]
theorem Ek:ZW Ex NH (YU LF):=XB
theorem K1:Ex.Nodup:=Ek.nd
abbrev yu:Stmt:=XM 35
abbrev kC:List Str:=["_law_arm"]
theorem mj:ZW kC ["_law_arm"] (YU yu):=XB
theorem im:kC.Nodup:=mj.nd
abbrev vn:Stmt:=XM 36
abbrev mD:List Str:=["_law_cell","_law_names_here","_law_places","_law_call_here","_law_rest","_law_many","_law_place","_law_at","_law_by","_law_more"]
abbrev we:List Str:=["_law_cell","_law_names_here","_law_places"]
theorem mK:ZW mD we (YU vn):=XB
theorem Pd:mD.Nodup:=mK.nd
abbrev vL:Stmt:=XM 37
abbrev jU:List Str:=["_law_cells","_law_names_here","_law_up_here","_law_call_here","_law_titles","_law_rules_here","_law_k","_law_title","_law_rest","_law_kinds","_law_arm","_law_pool"]
abbrev r8:List Str:=["_law_cells","_law_names_here","_law_up_here","_law_call_here","_law_titles"]
theorem lE:ZW jU r8 (YU vL):=XB
theorem O5:jU.Nodup:=lE.nd
abbrev w4:Stmt:=XM 38
abbrev mu:List Str:=["_law_up_here","_law_kinds","_law_call_here","_law_k","_law_kind"]
abbrev AH:List Str:=["_law_up_here","_law_kinds","_law_call_here"]
theorem nv:ZW mu AH (YU w4):=XB
theorem kv:mu.Nodup:=nv.nd
abbrev uv:Stmt:=XM 39
abbrev kP:List Str:=["_law_up_here","_law_rules_here","_law_near_here","_law_name","_law_kinds"]
abbrev xx:List Str:=["_law_up_here","_law_rules_here"]
theorem nB:ZW kP xx (YU uv):=XB
theorem uD:kP.Nodup:=nB.nd
abbrev zy:Stmt:=XM 40
abbrev lh:List Str:=["_law_up_here","_law_rules_here","_law_deep","_law_name","_law_kinds","_law_turn","_law_one","_law_other"]
abbrev zh:List Str:=["_law_up_here","_law_rules_here"]
theorem lV:ZW lh zh (YU zy):=XB
theorem On:lh.Nodup:=lV.nd
abbrev A1:Stmt:=XM 41
abbrev lT:List Str:=["_law_up_here","_law_rules_here","_law_deep","_law_rows","_law_k","_law_row"]
abbrev Au:List Str:=["_law_up_here","_law_rules_here"]
theorem jy:ZW lT Au (YU A1):=XB
theorem Cu:lT.Nodup:=jy.nd
abbrev zp:Stmt:=XM 42
abbrev kq:List Str:=["_law_up_here","_law_rules_here","_law_names_here","_law_left","_law_near_here","_law_own"]
abbrev xZ:List Str:=["_law_up_here","_law_rules_here"]
theorem mw:ZW kq xZ (YU zp):=XB
theorem KO:kq.Nodup:=mw.nd
abbrev za:Stmt:=XM 43
abbrev kj:List Str:=["_law_book","_law_up_here","_law_call_here","_law_rules_here","_law_rows","_law_due","_law_turn","_law_found","_law_told_here"]
abbrev tU:List Str:=["_law_book","_law_up_here","_law_call_here"]
theorem ki:ZW kj tU (YU za):=XB
theorem Km:kj.Nodup:=ki.nd
abbrev AE:Stmt:=XM 44
abbrev lu:List Str:=["_law_ask","e","_law_told_here"]
theorem kW:ZW lu ["_law_ask"] (YU AE):=XB
theorem vV:lu.Nodup:=kW.nd
abbrev AA:Stmt:=XM 45
abbrev m8:List Str:=["_law_book","_law_call_here","_law_due"]
abbrev vH:List Str:=["_law_book","_law_call_here","_law_due"]
theorem ni:ZW m8 vH (YU AA):=XB
theorem jc:m8.Nodup:=ni.nd
abbrev S3:Stmt:=XM 46
abbrev JZ:List Str:=["_law_script","_law_cells","_law_places","_law_stand","_law_names_here","_law_odd","_law_web_here","_law_up_here","_law_calls","_law_rules_here","_law_book","_law_call_here","_law_worse"]
theorem IV:ZW JZ ["_law_script"] (YU S3):=XB
theorem Sf:JZ.Nodup:=IV.nd
theorem mF:(["name","elders"]:List Str).Nodup:=by decide +kernel
theorem jG:(["arm","name"]:List Str).Nodup:=by decide +kernel
theorem ig:(["arm","roofs"]:List Str).Nodup:=by decide +kernel
theorem kK:(["kind","roof"]:List Str).Nodup:=by decide +kernel
theorem mT:(["low","high","roofs"]:List Str).Nodup:=by decide +kernel
theorem iS:(["rule","call_roofs"]:List Str).Nodup:=by decide +kernel
theorem iq:(["rule","roofs","rules"]:List Str).Nodup:=by decide +kernel
theorem kM:(["name","kinds","rule","roofs"]:List Str).Nodup:=by decide +kernel
theorem jz:(["name","kinds"]:List Str).Nodup:=by decide +kernel
theorem wq:(["rule","own","roofs"]:List Str).Nodup:=by decide +kernel
theorem wd:(["rule","layer"]:List Str).Nodup:=by decide +kernel
theorem iR:(["_law_name","_law_names_here","_law_at","_law_by"]:List Str).Nodup:=by decide +kernel
theorem iY:(["_law_name","_law_up_here","_law_arm"]:List Str).Nodup:=by decide +kernel
theorem iL:(["_law_one","_law_name","_law_up_here"]:List Str).Nodup:=by decide +kernel
theorem lq:(["_law_one","_law_row"]:List Str).Nodup:=by decide +kernel
theorem iI:(["_law_name","_law_up_here","_law_kind"]:List Str).Nodup:=by decide +kernel
theorem kY:(["_law_one","_law_other","_law_up_here","_law_kinds"]:List Str).Nodup:=by decide +kernel
theorem jt:(["_law_name","_law_kinds","_law_deep","_law_k"]:List Str).Nodup:=by decide +kernel
theorem iy:(["_law_rule","_law_up_here","_law_own"]:List Str).Nodup:=by decide +kernel
theorem mo:(["_law_name","_law_kinds"]:List Str).Nodup:=by decide +kernel
theorem hG:(["_law_rule","_law_up_here","_law_call_here"]:List Str).Nodup:=by decide +kernel
theorem oo:(["_law_cell","_law_places","_law_names_here"]:List Str).Nodup:=by decide +kernel
theorem J9:(["_law_name","_law_elders"]:List Str).Nodup:=by decide +kernel
section
variable(P:Program)(w:World)(K:qC)(mg:Str->Option Value)(base:Heap)
abbrev yC:Prop:=Dn P w K mg base "names_of" ["web"] 1 (YM 1 JO)
abbrev zk:Prop:=Dn P w K mg base "names_in" ["arm"] 1 (YM 1 Wk)
abbrev mC:Prop:=Dn P w K mg base "check_kinds" Gs 2 (YM 2 FD)
abbrev FI:Prop:=Dn P w K mg base "roofs_of" ["web"] 1 (YM 1 R7)
abbrev Jy:Prop:=Dn P w K mg base "roof_of" AX 2 (YM 2 J2)
abbrev AC:Prop:=Dn P w K mg base "names_in_call" ["call"] 2 (YM 1 Kg)
abbrev lH:Prop:=Dn P w K mg base "check_call" IQ 3 (YM 3 CN)
abbrev mm:Prop:=Dn P w K mg base "roofs_in_call" rB 3 (YM 2 Gh)
abbrev lC:Prop:=Dn P w K mg base "fits_under" Al 1 (YM 2 Er)
abbrev tV:Prop:=Dn P w K mg base "is_nearer" Ah 1 (YM 3 Ow)
abbrev Dt:Prop:=Dn P w K mg base "rules_that_fit" D1 4 (YM 2 PJ)
abbrev C3:Prop:=Dn P w K mg base "nearest_of" pq 2 (YM 2 PP)
abbrev Ez:Prop:=Dn P w K mg base "rule_names" ["rules"] 1 (YM 1 Ta)
abbrev B5:Prop:=Dn P w K mg base "answer_by" ["names"] 1 (YM 1 K3)
abbrev k6:Prop:=Dn P w K mg base "answer_among" y7 3 (YM 2 C1)
abbrev IX:Prop:=Dn P w K mg base "nearest" Ir 5 (YM 2 CA)
abbrev me:Prop:=Dn P w K mg base "answer_of" Eu 6 (YM 2 Fl)
abbrev IK:Prop:=Dn P w K mg base "onward" Nk 5 (YM 3 K8)
abbrev m9:Prop:=Dn P w K mg base "_law_names" vG 1 (YM 2 Q8)
abbrev Hi:Prop:=Dn P w K mg base "_law_web" zZ 1 (YM 2 Kc)
abbrev Fo:Prop:=Dn P w K mg base "_law_up" NH 1 (YM 1 Ku)
abbrev De:Prop:=Dn P w K mg base "_law_parts" ["_law_arm"] 1 (YM 1 Wk)
abbrev km:Prop:=Dn P w K mg base "_law_call" we 1 (YM 3 Oi)
abbrev kF:Prop:=Dn P w K mg base "_law_rules" r8 2 (YM 5 K2)
abbrev F3:Prop:=Dn P w K mg base "_law_fits" AH 2 (YM 3 VA)
abbrev jV:Prop:=Dn P w K mg base "_law_near" xx 3 (YM 2 Ol)
abbrev kU:Prop:=Dn P w K mg base "_law_depths" zh 3 (YM 2 JB)
abbrev lw:Prop:=Dn P w K mg base "_law_layers" Au 4 (YM 2 GU)
abbrev kJ:Prop:=Dn P w K mg base "_law_chain" xZ 4 (YM 2 FY)
abbrev kz:Prop:=Dn P w K mg base "_law_right" tU 8 (YM 3 Rz)
abbrev lm(cl:Str->Addr):Prop:=yP P w K mg base "_law_told" "_law_ask" 10 9 (Qd cl Ql)
abbrev jK(cl:Str->Addr):Prop:=Qg P w K mg base "check_kinds" Gs 3 (VS cl 2 GY)
abbrev ly(cl:Str->Addr):Prop:=Qg P w K mg base "check_call" IQ 4 (VS cl 3 Dd)
abbrev zd(cl:Str->Addr):Prop:=Qg P w K mg base "rules_that_fit" D1 5 (VS cl 2 EX)
abbrev nw(cl:Str->Addr):Prop:=Qg P w K mg base "nearest" Ir 6 (VS cl 2 C8)
abbrev jP(cl:Str->Addr):Prop:=Qg P w K mg base "answer_of" Eu 7 (VS cl 2 CI)
abbrev j8(cl:Str->Addr):Prop:=Qg P w K mg base "chain" NK 8 (VS cl 2 La)
abbrev lK(cl:Str->Addr):Prop:=Qg P w K mg base "layers" Ly 6 (VS cl 2 Kr)
abbrev kO(PT:Addr):Prop:=Dn P w K mg base "_law_refused" vH 11 (RQ PT (("_law_refused":Str)++".<locals>."++"<lambda>") 3 QK)
abbrev Jk:Prop:=Dn P w K mg base "chain" ["book","call"] 7 (Nj 2 Ov)
abbrev Eo:Prop:=Dn P w K mg base "layers" ["book","call"] 5 (Nj 2 N4)
end
section
variable{P:Program}{w:World}{K:qC}{mg:Str->Option Value}{base:Heap}{f:Addr}{fd:Xl}{cl:Str->Addr}
theorem rl (F:Yw K "names_of" "names_of" Aw f fd) (T:Txt mg)  : Zu P w K mg base Yz 1 f fd ["web"] (YM 1 JO):=by
 refine F.ok jB (λvs H Q E h=>Xe h) (λb A a s H vs Q E d h=>?_);apply xi
 ·refine' Bx.out (Zf (Yf (T1 (Wm (N':=["name","elders"]) (own:=["name","elders"]) (fr:=[]) (by kernel_rfl)) rfl (XA (K:=K) rfl (bv 0)) ?hb1 (by intro _;rfl))))
  case hb1=>(intro cl C s H c;refine'⟨Bx.out (We (K:=K) (n:=2) rfl rfl (Yd (ZA (i:=0) mF) (Yd (ZA (i:=1) mF) Wb (by rfl)) (by rfl)) (by rfl) (by rfl)),Bx.out T2,Bx.out (bv 0)⟩)
 exact YG (f:=Es) ((R3 YS)) h
theorem nU (F:Yw K "names_in" "names_in" nG f fd) (T:Txt mg)  : Zu P w K mg base Yz 1 f fd ["arm"] (YM 1 Wk):=by
 refine F.ok kI (λvs H Q E h=>Xe h) (λb A a s H vs Q E c h=>?_);apply xi
 ·refine' Bx.out (Zx (Xh (VO (K:=K) rfl (YI (FF (K:=K) rfl) T.isinstance Mz (Z5 (bv 0) (Z5 (Jm (v:=.ty "tuple") (by rfl) T.tuple SJ rfl (by decide) (by decide)) ZS))) (λ_=>rfl)) (Zf (Yf (Xx (Kb (K:=K) rfl) T.list N0 (Z5 (bv 0) ZS)))) WW)
 (Zf (Yf (VM (Z5 (bv 0) ZS)))))
 exact YG (f:=tI) ((Y4 (Vz (UX (Rh YS uE)) Y9 V1) Y9)) h
theorem hH(F:Yw K "check_kinds" "check_kinds" C4 f fd)(T:Txt mg)(D_names_of:yC P w K mg base):Zu P w K mg base Yz 2 f fd Gs (YM 2 FD):=by
 refine F.ok zD (λvs H Q E h=>Xe h) (λb A a s H vs Q E c h=>?_);apply xi
 ·refine' Bx.out (Zx (Zq (i:=2) Df (Zv D_names_of c (Z5 (bv 0) ZS)))
 (Zf (Wp qh rfl (XA (K:=K) rfl (bv 1)) (ZA (i:=3) Df)
  (Zf (Xh (W9 (KN (K:=K) rfl) (bv 3) (bv 2) (by rfl)) (Zf CK) WW)) (by intro _;rfl))))
 exact YG (f:=F4) ((Y4 Y9 (VY W0 Wj (Vz Vk Du V1)))) h
theorem oa (F:Yw K "roofs_of" "roofs_of" vr f fd) (T:Txt mg)  : Zu P w K mg base Yz 1 f fd ["web"] (YM 1 R7):=by
 refine F.ok jq (λvs H Q E h=>Xe h) (λc A a s H vs Q E d h=>?_);have b:=RP d;apply xi
 ·refine' Bx.out (Zx (Zq (i:=1) Fi DH)
 (Zx (Wp qh rfl (XA (K:=K) rfl (bv 0)) (We (K:=K) (n:=2) rfl rfl (Yd (ZA (i:=2) Fi) (Yd (ZA (i:=3) Fi) Wb (by rfl)) (by rfl)) (by rfl) (by rfl))
  (Zx (Zq (i:=4) Fi (wJ (vJ (bv 2) UJ oV) rfl rfl (by simp) (by decide)))
 (Zx (Wp qh rfl (XA (K:=K) rfl (bv 3)) (ZA (i:=5) Fi)
  (Zf (WG (V7 (K:=K) rfl j6 kg jl GD (bv 4) (Z5 (RY b (bv 1) (bv 5) (λ_ _=>rfl)) ZS) (by rfl) (by rfl) (by rfl) (XD (by rfl)) (by rfl)) (by rfl))) (by intro _;rfl))
 (Zf (B8 b (bv 1) (bv 2) (bv 4) rfl)))) (by intro _;rfl))
 (Zf (Yf (bv 1)))))
 exact YG (f:=jY) ((Y4 Y9 (Y4 (VY W0 (S1 (W7 (W7 S7))) (Y4 (T8 (sW YS YS)) (Y4 (VY W0 Wj (IW YS)) (O1 YS YS)))) Q6))) h
theorem pR(F:Yw K "roof_of" "roof_of" vw f fd)(T:Txt mg)(D_names_in:zk P w K mg base):Zu P w K mg base Yz 2 f fd AX (YM 2 J2):=by
 refine F.ok lD (λvs H Q E h=>Xe h) (λd A a s H vs Q E b h=>?_);have c:=RP b;apply xi
 ·refine' Bx.out (Zx (Zq (i:=2) lF DH)
 (Zx (Wp qh rfl (XA (K:=K) rfl (Zv D_names_in b (Z5 (bv 1) ZS))) (ZA (i:=3) lF)
  (Zf (WG (V7 (K:=K) rfl j6 kg jl GD (bv 2) (Z5 (RY c (bv 0) (bv 3) (λ_ _=>rfl)) ZS) (by rfl) (by rfl) (by rfl) (XD (by rfl)) (by rfl)) (by rfl))) (by intro _;rfl))
 (Zf (Yf (bv 2)))))
 exact YG (f:=FZ) ((Y4 Y9 (Y4 (VY W0 Wj (IW YS)) Q6))) h
theorem iQ(F:Yw K "names_in_call" "names_in_call" pW f fd)(T:Txt mg)(D_names_in:zk P w K mg base):Zu P w K mg base Yz 2 f fd ["call"] (YM 1 Kg):=by
 refine F.ok nz (λvs H Q E h=>Xe h) (λb A a s H vs Q E c h=>?_);apply xi
 ·refine' Bx.out (Zf (Yf (nF (Wm (N':=["arm","name"]) (own:=["arm","name"]) (fr:=[]) (by kernel_rfl)) rfl (XA (K:=K) rfl (bv 0)) ?hb1 (by intro _;rfl) (by intro _ _;rfl))))
  case hb1=>(intro cl C s H d;refine'⟨Bx.out (ZA (i:=0) jG),Bx.out T2,Bx.out (XA (K:=K) rfl (Zv D_names_in c (Z5 (bv 0) ZS))),Bx.out (ZA (i:=1) jG),Bx.out T2,Bx.out (bv 1)⟩)
 exact YG (f:=l6) ((R3 (zx (k:=1) W0 Wj (Fd (by decide) (by decide)) (by decide) Ln W0 Wj (Fd (by decide) (by decide)) Ln YS))) h
theorem pG(F:Yw K "check_call" "check_call" Dy f fd)(T:Txt mg)(D_check_kinds:mC P w K mg base)(D_names_in_call:AC P w K mg base):Zu P w K mg base Yz 3 f fd IQ (YM 3 CN):=by
 refine F.ok yw (λvs H Q E h=>Xe h) (λc A a s H vs Q E b h=>?_);apply xi
 ·refine' Bx.out (Zx (Xh (W9 (Qj (K:=K) rfl b.units) (YI (UK (K:=K) rfl) T.len U6 (Z5 (bv 2) ZS)) (bv 1) (WN _)) (Zf CK) WW)
 (Zf (WG (Zv D_check_kinds b (Z5 (bv 0) (Z5 (Zv D_names_in_call b (Z5 (bv 2) ZS)) ZS))) (by rfl))))
 exact YG (f:=kh) ((Y4 (Vz Vk Du V1) (Ig YS))) h
theorem je(F:Yw K "roofs_in_call" "roofs_in_call" vf f fd)(T:Txt mg)(D_roof_of:Jy P w K mg base):Zu P w K mg base Yz 3 f fd rB (YM 2 Gh):=by
 refine F.ok jQ (λvs H Q E h=>Xe h) (λb A a s H vs Q E c h=>?_);apply xi
 ·refine' Bx.out (Zf (Yf (T1 (Wm (N':=["arm","roofs"]) (own:=["arm"]) (fr:=[0]) (by kernel_rfl)) rfl (XA (K:=K) rfl (bv 1)) ?hb1 (by intro _;rfl))))
  case hb1=>(intro cl C s H d;refine'⟨Bx.out (ZA (i:=0) ig),Bx.out T2,Bx.out (Zv D_roof_of c (Z5 (bv 1) (Z5 (bv 0) ZS)))⟩)
 exact YG (f:=m4) ((R3 YS)) h
theorem uG (F:Yw K "fits_under" "fits_under" zt f fd) (T:Txt mg)  : Zu P w K mg base Yz 1 f fd Al (YM 2 Er):=by
 refine F.ok ko (λvs H Q E h=>Xe h) (λd A a s H vs Q E b h=>?_);have c:=RP b;apply xi
 ·refine' Bx.out (Zf (Yf (YI (J7 (K:=K) rfl rfl) T.all GP (Z5 (T1 (Wm (N':=["kind","roof"]) (own:=["kind","roof"]) (fr:=[]) (by kernel_rfl)) rfl (FE (K:=K) rfl rfl T.zip (Z5 (bv 0) (Z5 (bv 1) ZS)) (by rfl) (by rfl)) ?hb1 (by intro _;rfl)) ZS))))
  case hb1=>(intro cl C s H e;refine'⟨Bx.out (We (K:=K) (n:=2) rfl rfl (Yd (ZA (i:=0) kK) (Yd (ZA (i:=1) kK) Wb (by rfl)) (by rfl)) (by rfl) (by rfl)),Bx.out T2,Bx.out (J0 (E4 c (bv 0) (bv 1)) (by rfl))⟩)
 exact YG (f:=mI) ((R3 YS)) h
theorem pU (F:Yw K "is_nearer" "is_nearer" uU f fd) (T:Txt mg)  : Zu P w K mg base Yz 1 f fd Ah (YM 3 Ow):=by
 refine F.ok kE (λvs H Q E h=>Xe h) (λd A a s H vs Q E b h=>?_);have c:=RP b;apply xi
 ·refine' Bx.out (Zf (Yf (MV (Le (Qj (K:=K) rfl b.units) (bv 1) (bv 2) (WN _)) (M2 (YI (J7 (K:=K) rfl rfl) T.all GP (Z5 (T1 (Wm (N':=["low","high","roofs"]) (own:=["low","high"]) (fr:=[0]) (by kernel_rfl)) rfl (FE (K:=K) rfl rfl T.zip (Z5 (bv 1) (Z5 (bv 2) ZS)) (by rfl) (by rfl)) ?hb1 (by intro _;rfl)) ZS))))))
  case hb1=>(intro cl C s H e;refine'⟨Bx.out (We (K:=K) (n:=2) rfl rfl (Yd (ZA (i:=0) mT) (Yd (ZA (i:=1) mT) Wb (by rfl)) (by rfl)) (by rfl) (by rfl)),Bx.out T2,Bx.out (J0 (E4 c (bv 1) (RY c (bv 2) (bv 0) (λ_ _=>rfl))) (by rfl))⟩)
 exact YG (f:=mz) ((R3 YS)) h
theorem iG(F:Yw K "rules_that_fit" "rules_that_fit" CT f fd)(T:Txt mg)(D_check_call:lH P w K mg base)(D_fits_under:lC P w K mg base)(D_roofs_in_call:mm P w K mg base)(D_roofs_of:FI P w K mg base):Zu P w K mg base Yz 4 f fd D1 (YM 2 PJ):=by
 refine F.ok uu (λvs H Q E h=>Xe h) (λc A b s H vs Q E a h=>?_);apply xi
 ·refine' Bx.out (Zx (MB (bv 0) (We (K:=K) (n:=3) rfl rfl (Yd (ZA (i:=2) M1) (Yd (ZA (i:=3) M1) (Yd (ZA (i:=4) M1) Wb (by rfl)) (by rfl)) (by rfl)) (by rfl) (by rfl)) (by rfl) (by rfl) (by rfl))
 (Zx (WG (Zv D_check_call a (Z5 (bv 2) (Z5 (bv 3) (Z5 (bv 1) ZS)))) (by rfl))
 (Zx (XS (i:=5) M1 rfl (Or.inr rfl) (Zv D_roofs_in_call a (Z5 (Zv D_roofs_of a (Z5 (bv 2) ZS)) (Z5 (bv 1) ZS))))
 (Zf (Yf (T1 (Wm (N':=["rule","call_roofs"]) (own:=["rule"]) (fr:=[5]) (by kernel_rfl)) rfl (XA (K:=K) rfl (bv 4)) ?hb1 (by intro _;rfl)))))))
  case hb1=>(intro cl C s H d;refine'⟨Bx.out (ZA (i:=0) iS),Bx.out (Qm (VO (K:=K) rfl (Zv D_fits_under a (Z5 (Zg (Ym (K:=K) rfl) (bv 0) Zn) (Z5 (bv 1) ZS))) (λ_=>rfl))),Bx.out (bv 0)⟩)
 exact YG (f:=kR) ((Y4 (Lu YS (S1 (W7 (W7 (W7 S7))))) (Y4 (Ig YS) (Y4 Y9 (R3 (Pj W0 Wj (Oj (by decide)) (UX YS) YS)))))) h
theorem rL(F:Yw K "nearest_of" "nearest_of" uB f fd)(T:Txt mg)(D_is_nearer:tV P w K mg base):Zu P w K mg base Yz 2 f fd pq (YM 2 PP):=by
 refine F.ok k7 (λvs H Q E h=>Xe h) (λb A a s H vs Q E d h=>?_);apply xi
 ·refine' Bx.out (Zf (Yf (T1 (Wm (N':=["rule","roofs","rules"]) (own:=["rule"]) (fr:=[0,1]) (by kernel_rfl)) rfl (XA (K:=K) rfl (bv 1)) ?hb1 (by intro _;rfl))))
  case hb1=>(intro cl C s H c;refine'⟨Bx.out (Wn (i:=0) iq rfl (Or.inr rfl)),Bx.out (Qm (RA (VO (K:=K) rfl (YI (Dv (K:=K) rfl rfl) T.any Cd (Z5 (T1 (Wm (N':=["name","kinds","rule","roofs"]) (own:=["name","kinds"]) (fr:=[0,1]) (by kernel_rfl)) rfl (XA (K:=K) rfl (bv 2)) ?hb2 (by intro _;rfl)) ZS)) (λ_=>rfl)))),Bx.out (bv 0)⟩;case hb2=>(intro cl C s H c;refine'⟨Bx.out (We (K:=K) (n:=2) rfl rfl (Yd (ZA (i:=0) kM) (Yd (ZA (i:=1) kM) Wb (by rfl)) (by rfl)) (by rfl) (by rfl)),Bx.out T2,Bx.out (Zv D_is_nearer d (Z5 (bv 3) (Z5 (bv 1) (Z5 (Zg (Ym (K:=K) rfl) (bv 2) Zn) ZS))))⟩))
 exact YG (f:=mn) ((R3 (Pj W0 Wj (Oj (by decide)) (Of (UX YS)) YS))) h
theorem Ax (F:Yw K "rule_names" "rule_names" uR f fd) (T:Txt mg)  : Zu P w K mg base Yz 1 f fd ["rules"] (YM 1 Ta):=by
 refine F.ok jx (λvs H Q E h=>Xe h) (λb A a s H vs Q E d h=>?_);apply xi
 ·refine' Bx.out (Zf (Yf (T1 (Wm (N':=["name","kinds"]) (own:=["name","kinds"]) (fr:=[]) (by kernel_rfl)) rfl (XA (K:=K) rfl (bv 0)) ?hb1 (by intro _;rfl))))
  case hb1=>(intro cl C s H c;refine'⟨Bx.out (We (K:=K) (n:=2) rfl rfl (Yd (ZA (i:=0) jz) (Yd (ZA (i:=1) jz) Wb (by rfl)) (by rfl)) (by rfl) (by rfl)),Bx.out T2,Bx.out (bv 0)⟩)
 exact YG (f:=m7) ((R3 YS)) h
theorem rO (F:Yw K "answer_by" "answer_by" xr f fd) (T:Txt mg)  : Zu P w K mg base Yz 1 f fd ["names"] (YM 1 K3):=by
 refine F.ok kX (λvs H Q E h=>Xe h) (λb A a s H vs Q E c h=>?_);apply xi
 ·refine' Bx.out (Zx (Xh (RA (VO (K:=K) rfl (bv 0) (λ_=>rfl))) (Zf (Yf (Wl (Z5 Uz ZS)))) WW)
 (Zx (Xh (W9 (Sa (K:=K) rfl c.units) (YI (UK (K:=K) rfl) T.len U6 (Z5 (bv 0) ZS)) Zn (WN _)) (Zf (Yf (Wl (Z5 Uz (Z5 (Zg (Ym (K:=K) rfl) (bv 0) Zn) ZS))))) WW)
 (Zf (Yf (Wl (Z5 Uz (Z5 (Xx (Rc (K:=K) rfl) T.tuple SJ (Z5 (bv 0) ZS)) ZS)))))))
 exact YG (f:=m3) ((Y4 (Vz (Of (UX YS)) Y9 V1) Y9)) h
theorem hU(F:Yw K "answer_among" "answer_among" sD f fd)(T:Txt mg)(D_answer_by:B5 P w K mg base)(D_nearest_of:C3 P w K mg base)(D_rule_names:Ez P w K mg base):Zu P w K mg base Yz 3 f fd y7 (YM 2 C1):=by
 refine F.ok kL (λvs H Q E h=>Xe h) (λc A a s H vs Q E b h=>?_);apply xi
 ·refine' Bx.out (Zf (Yf (Zv D_answer_by b (Z5 (Zv D_rule_names b (Z5 (Zv D_nearest_of b (Z5 (bv 0) (Z5 (bv 1) ZS))) ZS)) ZS))))
 exact YG (f:=l8) ((R3 YS)) h
theorem va(F:Yw K "nearest" "nearest" CO f fd)(T:Txt mg)(D_nearest_of:C3 P w K mg base)(D_roofs_of:FI P w K mg base)(D_rule_names:Ez P w K mg base)(D_rules_that_fit:Dt P w K mg base):Zu P w K mg base Yz 5 f fd Ir (YM 2 CA):=by
 refine F.ok o5 (λvs H Q E h=>Xe h) (λc A b s H vs Q E a h=>?_);apply xi
 ·refine' Bx.out (Zx (Zq (i:=2) mi (Zv D_rules_that_fit a (Z5 (bv 0) (Z5 (bv 1) ZS))))
 (Zf (Yf (Zv D_rule_names a (Z5 (Zv D_nearest_of a (Z5 (Zv D_roofs_of a (Z5 (Zg (Ym (K:=K) rfl) (bv 0) Zn) ZS)) (Z5 (bv 2) ZS))) ZS)))))
 exact YG (f:=F9) ((Y4 Y9 Y9)) h
theorem sY(F:Yw K "answer_of" "answer_of" Dp f fd)(T:Txt mg)(D_answer_by:B5 P w K mg base)(D_nearest:IX P w K mg base):Zu P w K mg base Yz 6 f fd Eu (YM 2 Fl):=by
 refine F.ok sP (λvs H Q E h=>Xe h) (λc A a s H vs Q E b h=>?_);apply xi
 ·refine' Bx.out (Zf (Yf (Zv D_answer_by b (Z5 (Zv D_nearest b (Z5 (bv 0) (Z5 (bv 1) ZS))) ZS))))
 exact YG (f:=mV) ((R3 YS)) h
theorem xR(F:Yw K "onward" "onward" M3 f fd)(T:Txt mg)(D_answer_among:k6 P w K mg base)(D_is_nearer:tV P w K mg base)(D_roofs_of:FI P w K mg base)(D_rule_names:Ez P w K mg base)(D_rules_that_fit:Dt P w K mg base):Zu P w K mg base Yz 5 f fd Nk (YM 3 K8):=by
 refine F.ok Gr (λvs H Q E h=>Xe h) (λd A b s H vs Q E a h=>?_);have c:=RP a;apply xi
 ·refine' Bx.out (Zx (MB (bv 0) (We (K:=K) (n:=3) rfl rfl (Yd (ZA (i:=3) Kk) (Yd (ZA (i:=4) Kk) (Yd (ZA (i:=5) Kk) Wb (by rfl)) (by rfl)) (by rfl)) (by rfl) (by rfl)) (by rfl) (by rfl) (by rfl))
 (Zx (Xh (W9 (KN (K:=K) rfl) (bv 2) (Zv D_rule_names a (Z5 (bv 5) ZS)) (by rfl)) (Zf CK) WW)
 (Zx (Zq (i:=6) Kk (Zv D_rules_that_fit a (Z5 (bv 0) (Z5 (bv 1) ZS))))
 (Zx (Xh (W9 (KN (K:=K) rfl) (bv 2) (Zv D_rule_names a (Z5 (bv 6) ZS)) (by rfl)) (Zf CK) WW)
 (Zx (XS (i:=7) Kk rfl (Or.inr rfl) (RY c (Xx (pb rfl) T.dict oB (Z5 (bv 6) ZS)) (bv 2) (λ_ _=>rfl)))
 (Zx (XS (i:=8) Kk rfl (Or.inr rfl) (Zv D_roofs_of a (Z5 (bv 3) ZS)))
 (Zf (Yf (Zv D_answer_among a (Z5 (bv 8) (Z5 (T1 (Wm (N':=["rule","own","roofs"]) (own:=["rule"]) (fr:=[7,8]) (by kernel_rfl)) rfl (XA (K:=K) rfl (bv 6)) ?hb1 (by intro _;rfl)) ZS)))))))))))
  case hb1=>(intro cl C s H e;refine'⟨Bx.out (ZA (i:=0) wq),Bx.out (Qm (VO (K:=K) rfl (Zv D_is_nearer a (Z5 (bv 2) (Z5 (bv 1) (Z5 (Zg (Ym (K:=K) rfl) (bv 0) Zn) ZS)))) (λ_=>rfl))),Bx.out (bv 0)⟩)
 exact YG (f:=I0) ((Y4 (Lu YS (S1 (W7 (W7 (W7 S7))))) (Y4 (Vz Vk Du V1) (Y4 Y9 (Y4 (Vz Vk Du V1) (Y4 (T8 (sZ (MP nV TQ) YS)) (Y4 Y9 (R3 (Ot (U4 YS (U4 (Pj W0 Wj (Oj (by decide)) (UX YS) YS) Tf))))))))))) h
theorem uf (F:Yw K "_law_names" "_law_names" wX f fd) (T:Txt mg)  : Zu P w K mg base Yz 1 f fd vG (YM 2 Q8):=by
 refine F.ok jn (λvs H Q E h=>Xe h) (λc A a s H vs Q E b h=>?_);apply xi
 ·refine' Bx.out (Zx (Zq (i:=2) RK Uz)
 (Zx (Zq (i:=3) RK (Zg (Ym (K:=K) rfl) (Wl (Z5 Zn (Z5 Zn (Z5 Zn (Z5 Zn (Z5 Zn (Z5 Zn (Z5 Zn (Z5 Zn ZS))))))))) (YX Xm (YX UT (bv 1) Zn) Zn)))
 (Zx (Zq (i:=4) RK (YX Xm (YX UT (bv 1) Zn) Zn))
 (Zx (Zq (i:=5) RK (YX QX (Zg (Ym (K:=K) rfl) (bv 2) (YX Xm (YX UT (bv 1) Zn) Zn)) (YX Xm (YX UT (bv 1) Zn) Zn)))
 (Zx (Zq (i:=6) RK (YX Xm (YX UT (bv 1) Zn) (YX (V8 (K:=K) rfl) (YI (UK (K:=K) rfl) T.len U6 (Z5 (bv 5) ZS)) Zn)))
 (Zx (Zq (i:=7) RK (VM ZS))
 (Zx (Wp qh rfl (Kz rfl T.range (Z5 (bv 0) ZS) (by rfl)) (ZA (i:=8) RK)
  (Zx (Zq (i:=9) RK (Zg (Ym (K:=K) rfl) (bv 2) (YX Xm (YX (V8 (K:=K) rfl) (bv 4) (YX QX (bv 3) (bv 8))) Zn)))
 (Zf (Xh (W9 (Sa (K:=K) rfl b.units) (YX Xm (bv 1) Zn) Zn (WN _)) (Zf (WG (V7 (K:=K) rfl qP qS qR Wa (bv 7) (Z5 (YX (V8 (K:=K) rfl) (YX (V8 (K:=K) rfl) (Ti (T9 (K:=K) rfl) (bv 5) Rn (U7 (bv 6))) (bv 9)) (Ti (T9 (K:=K) rfl) (bv 5) (U7 (bv 6)) Rn)) ZS) (by rfl) (by rfl) (by rfl) (XD (by rfl)) (by rfl)) (by rfl))) (Zf (Xh (W9 (Sa (K:=K) rfl b.units) (YX Xm (bv 1) Zn) Zn (WN _)) (Zf (WG (V7 (K:=K) rfl qP qS qR Wa (bv 7) (Z5 (YX (V8 (K:=K) rfl) (Ti (T9 (K:=K) rfl) (bv 5) Rn (U7 (YX Xm (YX QX (bv 8) (bv 3)) (YX (V8 (K:=K) rfl) (YI (UK (K:=K) rfl) T.len U6 (Z5 (bv 5) ZS)) Zn)))) (bv 9)) ZS) (by rfl) (by rfl) (by rfl) (XD (by rfl)) (by rfl)) (by rfl))) (Zf (WG (V7 (K:=K) rfl qP qS qR Wa (bv 7) (Z5 (YX QX (Zg (Ym (K:=K) rfl) (bv 2) (YX Xm (YX (V8 (K:=K) rfl) (bv 4) (YX UT (bv 8) Zn)) Zn)) (YX (V8 (K:=K) rfl) Zn (YX Xm (YX QX (bv 8) (bv 3)) Zn))) ZS) (by rfl) (by rfl) (by rfl) (XD (by rfl)) (by rfl)) (by rfl)))))))) (by intro _;rfl))
 (Zx (Xh (W9 (Sa (K:=K) rfl b.units) (YX Xm (YX UT (bv 1) Zn) Zn) Zn (WN _)) (Zx (Zq (i:=10) RK (VM (Z5 Uz (Z5 Uz (Z5 Uz (Z5 Uz (Z5 Uz (Z5 Uz ZS))))))))
 (Zx (Zq (i:=11) RK (YX Xm (YX UT (bv 1) Zn) Zn))
 (Zf (Zq (i:=7) RK (Ti (T9 (K:=K) rfl) (YX (V8 (K:=K) rfl) (YX (V8 (K:=K) rfl) (Ti (T9 (K:=K) rfl) (bv 10) (U7 (bv 11)) Rn) (Ti (T9 (K:=K) rfl) (bv 10) Rn (U7 (bv 11)))) (Ti (T9 (K:=K) rfl) (bv 7) (U7 Zn) Rn)) Rn (U7 (bv 0))))))) WW)
 (Zf (Yf (bv 7)))))))))))
 exact YG (f:=zL) ((Y4 Y9 (Y4 (T8 YS) (Y4 Y9 (Y4 Y9 (Y4 Y9 (Y4 Y9 (Y4 (VY W0 Wj (Y4 Y9 (Vz Vk Y9 (Vz Vk Y9 Y9)))) (Y4 (Vz Vk (Y4 Y9 Y9) V1) Q6))))))))) h
theorem vR (F:Yw K "_law_web" "_law_web" u7 f fd) (T:Txt mg)  : Zu P w K mg base Yz 1 f fd zZ (YM 2 Kc):=by
 refine F.ok kQ (λvs H Q E h=>Xe h) (λb A a s H vs Q E c h=>?_);apply xi
 ·refine' Bx.out (Zx (Zq (i:=2) Qz (VM ZS))
 (Zx (Wp qh rfl (vg (K:=K) rfl rfl T.enumerate (Z5 (bv 1) ZS) (by rfl)) (We (K:=K) (n:=2) rfl rfl (Yd (ZA (i:=3) Qz) (Yd (ZA (i:=4) Qz) Wb (by rfl)) (by rfl)) (by rfl) (by rfl))
  (Zx (Zq (i:=5) Qz (Ti (T9 (K:=K) rfl) (bv 1) Rn (U7 (bv 3))))
 (Zx (Zq (i:=6) Qz (YX UT (Zg (Ym (K:=K) rfl) (bv 0) (bv 3)) Zn))
 (Zx (Zq (i:=7) Qz (VM ZS))
 (Zx (Wp qh rfl (Kz rfl T.range (Z5 (YI (vS rfl) T.min wh (Z5 (YX Xm (Zg (Ym (K:=K) rfl) (bv 0) (bv 3)) Zn) (Z5 (bv 3) ZS))) ZS) (by rfl)) (ZA (i:=8) Qz)
  (Zx (Zq (i:=9) Qz (YX Xm (bv 6) (YI (UK (K:=K) rfl) T.len U6 (Z5 (bv 5) ZS))))
 (Zx (Zq (i:=6) Qz (YX UT (bv 6) (YI (UK (K:=K) rfl) T.len U6 (Z5 (bv 5) ZS))))
 (Zf (WG (V7 (K:=K) rfl qP qS qR Wa (bv 7) (Z5 (V7 (K:=K) rfl qP PySem.F.slot_list_pop PySem.F.type_list_pop sT (bv 5) (Z5 (bv 9) ZS) (by rfl) (by rfl) (by rfl) (XD (by rfl)) (by rfl)) ZS) (by rfl) (by rfl) (by rfl) (XD (by rfl)) (by rfl)) (by rfl))))) (by intro _;rfl))
 (Zf (WG (V7 (K:=K) rfl qP qS qR Wa (bv 2) (Z5 (Wl (Z5 (bv 4) (Z5 (bv 7) ZS))) ZS) (by rfl) (by rfl) (by rfl) (XD (by rfl)) (by rfl)) (by rfl))))))) (by intro _;rfl))
 (Zf (Yf (bv 2)))))
 exact YG (f:=H9) ((Y4 Y9 (Y4 (VY W0 (S1 (W7 (W7 S7))) (Y4 Y9 (Y4 Y9 (Y4 Y9 (Y4 (VY (Ew (U4 (MP Bj TQ) Tf)) Wj (Y4 Y9 (Y4 Y9 (xn YS)))) Y9))))) Q6))) h
theorem wx (F:Yw K "_law_up" "_law_up" LF f fd) (T:Txt mg)  : Zu P w K mg base Yz 1 f fd NH (YM 1 Ku):=by
 refine F.ok Ek (λvs H Q E h=>Xe h) (λc A a s H vs Q E d h=>?_);have b:=RP d;apply xi
 ·refine' Bx.out (Zx (Zq (i:=1) K1 DH)
 (Zx (Wp qh rfl (XA (K:=K) rfl (bv 0)) (We (K:=K) (n:=2) rfl rfl (Yd (ZA (i:=2) K1) (Yd (ZA (i:=3) K1) Wb (by rfl)) (by rfl)) (by rfl) (by rfl))
  (Zx (Zq (i:=4) K1 (VM (Z5 (bv 2) ZS)))
 (Zx (Wp qh rfl (XA (K:=K) rfl (bv 3)) (ZA (i:=5) K1)
  (Zf (Wp qh rfl (XA (K:=K) rfl (RY b (bv 1) (bv 5) (λ_ _=>rfl))) (ZA (i:=6) K1)
  (Zf (Xh (W9 (KN (K:=K) rfl) (bv 6) (bv 4) (by rfl)) (Zf (WG (V7 (K:=K) rfl qP qS qR Wa (bv 4) (Z5 (bv 6) ZS) (by rfl) (by rfl) (by rfl) (XD (by rfl)) (by rfl)) (by rfl))) WW)) (by intro _;rfl))) (by intro _;rfl))
 (Zf (B8 b (bv 1) (bv 2) (bv 4) rfl)))) (by intro _;rfl))
 (Zf (Yf (bv 1)))))
 exact YG (f:=JU) ((Y4 Y9 (Y4 (VY W0 (S1 (W7 (W7 S7))) (Y4 Y9 (Y4 Y9 (O1 YS YS)))) Q6))) h
theorem zV (F:Yw K "_law_parts" "_law_parts" yu f fd) (T:Txt mg)  : Zu P w K mg base Yz 1 f fd ["_law_arm"] (YM 1 Wk):=by
 refine F.ok mj (λvs H Q E h=>Xe h) (λb A a s H vs Q E c h=>?_);apply xi
 ·refine' Bx.out (Zx (Xh (VO (K:=K) rfl (YI (FF (K:=K) rfl) T.isinstance Mz (Z5 (bv 0) (Z5 (Jm (v:=.ty "tuple") (by rfl) T.tuple SJ rfl (by decide) (by decide)) ZS))) (λ_=>rfl)) (Zf (Yf (Xx (Kb (K:=K) rfl) T.list N0 (Z5 (bv 0) ZS)))) WW)
 (Zf (Yf (VM (Z5 (bv 0) ZS)))))
 exact YG (f:=tI) ((Y4 (Vz (UX (Rh YS uE)) Y9 V1) Y9)) h
theorem xc (F:Yw K "_law_call" "_law_call" vn f fd) (T:Txt mg)  : Zu P w K mg base Yz 1 f fd we (YM 3 Oi):=by
 refine F.ok mK (λvs H Q E h=>Xe h) (λc A a s H vs Q E b h=>?_);apply xi
 ·refine' Bx.out (Zx (Zq (i:=3) Pd (VM ZS))
 (Zx (Zq (i:=4) Pd (bv 0))
 (Zx (Zq (i:=5) Pd (YI (UK (K:=K) rfl) T.len U6 (Z5 (bv 1) ZS)))
 (Zx (Wp qh rfl (Kz rfl T.range (Z5 (bv 2) ZS) (by rfl)) (ZA (i:=6) Pd)
  (Zx (XS (i:=7) Pd rfl (Or.inr rfl) (YX Xm (bv 4) (bv 5)))
 (Zx (Zq (i:=4) Pd (YX UT (bv 4) (bv 5)))
 (Zx (Xh (W9 (Sa (K:=K) rfl b.units) (YX Xm (bv 4) Zn) Zn (WN _)) (Zf (WG (V7 (K:=K) rfl qP qS qR Wa (bv 3) (Z5 (Wl (Z5 (Zg (Ym (K:=K) rfl) (bv 1) (YX MN (YX MN (bv 5) Zn) (bv 7))) ZS)) ZS) (by rfl) (by rfl) (by rfl) (XD (by rfl)) (by rfl)) (by rfl))) (Zf (Xh (DN (W9 (Sa (K:=K) rfl b.units) (YX Xm (bv 4) Zn) Zn (WN _)) (o9 (W9 PK (bv 5) Zn (WN _)))).pt (Zx (XS (i:=8) Pd rfl (Or.inr rfl) (YX Xm (YX (V8 (K:=K) rfl) (YX (V8 (K:=K) rfl) (bv 7) Zn) (YX Xm (YX UT (bv 4) Zn) (YX MN (bv 5) Zn))) (bv 5)))
 (Zx (Mu (i:=9) (Wm (N':=["_law_name","_law_names_here","_law_at","_law_by"]) (own:=["_law_name"]) (fr:=[1,7,8]) (by kernel_rfl)) rfl (XA (K:=K) rfl (Ti (T9 (K:=K) rfl) (bv 1) (U7 (YX MN (bv 5) (YX Xm (bv 4) Zn))) Rn)) ?hb1 (by rfl) Pd rfl rfl (by intro _;rfl))
 (Zf (WG (V7 (K:=K) rfl qP qS qR Wa (bv 3) (Z5 (Xx (Rc (K:=K) rfl) T.tuple SJ (Z5 (YX (V8 (K:=K) rfl) (VM (Z5 (Zg (Ym (K:=K) rfl) (bv 1) (bv 7)) (Z5 (Zg (Ym (K:=K) rfl) (bv 1) (bv 8)) ZS))) (bv 9)) ZS)) ZS) (by rfl) (by rfl) (by rfl) (XD (by rfl)) (by rfl)) (by rfl))))) (Zf (WG (V7 (K:=K) rfl qP qS qR Wa (bv 3) (Z5 (Zg (Ym (K:=K) rfl) (bv 1) (YX MN (YX MN (bv 5) Zn) (bv 7))) ZS) (by rfl) (by rfl) (by rfl) (XD (by rfl)) (by rfl)) (by rfl))))))
 (Zf (Zq (i:=4) Pd (YX UT (bv 4) (YX QX Zn (bv 5)))))))) (by intro _;rfl))
 (Zf (Yf (Xx (Rc (K:=K) rfl) T.tuple SJ (Z5 (bv 3) ZS))))))))
  case hb1=>(intro cl C s H d;refine'⟨Bx.out (ZA (i:=0) iR),Bx.out (Qm (W9 (KN (K:=K) rfl) (bv 0) (Wl (Z5 (Zg (Ym (K:=K) rfl) (bv 1) (bv 2)) (Z5 (Zg (Ym (K:=K) rfl) (bv 1) (bv 3)) ZS))) (by rfl))),Bx.out (bv 0)⟩)
 exact YG (f:=l5) ((Y4 Y9 (Y4 Y9 (Y4 Y9 (Y4 (VY W0 Wj (Y4 Y9 (Y4 Y9 (Y4 (Vz Vk Y9 (Vz Vk (Y4 Y9 (Y4 Y9 Y9)) Y9)) Y9)))) Y9))))) h
theorem AM(F:Yw K "_law_rules" "_law_rules" vL f fd)(T:Txt mg)(D_law_parts:De P w K mg base):Zu P w K mg base Yz 2 f fd r8 (YM 5 K2):=by
 refine F.ok lE (λvs H Q E h=>Xe h) (λe A b s H vs Q E a h=>?_);have d:=RP a;apply xi
 ·refine' Bx.out (Zx (Zq (i:=5) O5 (VM ZS))
 (Zx (Wp qh rfl (vg (K:=K) rfl rfl T.enumerate (Z5 (bv 4) ZS) (by rfl)) (We (K:=K) (n:=2) rfl rfl (Yd (ZA (i:=6) O5) (Yd (ZA (i:=7) O5) Wb (by rfl)) (by rfl)) (by rfl) (by rfl))
  (Zx (Zq (i:=8) O5 (YX UT (Zg (Ym (K:=K) rfl) (bv 0) (bv 6)) Zn))
 (Zx (Zq (i:=9) O5 (VM ZS))
 (Zx (Wp qh rfl (XA (K:=K) rfl (bv 3)) (Wn (i:=10) O5 rfl (Or.inr rfl))
  (Zx (Zq (i:=11) O5 (bv 1))
 (Zx (Xh (W9 PK (YX Xm (Zg (Ym (K:=K) rfl) (bv 0) (bv 6)) Zn) Zn (WN _)) (Zf (Mu (i:=11) (Wm (N':=["_law_name","_law_up_here","_law_arm"]) (own:=["_law_name"]) (fr:=[2,10]) (by kernel_rfl)) rfl (XA (K:=K) rfl (bv 1)) ?hb1 (by rfl) O5 rfl rfl (by intro _;rfl))) WW)
 (Zx (WG (V7 (K:=K) rfl qP qS qR Wa (bv 9) (Z5 (Zg (Ym (K:=K) rfl) (bv 11) (YX Xm (bv 8) (YI (UK (K:=K) rfl) T.len U6 (Z5 (bv 11) ZS)))) ZS) (by rfl) (by rfl) (by rfl) (XD (by rfl)) (by rfl)) (by rfl))
 (Zf (Zq (i:=8) O5 (YX UT (bv 8) (YI (UK (K:=K) rfl) T.len U6 (Z5 (bv 11) ZS)))))))) (by intro _;rfl))
 (Zf (Xh (W9 (Hb (K:=K) rfl a.units) (Xx (Rc (K:=K) rfl) T.tuple SJ (Z5 (bv 9) ZS)) (T1 (Wm (N':=["_law_one","_law_row"]) (own:=["_law_one","_law_row"]) (fr:=[]) (by kernel_rfl)) rfl (XA (K:=K) rfl (bv 5)) ?hb3 (by intro _;rfl)) (by rfl)) (Zf (WG (V7 (K:=K) rfl qP qS qR Wa (bv 5) (Z5 (Wl (Z5 (bv 7) (Z5 (Xx (Rc (K:=K) rfl) T.tuple SJ (Z5 (bv 9) ZS)) ZS))) ZS) (by rfl) (by rfl) (by rfl) (XD (by rfl)) (by rfl)) (by rfl))) WW))))) (by intro _;rfl))
 (Zf (Yf (bv 5)))))
  case hb1=>(intro cl C s H c;refine'⟨Bx.out (Wn (i:=0) iY rfl (Or.inr rfl)),Bx.out (Qm (VO (K:=K) rfl (YI (Dv (K:=K) rfl rfl) T.any Cd (Z5 (T1 (Wm (N':=["_law_one","_law_name","_law_up_here"]) (own:=["_law_one"]) (fr:=[0,1]) (by kernel_rfl)) rfl (XA (K:=K) rfl (Zv D_law_parts a (Z5 (bv 2) ZS))) ?hb2 (by intro _;rfl)) ZS)) (λ_=>rfl))),Bx.out (bv 0)⟩;case hb2=>(intro cl C s H c;refine'⟨Bx.out (ZA (i:=0) iL),Bx.out T2,Bx.out (Le (JK (K:=K) rfl) (bv 1) (RY d (bv 2) (bv 0) (λ_ _=>rfl)) (by rfl))⟩))
  case hb3=>(intro cl C s H c;refine'⟨Bx.out (We (K:=K) (n:=2) rfl rfl (Yd (ZA (i:=0) lq) (Yd (ZA (i:=1) lq) Wb (by rfl)) (by rfl)) (by rfl) (by rfl)),Bx.out T2,Bx.out (bv 1)⟩)
 exact YG (f:=nk) ((Y4 Y9 (Y4 (VY W0 (S1 (W7 (W7 S7))) (Y4 Y9 (Y4 Y9 (Y4 (VY W0 Wj (Y4 Y9 (Y4 (Vz Vk (T8 (Pj W0 Wj (Oj (by decide)) (UX YS) YS)) V1) Y9))) (Vz (Ri (UP HZ YS YS)) Y9 V1))))) Q6))) h
theorem tH(F:Yw K "_law_fits" "_law_fits" w4 f fd)(T:Txt mg)(D_law_parts:De P w K mg base):Zu P w K mg base Yz 2 f fd AH (YM 3 VA):=by
 refine F.ok nv (λvs H Q E h=>Xe h) (λd A a s H vs Q E b h=>?_);have c:=RP b;apply xi
 ·refine' Bx.out (Zx (Wp qh rfl (vg (K:=K) rfl rfl T.enumerate (Z5 (bv 1) ZS) (by rfl)) (We (K:=K) (n:=2) rfl rfl (Yd (ZA (i:=3) kv) (Yd (Wn (i:=4) kv rfl (Or.inr rfl)) Wb (by rfl)) (by rfl)) (by rfl) (by rfl))
  (Zf (Xh (RA (VO (K:=K) rfl (YI (Dv (K:=K) rfl rfl) T.any Cd (Z5 (T1 (Wm (N':=["_law_name","_law_up_here","_law_kind"]) (own:=["_law_name"]) (fr:=[0,4]) (by kernel_rfl)) rfl (XA (K:=K) rfl (Zv D_law_parts b (Z5 (Zg (Ym (K:=K) rfl) (bv 2) (bv 3)) ZS))) ?hb1 (by intro _;rfl)) ZS)) (λ_=>rfl))) (Zf (Yf UJ)) WW)) (by intro _;rfl))
 (Zf (Yf UJ)))
  case hb1=>(intro cl C s H e;refine'⟨Bx.out (ZA (i:=0) iI),Bx.out T2,Bx.out (Le (JK (K:=K) rfl) (bv 2) (RY c (bv 1) (bv 0) (λ_ _=>rfl)) (by rfl))⟩)
 exact YG (f:=k9) ((Y4 (VY W0 (S1 (W7 (W7 S7))) (Vz (Of (UX YS)) Y9 V1)) Y9)) h
theorem y4(F:Yw K "_law_near" "_law_near" uv f fd)(T:Txt mg)(D_law_fits:F3 P w K mg base):Zu P w K mg base Yz 3 f fd xx (YM 2 Ol):=by
 refine F.ok nB (λvs H Q E h=>Xe h) (λc A a s H vs Q E b h=>?_);apply xi
 ·refine' Bx.out (Zx (Zq (i:=2) uD (VM ZS))
 (Zx (Wp qh rfl (XA (K:=K) rfl (bv 1)) (We (K:=K) (n:=2) rfl rfl (Yd (ZA (i:=3) uD) (Yd (Wn (i:=4) uD rfl (Or.inr rfl)) Wb (by rfl)) (by rfl)) (by rfl) (by rfl))
  (Zf (Xh (RA (VO (K:=K) rfl (YI (Dv (K:=K) rfl rfl) T.any Cd (Z5 (T1 (Wm (N':=["_law_one","_law_other","_law_up_here","_law_kinds"]) (own:=["_law_one","_law_other"]) (fr:=[0,4]) (by kernel_rfl)) rfl (XA (K:=K) rfl (bv 1)) ?hb1 (by intro _;rfl)) ZS)) (λ_=>rfl))) (Zf (WG (V7 (K:=K) rfl qP qS qR Wa (bv 2) (Z5 (Wl (Z5 (bv 3) (Z5 (bv 4) ZS))) ZS) (by rfl) (by rfl) (by rfl) (XD (by rfl)) (by rfl)) (by rfl))) WW)) (by intro _;rfl))
 (Zf (Yf (bv 2)))))
  case hb1=>(intro cl C s H d;refine'⟨Bx.out (We (K:=K) (n:=2) rfl rfl (Yd (ZA (i:=0) kY) (Yd (ZA (i:=1) kY) Wb (by rfl)) (by rfl)) (by rfl) (by rfl)),Bx.out T2,Bx.out (MV (Le (Qj (K:=K) rfl b.units) (bv 1) (bv 3) (WN _)) (M2 (Zv D_law_fits b (Z5 (bv 2) (Z5 (bv 3) (Z5 (bv 1) ZS))))))⟩)
 exact YG (f:=kx) ((Y4 Y9 (Y4 (VY W0 (S1 (W7 (W7 S7))) (Vz (Of (UX YS)) Y9 V1)) Q6))) h
theorem ou(F:Yw K "_law_depths" "_law_depths" zy f fd)(T:Txt mg)(D_law_fits:F3 P w K mg base):Zu P w K mg base Yz 3 f fd zh (YM 2 JB):=by
 refine F.ok lV (λvs H Q E h=>Xe h) (λd A b s H vs Q E c h=>?_);have a:=RP c;apply xi
 ·refine' Bx.out (Zx (Zq (i:=2) On DH)
 (Zx (Wp qh rfl (XA (K:=K) rfl (bv 1)) (We (K:=K) (n:=2) rfl rfl (Yd (ZA (i:=3) On) (Yd (ZA (i:=4) On) Wb (by rfl)) (by rfl)) (by rfl) (by rfl))
  (Zf (B8 a (bv 2) (bv 3) Zn rfl)) (by intro _;rfl))
 (Zx (Wp qh rfl (Kz rfl T.range (Z5 (YI (UK (K:=K) rfl) T.len U6 (Z5 (bv 1) ZS)) ZS) (by rfl)) (ZA (i:=5) On)
  (Zf (Wp qh rfl (XA (K:=K) rfl (bv 1)) (We (K:=K) (n:=2) rfl rfl (Yd (ZA (i:=3) On) (Yd (ZA (i:=4) On) Wb (by rfl)) (by rfl)) (by rfl) (by rfl))
  (Zf (Wp qh rfl (XA (K:=K) rfl (bv 1)) (We (K:=K) (n:=2) rfl rfl (Yd (ZA (i:=6) On) (Yd (ZA (i:=7) On) Wb (by rfl)) (by rfl)) (by rfl) (by rfl))
  (Zf (Xh (DN (W9 (Qj (K:=K) rfl c.units) (bv 7) (bv 4) (WN _)) (DN (VO (K:=K) rfl (Zv D_law_fits c (Z5 (bv 0) (Z5 (bv 4) (Z5 (bv 7) ZS)))) (λ_=>rfl)) (o9 (W9 tE (RY a (bv 2) (bv 3) (λ_ _=>rfl)) (RY a (bv 2) (bv 6) (λ_ _=>rfl)) (WN _))))).pt (Zf (B8 a (bv 2) (bv 3) (YX (V8 (K:=K) rfl) (RY a (bv 2) (bv 6) (λ_ _=>rfl)) Zn) rfl)) WW)) (by intro _;rfl))) (by intro _;rfl))) (by intro _;rfl))
 (Zf (Yf (bv 2))))))
 exact YG (f:=jv) ((Y4 Y9 (Y4 (VY W0 (S1 (W7 (W7 S7))) (O1 YS YS)) (Y4 (VY W0 Wj (VY W0 (S1 (W7 (W7 S7))) (VY W0 (S1 (W7 (W7 S7))) (Vz (Pc Vk (Pc (UX YS) (Ri (UP zX YS YS)))) (O1 YS YS) V1)))) Q6)))) h
theorem ph(F:Yw K "_law_layers" "_law_layers" A1 f fd)(T:Txt mg)(D_law_depths:kU P w K mg base):Zu P w K mg base Yz 4 f fd Au (YM 2 GU):=by
 refine F.ok jy (λvs H Q E h=>Xe h) (λd A b s H vs Q E a h=>?_);have c:=RP a;apply xi
 ·refine' Bx.out (Zx (XS (i:=2) Cu rfl (Or.inr rfl) (Zv D_law_depths a (Z5 (bv 0) (Z5 (bv 1) ZS))))
 (Zx (Zq (i:=3) Cu (VM ZS))
 (Zx (Wp qh rfl (Kz rfl T.range (Z5 (YI (UK (K:=K) rfl) T.len U6 (Z5 (bv 1) ZS)) ZS) (by rfl)) (Wn (i:=4) Cu rfl (Or.inr rfl))
  (Zx (Mu (i:=5) (Wm (N':=["_law_name","_law_kinds","_law_deep","_law_k"]) (own:=["_law_name","_law_kinds"]) (fr:=[2,4]) (by kernel_rfl)) rfl (XA (K:=K) rfl (bv 1)) ?hb1 (by rfl) Cu rfl rfl (by intro _;rfl))
 (Zf (Xh (W9 PK (YI (UK (K:=K) rfl) T.len U6 (Z5 (bv 5) ZS)) Zn (WN _)) (Zf (WG (V7 (K:=K) rfl qP qS qR Wa (bv 3) (Z5 (bv 5) ZS) (by rfl) (by rfl) (by rfl) (XD (by rfl)) (by rfl)) (by rfl))) WW))) (by intro _;rfl))
 (Zf (Yf (bv 3))))))
  case hb1=>(intro cl C s H e;refine'⟨Bx.out (We (K:=K) (n:=2) rfl rfl (Yd (ZA (i:=0) jt) (Yd (ZA (i:=1) jt) Wb (by rfl)) (by rfl)) (by rfl) (by rfl)),Bx.out (Qm (W9 (Sa (K:=K) rfl a.units) (RY c (bv 2) (bv 0) (λ_ _=>rfl)) (bv 3) (WN _))),Bx.out (bv 0)⟩)
 exact YG (f:=jk) ((Y4 Y9 (Y4 Y9 (Y4 (VY W0 Wj Y9) Q6)))) h
theorem yJ(F:Yw K "_law_chain" "_law_chain" zp f fd)(T:Txt mg)(D_law_fits:F3 P w K mg base)(D_law_near:jV P w K mg base):Zu P w K mg base Yz 4 f fd xZ (YM 2 FY):=by
 refine F.ok mw (λvs H Q E h=>Xe h) (λc A b s H vs Q E a h=>?_);apply xi
 ·refine' Bx.out (Zx (Zq (i:=2) KO (VM ZS))
 (Zx (Zq (i:=3) KO (Xx (Kb (K:=K) rfl) T.list N0 (Z5 (bv 1) ZS)))
 (Zx (Zq (i:=4) KO (Zv D_law_near a (Z5 (bv 0) (Z5 (bv 3) ZS))))
 (Zx (tX qh (W9 (Sa (K:=K) rfl a.units) (YI (UK (K:=K) rfl) T.len U6 (Z5 (bv 4) ZS)) Zn (WN _)) (Zx (WG (V7 (K:=K) rfl qP qS qR Wa (bv 2) (Z5 (Zg (Ym (K:=K) rfl) (Zg (Ym (K:=K) rfl) (bv 4) Zn) Zn) ZS) (by rfl) (by rfl) (by rfl) (XD (by rfl)) (by rfl)) (by rfl))
 (Zx (XS (i:=5) KO rfl (Or.inr rfl) (Zg (Ym (K:=K) rfl) (Zg (Ym (K:=K) rfl) (bv 4) Zn) Zn))
 (Zx (Mu (i:=3) (Wm (N':=["_law_rule","_law_up_here","_law_own"]) (own:=["_law_rule"]) (fr:=[0,5]) (by kernel_rfl)) rfl (XA (K:=K) rfl (bv 3)) ?hb1 (by rfl) KO rfl rfl (by intro _;rfl))
 (Zf (Zq (i:=4) KO (Zv D_law_near a (Z5 (bv 0) (Z5 (bv 3) ZS)))))))))
 (Zx (Xh (W9 (Sa (K:=K) rfl a.units) (YI (UK (K:=K) rfl) T.len U6 (Z5 (bv 4) ZS)) Zn (WN _)) (Zf (Yf (Wl (Z5 (bv 2) (Z5 (Wl (Z5 Uz ZS)) ZS))))) WW)
 (Zf (Yf (Wl (Z5 (bv 2) (Z5 (Wl (Z5 Uz (Z5 (Xx (Rc (K:=K) rfl) T.tuple SJ (Z5 (T1 (Wm (N':=["_law_name","_law_kinds"]) (own:=["_law_name","_law_kinds"]) (fr:=[]) (by kernel_rfl)) rfl (XA (K:=K) rfl (bv 4)) ?hb2 (by intro _;rfl)) ZS)) ZS))) ZS))))))))))
  case hb1=>(intro cl C s H d;refine'⟨Bx.out (ZA (i:=0) iy),Bx.out (Qm (DN (W9 (Qj (K:=K) rfl a.units) (Zg (Ym (K:=K) rfl) (bv 0) Zn) (bv 2) (WN _)) (o9 (VO (K:=K) rfl (Zv D_law_fits a (Z5 (bv 1) (Z5 (Zg (Ym (K:=K) rfl) (bv 0) Zn) (Z5 (bv 2) ZS)))) (λ_=>rfl)))).pt),Bx.out (bv 0)⟩)
  case hb2=>(intro cl C s H d;refine'⟨Bx.out (We (K:=K) (n:=2) rfl rfl (Yd (ZA (i:=0) mo) (Yd (ZA (i:=1) mo) Wb (by rfl)) (by rfl)) (by rfl) (by rfl)),Bx.out T2,Bx.out (bv 0)⟩)
 exact YG (f:=mL) ((Y4 Y9 (Y4 Y9 (Y4 Y9 (Y4 (Hg 1000 Vk (Y4 Y9 (Y4 Y9 (Y4 (T8 (Pj W0 Wj (Oj (by decide)) (Pc Vk (UX YS)) YS)) Y9)))) (Y4 Y9 Y9)))))) h
theorem wB(F:Yw K "_law_right" "_law_right" za f fd)(T:Txt mg)(D_law_chain:kJ P w K mg base)(D_law_fits:F3 P w K mg base)(D_law_layers:lw P w K mg base)(DT_chain:Jk P w K mg base)(DT_layers:Eo P w K mg base):Zu P w K mg base Yz 8 f fd tU (YM 3 Rz):=by
 refine F.ok ki (λvs H Q E h=>Xe h) (λc A b s H vs Q E a h=>?_);apply xi
 ·refine' Bx.out (Zx (Mu (i:=3) (Wm (N':=["_law_rule","_law_up_here","_law_call_here"]) (own:=["_law_rule"]) (fr:=[1,2]) (by kernel_rfl)) rfl (XA (K:=K) rfl (Zg (Ym (K:=K) rfl) (bv 0) Zn)) ?hb1 (by rfl) Km rfl rfl (by intro _;rfl))
 (Zx (Zq (i:=4) Km (Zv D_law_layers a (Z5 (bv 1) (Z5 (bv 3) ZS))))
 (Zx (Zq (i:=5) Km (Zv D_law_chain a (Z5 (bv 1) (Z5 (bv 3) ZS))))
 (Zx (Wp qh rfl (Kz rfl T.range (Z5 Zn ZS) (by rfl)) (ZA (i:=6) Km)
  (Zx (Zq (i:=7) Km (Zv DT_chain a (Z5 (bv 0) (Z5 (bv 2) ZS))))
 (Zx (Zq (i:=8) Km (Zv DT_layers a (Z5 (bv 0) (Z5 (bv 2) ZS))))
 (Zx (Xh (Lo (RA (VO (K:=K) rfl (YI (FF (K:=K) rfl) T.isinstance Mz (Z5 (bv 7) (Z5 (Jm (v:=.ty "tuple") (by rfl) T.tuple SJ rfl (by decide) (by decide)) ZS))) (λ_=>rfl))) (Lo (W9 (Qj (K:=K) rfl a.units) (bv 7) (bv 5) (WN _)) (FL (RA (VO (K:=K) rfl (YI (FF (K:=K) rfl) T.isinstance Mz (Z5 (Zg (Ym (K:=K) rfl) (bv 7) Zn) (Z5 (Jm (v:=.ty "list") (by rfl) T.list N0 rfl (by decide) (by decide)) ZS))) (λ_=>rfl)))))).pt (Zf (Yf UJ)) WW)
 (Zx (Xh (Lo (RA (VO (K:=K) rfl (YI (FF (K:=K) rfl) T.isinstance Mz (Z5 (bv 8) (Z5 (Jm (v:=.ty "list") (by rfl) T.list N0 rfl (by decide) (by decide)) ZS))) (λ_=>rfl))) (FL (W9 (Qj (K:=K) rfl a.units) (bv 8) (bv 4) (WN _)))).pt (Zf (Yf UJ)) WW)
 (Zx (WG (V7 (K:=K) rfl qP qS qR Wa (Zg (Ym (K:=K) rfl) (bv 7) Zn) (Z5 Uz ZS) (by rfl) (by rfl) (by rfl) (XD (by rfl)) (by rfl)) (by rfl))
 (Zx (Xh (W9 PK (YI (UK (K:=K) rfl) T.len U6 (Z5 (bv 8) ZS)) Zn (WN _)) (Zf (WG (V7 (K:=K) rfl qP qS qR Wa (Zg (Ym (K:=K) rfl) (bv 8) Zn) (Z5 Uz ZS) (by rfl) (by rfl) (by rfl) (XD (by rfl)) (by rfl)) (by rfl))) WW)
 (Zx (WG (n8 (K:=K) rfl qP PySem.F.slot_list_reverse PySem.F.type_list_reverse yM (bv 8) (by rfl) (by rfl)) (by rfl))
 (Zf (WG (V7 (K:=K) rfl qP qS qR Wa (bv 8) (Z5 (VM ZS) ZS) (by rfl) (by rfl) (by rfl) (XD (by rfl)) (by rfl)) (by rfl)))))))))) (by intro _;rfl))
 (Zf (Yf UJ))))))
  case hb1=>(intro cl C s H d;refine'⟨Bx.out (ZA (i:=0) hG),Bx.out (Qm (VO (K:=K) rfl (Zv D_law_fits a (Z5 (bv 1) (Z5 (Zg (Ym (K:=K) rfl) (bv 0) Zn) (Z5 (bv 2) ZS)))) (λ_=>rfl))),Bx.out (bv 0)⟩)
 exact YG (f:=mR) ((Y4 (T8 (Pj W0 Wj (Oj (by decide)) (UX YS) YS)) (Y4 Y9 (Y4 Y9 (Y4 (VY W0 Wj (vz (Q5 (Eb TQ) (Q5 (Eb TQ) (Q5 (Nw (Qv (NN (Of (UX (Rh YS uE))) (NN Vk (Of (UX (Rh YS Ib)))))) (IL (KW YS)) Ny) (Q5 (Nw (Qv (NN (Of (UX (Rh YS Ib))) Vk)) (IL (KW YS)) Ny) (Q5 (Nd (Ed (Ke 7) (KW YS)) (G3 (KW YS))) (Q5 (Nw (Qv Vk) (Nd (Ed (Ke 8) (KW YS)) (G3 (KW YS))) Ny) (Q5 (ri (Ke 8)) (Nd (Ke 8) (uw YS))))))))))) Y9))))) h
theorem oE(F:Yw K "_law_told" "_law_told" AE f fd)(T:Txt mg)(XK:L5 P w K mg base cl ["NoCall","NoKind"] ["NoCall","NoKind"] "CallError"):Wq P w K mg base 10 9 f fd "_law_ask" (Qd cl Ql):=by
 refine xm F kW (λp A d s H g R Q m h o l k n=>?_);apply xi
 ·refine' Bx.out (Zx (Zq (i:=2) vV (Wl (Z5 Uz ZS)))
 (Zx (x5 (i:=0) (j:=1) k XK rfl (m.mono (by decide)) o l rfl rfl vV rfl rfl rfl rfl (by rfl) (λ_ _ _ b a=>(Zf (Zq (i:=2) vV (Wl (Z5 (YI (Hm (K:=K) rfl b a) T.isinstance Mz (Z5 (bv 1) (Z5 (GW (by rfl) (XK.mgk "NoCall" (by decide)) (by decide)) ZS))) (Z5 (YI (Hm (K:=K) rfl b a) T.isinstance Mz (Z5 (bv 1) (Z5 (GW (by rfl) (XK.mgk "NoKind" (by decide)) (by decide)) ZS))) (Z5 (yj (K:=K) rfl b (bv 1) (by rfl)) ZS))))))) (by decide) (by decide) (by decide) (by rfl))
 (Zf (Yf (bv 2)))))
 exact(Bo (cl:=cl) (by decide) (by decide) (by decide) (IS (U4 (WV λ_=>Na) Tf)) (by intro e c q;exact(AN (i:=2) (j:=1) (Ab (rf (Ep (XK.kit e c "NoCall" (by decide))) (rf (Ep (XK.kit e c "NoKind" (by decide))) (rf si oZ)))) (by decide)))) n
theorem ib(F:Yw K "check_kinds" "check_kinds" C4 f fd)(T:Txt mg)(D_names_of:yC P w K mg base)(X_NoKind:S8 P w K mg base "NoKind" (cl "NoKind")):Zu P w K mg base (W6 P w) 3 f fd Gs (VS cl 2 GY):=by
 refine Mb F zD (λvs H Q E h=>NZ h) (λd A b s H vs Q E c a h=>?_);apply xi
 ·refine' Bx.out (Zx (Zq (i:=2) Df (Zv D_names_of c (Z5 (bv 0) ZS)))
 (Zf (Wp PassesOwn.leaving rfl (XA (K:=K) rfl (bv 1)) (ZA (i:=3) Df)
  (Zf (Xh (W9 (KN (K:=K) rfl) (bv 3) (bv 2) (by rfl)) (Zf (He (C:=cl "NoKind") X_NoKind (c.mono (by decide)) rfl rfl (Ge a) (by rfl) (bv 3) (by decide) (by rfl))) WW)) (by intro _;rfl))))
 exact Uj (f:=HU) ((Og (PZ Y9) (sF W0 Wj (Fz Vk (G8 YS) (PZ V1))))) h
theorem iz(F:Yw K "check_call" "check_call" Dy f fd)(T:Txt mg)(D_check_kinds__X:jK P w K mg base cl)(D_names_in_call:AC P w K mg base)(X_NoCall:S8 P w K mg base "NoCall" (cl "NoCall")):Zu P w K mg base (W6 P w) 4 f fd IQ (VS cl 3 Dd):=by
 refine Mb F yw (λvs H Q E h=>NZ h) (λd A c s H vs Q E b a h=>?_);apply xi
 ·refine' Bx.out (Zx (Xh (W9 (Qj (K:=K) rfl b.units) (YI (UK (K:=K) rfl) T.len U6 (Z5 (bv 2) ZS)) (bv 1) (WN _)) (Zf (He (C:=cl "NoCall") X_NoCall (b.mono (by decide)) rfl rfl (Ge a) (by rfl) NY (by decide) (by rfl))) WW)
 (Zf (WG (Oc D_check_kinds__X (KC a) (b.mono (by decide)) (by rfl) (Z5 (bv 0) (Z5 (Zv D_names_in_call b (Z5 (bv 2) ZS)) ZS)) (by decide) (XD (by rfl)) (by rfl)) (by rfl))))
 exact Uj (f:=ma) ((Og (Fz Vk (G8 YS) (PZ V1)) (EH TQ))) h
theorem ja(F:Yw K "rules_that_fit" "rules_that_fit" CT f fd)(T:Txt mg)(D_check_call__X:ly P w K mg base cl):Zu P w K mg base (W6 P w) 5 f fd D1 (VS cl 2 EX):=by
 refine Mb F uu (λvs H Q E h=>NZ h) (λc A b s H vs Q E d a h=>?_);apply xi
 ·refine' Bx.out (Zx (MB (bv 0) (We (K:=K) (n:=3) rfl rfl (Yd (ZA (i:=2) M1) (Yd (ZA (i:=3) M1) (Yd (ZA (i:=4) M1) Wb (by rfl)) (by rfl)) (by rfl)) (by rfl) (by rfl)) (by rfl) (by rfl) (by rfl))
 (Zx (WG (Oc D_check_call__X (KC a) (d.mono (by decide)) (by rfl) (Z5 (bv 2) (Z5 (bv 3) (Z5 (bv 1) ZS))) (by decide) (XD (by rfl)) (by rfl)) (by rfl))
 DV))
 exact Uj (f:=mB) ((Og (PZ (Lu YS (S1 (W7 (W7 (W7 S7)))))) (Og (EH TQ) (PZ QB)))) h
theorem vU(F:Yw K "nearest" "nearest" CO f fd)(T:Txt mg)(D_rules_that_fit__X:zd P w K mg base cl):Zu P w K mg base (W6 P w) 6 f fd Ir (VS cl 2 C8):=by
 refine Mb F o5 (λvs H Q E h=>NZ h) (λc A b s H vs Q E d a h=>?_);apply xi
 ·refine' Bx.out (Zx (Zq (i:=2) mi (Oc D_rules_that_fit__X (KC a) (d.mono (by decide)) (by rfl) (Z5 (bv 0) (Z5 (bv 1) ZS)) (by decide) (XD (by rfl)) (by rfl)))
 DV)
 exact Uj (f:=kN) ((Og (wj TQ) (PZ QB))) h
theorem ir(F:Yw K "answer_of" "answer_of" Dp f fd)(T:Txt mg)(D_answer_by:B5 P w K mg base)(D_nearest__X:nw P w K mg base cl):Zu P w K mg base (W6 P w) 7 f fd Eu (VS cl 2 CI):=by
 refine Mb F sP (λvs H Q E h=>NZ h) (λd A b s H vs Q E c a h=>?_);apply xi
 ·refine' Bx.out (Zf (Yf (Zv D_answer_by c (Z5 (Oc D_nearest__X (KC a) (c.mono (by decide)) (by rfl) (Z5 (bv 0) (Z5 (bv 1) ZS)) (by decide) (XD (by rfl)) (by rfl)) ZS))))
 exact Uj (f:=jo) ((Bu TQ)) h
theorem uh(F:Yw K "chain" "chain" Pi f fd)(T:Txt mg)(D_answer_of__X:jP P w K mg base cl):Zu P w K mg base (W6 P w) 8 f fd NK (VS cl 2 La):=by
 refine Mb F My (λvs H Q E h=>NZ h) (λc A b s H vs Q E d a h=>?_);apply xi
 ·refine' Bx.out (Zx (Zq (i:=2) Jo (VM ZS))
 (Zx (Zq (i:=3) Jo (Oc D_answer_of__X (KC a) (d.mono (by decide)) (by rfl) (Z5 (bv 0) (Z5 (bv 1) ZS)) (by decide) (XD (by rfl)) (by rfl)))
 DV))
 exact Uj (f:=jF) ((Og (PZ Y9) (Og (wj TQ) (PZ QB)))) h
theorem AD(F:Yw K "layers" "layers" DK f fd)(T:Txt mg)(D_rules_that_fit__X:zd P w K mg base cl):Zu P w K mg base (W6 P w) 6 f fd Ly (VS cl 2 Kr):=by
 refine Mb F Bz (λvs H Q E h=>NZ h) (λc A b s H vs Q E d a h=>?_);apply xi
 ·refine' Bx.out (Zx (Zq (i:=2) Ki (Oc D_rules_that_fit__X (KC a) (d.mono (by decide)) (by rfl) (Z5 (bv 0) (Z5 (bv 1) ZS)) (by decide) (XD (by rfl)) (by rfl)))
 DV)
 exact Uj (f:=lI) ((Og (wj TQ) (PZ QB))) h
theorem iB{f g PT:Addr}{fd:Xl}{cl:Str->Addr}(F:Yw K "_law_refused" "_law_refused" AA f fd)(T:Txt mg)(D_law_told:lm P w K mg base cl)(D_chain__X:j8 P w K mg base cl)(D_layers__X:lK P w K mg base cl)(d:fd.code=.ref g)(i:CodeHd base g PT)(c:BM mg base):Zu P w K mg base Yz 11 f fd vH (RQ PT (("_law_refused":Str)++".<locals>."++"<lambda>") 3 QK):=by
 refine pj F ni (λvs H Q E h=>Bw h) d (λA e s H vs Q E a h=>?_);apply xi
 ·refine' Bx.out (Zx (Xh (W9 (Qj (K:=K) rfl a.units) (Jd (NB:=["_law_book","_law_call_here"]) (js:=[0,1]) D_law_told (a.mono (by decide)) (by rfl) rfl i c ⟨rfl,rfl,rfl,by decide,by decide⟩ rfl (by intros;rfl) (by rfl) (by rfl) (λ_ _ _ _ _ _ _ _ a b=>(Oc D_chain__X (DX b) (a.mono (by decide)) (by rfl) (Z5 (bv 0) (Z5 (bv 1) ZS)) (by decide) (XD (by rfl)) (by rfl))) (by decide) (XD (by rfl)) (by rfl)) (bv 2) (WN _)) (Zf (Yf UJ)) WW)
 (Zf (Yf (Le (Sa (K:=K) rfl a.units) (Jd (NB:=["_law_book","_law_call_here"]) (js:=[0,1]) D_law_told (a.mono (by decide)) (by rfl) rfl i c ⟨rfl,rfl,rfl,by decide,by decide⟩ rfl (by intros;rfl) (by rfl) (by rfl) (λ_ _ _ _ _ _ _ _ a b=>(Oc D_layers__X (DX b) (a.mono (by decide)) (by rfl) (Z5 (bv 0) (Z5 (bv 1) ZS)) (by decide) (XD (by rfl)) (by rfl))) (by decide) (XD (by rfl)) (by rfl)) (bv 2) (WN _)))))
 exact u3 (f:=kl) ((UA (OC (pY (FO EY (Iw (cl:=cl) TQ) (HR YS))) (V0 Y9) (V0 V1)) (nN (FO NX (Iw (cl:=cl) TQ) (HR YS))))) h
theorem vF{f:Addr}{fd:Xl}(F:Yw K "chain" "chain" Pi f fd)(T:Txt mg)(D_answer_of:me P w K mg base)(D_onward:IK P w K mg base):Zu P w K mg base Yz 7 f fd ["book","call"] (Nj 2 Ov):=by
 refine F.ok My (λvs H Q E h=>GG h) (λc A a s H vs Q E b h=>?_);apply xi
 ·refine' Bx.out (Zx (Zq (i:=2) Jo (VM ZS))
 (Zx (Zq (i:=3) Jo (Zv D_answer_of b (Z5 (bv 0) (Z5 (bv 1) ZS))))
 (Zx (tX qh (W9 (Sa (K:=K) rfl b.units) (Zg (Ym (K:=K) rfl) (bv 3) Zn) Uz (WN _)) (Zx (WG (V7 (K:=K) rfl qP qS qR Wa (bv 2) (Z5 (Zg (Ym (K:=K) rfl) (bv 3) Zn) ZS) (by rfl) (by rfl) (by rfl) (XD (by rfl)) (by rfl)) (by rfl))
 (Zf (Zq (i:=3) Jo (Zv D_onward b (Z5 (bv 0) (Z5 (bv 1) (Z5 (Zg (Ym (K:=K) rfl) (bv 3) Zn) ZS))))))))
 (Zf (Yf (Wl (Z5 (bv 2) (Z5 (bv 3) ZS))))))))
 exact GQ (E:=E) (E':=E0) (f:=LX) ((GO (T8 (Nu Tf)) (GO (T8 (Ot (U4 (Vb 0) (U4 (Vb 1) Tf)))) (GO (Hg 1000 (Ri (UP NX (Ld (WV λ_=>VX)) (WV λ_=>Na))) (Y4 (HA (Ld (WV λ_=>VX))) (T8 (Ot (U4 (Vb 0) (U4 (Vb 1) (U4 (Ld (WV λ_=>VX)) Tf))))))) (nJ (vY (rz (Ap (pa (Vb 3)) rg)))))))) h
theorem uF{f:Addr}{fd:Xl}(F:Yw K "layers" "layers" DK f fd)(T:Txt mg)(D_nearest_of:C3 P w K mg base)(D_roofs_of:FI P w K mg base)(D_rule_names:Ez P w K mg base)(D_rules_that_fit:Dt P w K mg base):Zu P w K mg base Yz 5 f fd ["book","call"] (Nj 2 N4):=by
 refine F.ok Bz (λvs H Q E h=>GG h) (λc A b s H vs Q E a h=>?_);apply xi
 ·refine' Bx.out (Zx (Zq (i:=2) Ki (Zv D_rules_that_fit a (Z5 (bv 0) (Z5 (bv 1) ZS))))
 (Zx (Zq (i:=3) Ki (Zv D_roofs_of a (Z5 (Zg (Ym (K:=K) rfl) (bv 0) Zn) ZS)))
 (Zx (Zq (i:=4) Ki (VM ZS))
 (Zx (tX qh (VO (K:=K) rfl (bv 2) (λ_=>rfl)) (Zx (XS (i:=5) Ki rfl (Or.inr rfl) (Zv D_nearest_of a (Z5 (bv 3) (Z5 (bv 2) ZS))))
 (Zx (WG (V7 (K:=K) rfl qP qS qR Wa (bv 4) (Z5 (Zv D_rule_names a (Z5 (bv 5) ZS)) ZS) (by rfl) (by rfl) (by rfl) (XD (by rfl)) (by rfl)) (by rfl))
 (Zf (Mu (i:=2) (Wm (N':=["rule","layer"]) (own:=["rule"]) (fr:=[5]) (by kernel_rfl)) rfl (XA (K:=K) rfl (bv 2)) ?hb1 (by rfl) Ki rfl rfl (by intro _;rfl))))))
 (Zf (Yf (bv 4)))))))
  case hb1=>(intro cl C s H d;refine'⟨Bx.out (ZA (i:=0) wd),Bx.out (Qm (W9 (Hb (K:=K) rfl a.units) (bv 0) (bv 1) (by rfl))),Bx.out (bv 0)⟩)
 exact GQ (E:=E) (E':=E0) (f:=oG) ((GO (T8 (Ot (U4 (Vb 0) (U4 (Vb 1) Tf)))) (GO (T8 (Ot (U4 (Ld (WV λ_=>VX)) Tf))) (o6 (Q5 (yY (Hs (Nu Tf))) (w8 1000 (Qv (UX (Vb 2))) (Q5 (EZ (L3 (Ot (U4 (Vb 3) (U4 (Vb 2) Tf))) (by decide))) (Q5 (Ae (Ke 4) (Hs (Ot (U4 (Vb 5) Tf)))) (EZ (L3 (Pj (Jh (Vb 2)) Wj (Oj (by decide)) (Ri (UP HZ (Vb 0) (Vb 1))) (Vb 0)) (by decide))))))) (Ke 4))))) h
end
inductive YZ where
 | one (n:Str)
 | many (ns:List Str)
def YZ.parts:YZ->List Str
 | .one n=>[n]
 | .many ns=>ns
def ZP:YZ->PyData
 | .one n=>.str n
 | .many ns=>.tuple (ns.map .str)
def ZQ(c:List YZ):PyData:=.tuple (c.map ZP)
def ZI(ks:List Str):PyData:=.tuple (ks.map .str)
def Zm(r:Str×List Str):PyData:=.tuple [.str r.1,ZI r.2]
def ZN(rs:List (Str×List Str)):PyData:=.list (rs.map Zm)
def Zs(W:YD)(p:Nat)(rs:List (Str×List Str)):PyData:=.tuple [ZT W,.int p,ZN rs]
theorem HG(a:YZ):Wk [ZP a]=some (Z4 a.parts,true):=by
 cases a with
 | one n=>rfl
 | many b=>rfl
theorem jM{c:List YZ}(b:c.length<300)(g:∀a∈c,a.parts.length<300):Kg [ZQ c]=some (Z4 (c.flatMap YZ.parts),true):=by
 have k:Rm (gN 0) Yk (Zl (ZG 1 Wk (Z7 (Z9 0) Z8))) (gN 1) Yk (Z9 1) [.no,.no] (c.map ZP)=some (c.flatMap λa=>a.parts.map .str):=by
  refine mQ λa d=>⟨[.pl (ZP a),.no],rfl,rfl,?_⟩
  have e:Zl (ZG 1 Wk (Z7 (Z9 0) Z8)) [.pl (ZP a),.no]=some (a.parts.map .str,[]):=by
   unfold Zl;rw[Yp (n:=1) (rs:=[⟨ZP a,false,[]⟩]) rfl rfl (HG a)];rfl
  unfold P6;rw[e];show(if(a.parts.map PyData.str).length<300 then X5 (gN 1) Yk (Z9 1) [.pl (ZP a),.no] (a.parts.map .str)else none)=_;rw[if_pos (by rw[qD];exact g a d)];exact zdj λx _=>⟨[.pl (ZP a),.pl (.str x)],rfl,rfl,vs x,rfl,rfl⟩
 have f:(c.flatMap λa=>a.parts.map PyData.str)=(c.flatMap YZ.parts).map .str:=by
  rw[List.map_flatMap]
 rw[f]at k;exact zgd (env:=[.pl (ZQ c)]) rfl (Uy (tS (own:=["arm","name"]) (fr:=[]) (fi:=Zl (Z9 0)) (ds:=c.map ZP) (bs:=[]) rfl (by rw[qD];exact b) k))
theorem xq(h:ZV W){c:List YZ}(j:c.length<300)(g:∀a∈c,a.parts.length<300)(k:∀a∈c,∀n∈a.parts,n∈nm W):CN [ZT W,.int c.length,ZQ c]=some (.none,false):=by
 have l:W.length<=12:=h.len;have f:Zy Zp (Z7 (Z9 2) Z8) [.pl (ZT W),.pl (.int c.length),.pl (ZQ c)]=some (vi (c.map ZP).length):=rfl
 have t:Zk (Z2 X4 (Zy Zp (Z7 (Z9 2) Z8)) (Z9 1)) [.pl (ZT W),.pl (.int c.length),.pl (ZQ c)]=some false:=by
  refine zdv ?_;unfold Z2;rw[f];show((X4 (.int ((c.map ZP).length:Nat)) (.int (c.length:Nat))).bind λz=>some (⟨z.1,z.2,ZM z.1 ([]++[])⟩:Yo))=_;rw[qD];rw[Jp];rfl
 have e:FD [ZT W,Z4 (c.flatMap YZ.parts)]=some (.none,false):=Ak (by omega) λn i=>by
  obtain⟨a,b,d⟩:=MG.mp i;exact k a b n d
 exact oK (env:=[.pl (ZT W),.pl (.int c.length),.pl (ZQ c)]) rfl (Zh (if_f t rfl) (JC (Yp (n:=2) (rs:=[⟨ZT W,false,[]⟩,⟨Z4 (c.flatMap YZ.parts),true,[]⟩]) (UE rfl (XP (Yp (n:=1) (rs:=[⟨ZQ c,false,[]⟩]) rfl rfl (jM j g)))) rfl e)))
def Xu(W:YD)(a:YZ):List Str:=a.parts.foldl (λb n=>(up W n).foldl Zb b) []
theorem OX{a:YZ}:x∈Xu W a↔∃n∈a.parts,x∈up W n:=by
 unfold Xu
 have:∀(l b:List Str),x∈l.foldl (λb n=>(up W n).foldl Zb b) b↔x∈b\/∃n∈l,x∈up W n:=by
  intro l
  induction l with
  | nil=>intro b;simp
  | cons n l c=>intro b;rw[Lg,c,Dq];simp[or_assoc]
 rw[this];simp
theorem yW(h:ZV W){a:YZ}(t:∀n∈a.parts,n∈nm W):J2 [.dict (dS Zi (ZX W)),ZP a]=some (Zi (Xu W a),true):=by
 have u:∀(l b:List Str),b.Nodup->(∀x∈b,x∈nm W)->(l.foldl (λb n=>(up W n).foldl Zb b) b).Nodup/\∀x∈l.foldl (λb n=>(up W n).foldl Zb b) b,x∈nm W:=by
  intro l
  induction l with
  | nil=>intro b e f;exact⟨e,f⟩
  | cons n l v=>
   intro b e f;refine v _ (Nz e) λx q=>?_;rcases Dq.mp q with z|z
   ·exact f x z
   ·exact Pl h z
 obtain⟨j,r,i,rfl⟩:=Uv (enc:=PyData.str) (g:=gN 3) (body:=V3 2 (X8 0 (Z9 3))) (l:=a.parts) (env:=[.pl (.dict (dS Zi (ZX W))),.pl (ZP a),.ac (Zi []),.no])
  (λc d=>∃i,d=[.pl (.dict (dS Zi (ZX W))),.pl (ZP a),.ac (Zi (c.foldl (λb n=>(up W n).foldl Zb b) [])),i]) ⟨_,rfl⟩ (by
   rintro c n k d s ⟨i,rfl⟩;have o:n∈nm W:=t n (by rw[<- s];simp);refine⟨[.pl (.dict (dS Zi (ZX W))),.pl (ZP a),.ac (Zi (c.foldl (λb n=>(up W n).foldl Zb b) [])),.pl (.str n)],[.pl (.dict (dS Zi (ZX W))),.pl (ZP a),.ac (Zi ((c++[n]).foldl (λb n=>(up W n).foldl Zb b) [])),.pl (.str n)],rfl,.inl ?_,_,rfl⟩
   ·have A:=ML h n;obtain⟨p,m⟩:=u c [] HV (by simp);have B:=Gw _ _ p m;have y:=Nn h;have w:(V9 (c.foldl (λb n=>(up W n).foldl Zb b) [])).length+(V9 (up W n)).length<=100000:=by unfold V9;rw[qD,qD];omega
    simp only[V3,Zi,X8,Z9,Rg,QW,qB,Zd,Os,Dk o,Ru];rw[if_pos ⟨w,by simp⟩,xV,Je];simp[frzs])
 exact zgd (env:=[.pl (.dict (dS Zi (ZX W))),.pl (ZP a),.no,.no]) rfl (Zh rfl (Zh (for_list (Yp (n:=1) (rs:=[⟨ZP a,false,[]⟩]) rfl rfl (HG a)) r) rfl))
theorem ix(h:ZV W){c:List YZ}(e:c.length<300)(d:∀a∈c,∀n∈a.parts,n∈nm W):Gh [.dict (dS Zi (ZX W)),ZQ c]=some (.list (c.map λa=>Zi (Xu W a)),true):=by
 have k:X5 (gN 0) Yk (ZG 2 J2 (Z7 (Z9 1) (Z7 (Z9 0) Z8))) [.no,.pl (.dict (dS Zi (ZX W)))] (c.map ZP)=some (c.map λa=>Zi (Xu W a)):=
  zdj λa b=>⟨[.pl (ZP a),.pl (.dict (dS Zi (ZX W)))],rfl,rfl,_,Yp (n:=2) (rs:=[⟨.dict (dS Zi (ZX W)),false,[]⟩,⟨ZP a,false,[]⟩]) rfl rfl (yW h (d a b)),rfl⟩
 exact zgd (env:=[.pl (.dict (dS Zi (ZX W))),.pl (ZQ c)]) rfl (Uy (VU (own:=["arm"]) (fr:=[0]) (fi:=Zl (Z9 1)) (ds:=c.map ZP) (bs:=[]) rfl (by rw[qD];omega) k))
theorem Ij(f:α->PyData)(g:β->PyData)(l:List α)(r:List β):List.zipWith (λd e=>PyData.tuple [d,e]) (l.map f) (r.map g)=(l.zip r).map λz=>PyData.tuple [f z.1,g z.2]:=by
 induction l generalizing r with
 | nil=>rfl
 | cons a l c=>cases r with
  | nil=>rfl
  | cons b r=>rw[qL,qL,List.zipWith_cons_cons,c,Oo,qL]
def W5(W:YD)(a:List Str)(c:List YZ):Bool:=(a.zip c).all λz=>decide (z.1∈Xu W z.2)
theorem Az{c:List YZ}(g:c.length<300):Er [ZI b,.list (c.map λa=>Zi (Xu W a))]=some (.bool (W5 W b c),false):=by
 have f:TV (Z7 (Z9 0) (Z7 (Z9 1) Z8)) [.pl (ZI b),.pl (.list (c.map λa=>Zi (Xu W a)))]=some ((b.zip c).map λz=>PyData.tuple [.str z.1,Zi (Xu W z.2)],[]):=by
  show some (List.zipWith (λd e=>PyData.tuple [d,e]) (b.map .str) (c.map λa=>Zi (Xu W a)),[]++[])=_;rw[Ij];rfl
 have k:X5 (gT 2 (Zw 0 (Zw 1 YE))) Yk (Vv false (Z9 0) (Z9 1)) [.no,.no] ((b.zip c).map λz=>PyData.tuple [.str z.1,Zi (Xu W z.2)])=some ((b.zip c).map λz=>.bool (decide (z.1∈Xu W z.2))):=
  zdj λz _=>⟨[.pl (.str z.1),.pl (Zi (Xu W z.2))],rfl,rfl,vb (decide (z.1∈Xu W z.2)),GN (neg:=false) (fr:=false) (bs:=[]) rfl rfl,rfl⟩
 have h:(b.zip c).length<=c.length:=by rw[List.length_zip];exact Nat.min_le_right _ _
 exact zgd (env:=[.pl (ZI b),.pl (.list (c.map λa=>Zi (Xu W a)))]) rfl (Uy (bs:=[]) (Ei (VU (own:=["kind","roof"]) (fr:=[]) f (by rw[qD];omega) k)))
def YV(W:YD)(a b:List Str):Bool:=!(a==b)&&(a.zip b).all λz=>decide (z.2∈up W z.1)
theorem DA:∀(a b:List Str),PyData.eqvAll (a.map .str) (b.map .str)=(a==b)
 | [],[]=>rfl
 | [],_::_=>rfl
 | _::_,[]=>rfl
 | x::a,y::b=>by
  show(Xn (.str x) (.str y)&&PyData.eqvAll (a.map .str) (b.map .str))=_;rw[DA a b];show((x==y)&&(a==b))=_;rfl
def Yx(a:List Str):Prop:=∀k∈a,qz k=true
theorem r6(h:Yx a):qm (ZI a)=true:=by
 obtain⟨b,c⟩:=Mk a h;unfold qm ZI;rw[qe];refine⟨b,decide_eq_true ?_⟩;show qb (a.map .str)+1<=64;omega
theorem B6(h1:Yx a)(h2:Yx b):X4 (ZI a) (ZI b)=some (.bool (!(a==b)),false):=by
 unfold X4 TL;rw[r6 h1,r6 h2,wm,Sg,if_pos rfl];show some (PyData.bool (!PyData.eqvAll (a.map .str) (b.map .str)),false)=_;rw[DA]
theorem kd(h:ZV W){a b:List Str}(h1:Yx a)(h2:Yx b)(l:∀k∈a,k∈nm W)(m:a.length<300):Ow [.dict (dS Zi (ZX W)),ZI a,ZI b]=some (.bool (YV W a b),false):=by
 have j:TV (Z7 (Z9 1) (Z7 (Z9 2) Z8)) [.pl (.dict (dS Zi (ZX W))),.pl (ZI a),.pl (ZI b)]=some ((a.zip b).map λz=>PyData.tuple [.str z.1,.str z.2],[]):=by
  show some (List.zipWith (λd e=>PyData.tuple [d,e]) (a.map .str) (b.map .str),[]++[])=_;rw[Ij];rfl
 have k:X5 (gT 2 (Zw 0 (Zw 1 YE))) Yk (Vv false (Z9 1) (X8 2 (Z9 0))) [.no,.no,.pl (.dict (dS Zi (ZX W)))] ((a.zip b).map λz=>PyData.tuple [.str z.1,.str z.2])=some ((a.zip b).map λz=>.bool (decide (z.2∈up W z.1))):=
  zdj λz g=>⟨[.pl (.str z.1),.pl (.str z.2),.pl (.dict (dS Zi (ZX W)))],rfl,rfl,vb (decide (z.2∈up W z.1)),GN (neg:=false) (fr:=false) (bs:=[]) rfl (KA (d:=Zi (up W z.1)) (.inl rfl) rfl (by rw[Os,Dk (l z.1 (Qh g).1)];rfl)),rfl⟩
 have n:(a.zip b).length<=a.length:=by rw[List.length_zip];exact ID _ _
 have i:Z2 X4 (Z9 1) (Z9 2) [.pl (.dict (dS Zi (ZX W))),.pl (ZI a),.pl (ZI b)]=some (vb (!(a==b))):=by
  show((X4 (ZI a) (ZI b)).bind λz=>some (⟨z.1,z.2,ZM z.1 ([]++[])⟩:Yo))=_;rw[B6 h1 h2];rfl
 have c:=Ei (f:=λz:Str×Str=>decide (z.2∈up W z.1)) (VU (own:=["low","high"]) (fr:=[0]) j (by rw[qD];omega) k);refine zgd (env:=[.pl (.dict (dS Zi (ZX W))),.pl (ZI a),.pl (ZI b)]) rfl (Uy (bs:=[]) ?_);unfold WK;rw[i,qB];unfold YV
 cases a==b with
 | true=>rfl
 | false=>exact c
structure ZD(W:YD)(rs:List (Str×List Str)):Prop where
 low:∀r∈rs,Yx r.2
 kinds:∀r∈rs,∀k∈r.2,k∈nm W
 few:∀r∈rs,r.2.length<300
 len:rs.length<300
theorem ZD.filter{rs:List (Str×List Str)}(h:ZD W rs)(p:Str×List Str->Bool):ZD W (rs.filter p):=
 ⟨λr a=>h.low r (qj.mp a).1,λr a=>h.kinds r (qj.mp a).1,λr a=>h.few r (qj.mp a).1,LM (PL _ _) h.len⟩
structure Ye(W:YD)(c:List YZ):Prop where
 len:c.length<300
 few:∀a∈c,a.parts.length<300
 kinds:∀a∈c,∀n∈a.parts,n∈nm W
def ZO(W:YD)(rs:List (Str×List Str))(c:List YZ):List (Str×List Str):=rs.filter λr=>W5 W r.2 c
def Zo(W:YD)(rs:List (Str×List Str)):List (Str×List Str):=rs.filter λr=>!(rs.any λq=>YV W q.2 r.2)
theorem En{rs:List Yo}(h:f env=some rs)(a:rs.length=n)(k:g (XX rs)=some (.bool b,false)):Zt (ZG n g f) env=some b:=by
 unfold Zt;rw[Yp h a k];rfl
theorem Py{α:Type}{f:α->Bool}{l:List α}{a:EF}{env:ZY}{fr:Bool}{bs:List Nat}(b:a env=some ⟨.list (l.map λx=>.bool (f x)),fr,bs⟩):Zy (XJ λbs=>bs.any id) (Z7 a Z8) env=some (vb (l.any f)):=by
 unfold Zy;rw[XP b,qB];show((Nb (l.map λx=>.bool (f x))).map _).bind _=_;rw[rY];simp only[Ru,qB,KY];rfl
theorem BY(h:ZV W)(a:ZD W rs):PP [.dict (dS Zi (ZX W)),ZN rs]=some (ZN (Zo W rs),true):=by
 have c:=a.len
 have k:X5 (gN 0) (Xk (Zt (Zy (XJ λbs=>bs.any id) (Z7 (YB ["name","kinds"] [0,1] (Zl (Z9 2)) (gT 2 (Zw 0 (Zw 1 YE))) Yk (ZG 3 Ow (Z7 (Z9 3) (Z7 (Z9 1) (Z7 (ZZ 2 (eC (.int 1))) Z8))))) Z8)))) (Z9 0) [.no,.pl (.dict (dS Zi (ZX W))),.pl (ZN rs)] (rs.map Zm)=some ((Zo W rs).map Zm):=by
  refine zcj (enc:=Zm) (out:=Zm) (e:=Z9 0) (λr=>!(rs.any λq=>YV W q.2 r.2)) λr g=>⟨[.pl (Zm r),.pl (.dict (dS Zi (ZX W))),.pl (ZN rs)],rfl,?_,λ_=>⟨⟨Zm r,false,[]⟩,rfl,rfl⟩⟩
  have d:X5 (gT 2 (Zw 0 (Zw 1 YE))) Yk (ZG 3 Ow (Z7 (Z9 3) (Z7 (Z9 1) (Z7 (ZZ 2 (eC (.int 1))) Z8)))) [.no,.no,.pl (Zm r),.pl (.dict (dS Zi (ZX W)))] (rs.map Zm)=some (rs.map λq=>.bool (YV W q.2 r.2)):=
   zdj λq b=>⟨[.pl (.str q.1),.pl (ZI q.2),.pl (Zm r),.pl (.dict (dS Zi (ZX W)))],rfl,rfl,_,Yp (n:=3) (rs:=[⟨.dict (dS Zi (ZX W)),false,[]⟩,⟨ZI q.2,false,[]⟩,⟨ZI r.2,false,[]⟩]) rfl rfl (kd h (a.low q b) (a.low r g) (a.kinds q b) (a.few q b)),rfl⟩
  exact Rq (Py (f:=λq:Str×List Str=>YV W q.2 r.2) (VU (own:=["name","kinds"]) (fr:=[0,1]) (fi:=Zl (Z9 2)) (env:=[.pl (Zm r),.pl (.dict (dS Zi (ZX W))),.pl (ZN rs)]) (ds:=rs.map Zm) (bs:=[]) rfl (by rw[qD];omega) d))
 exact zgd (env:=[.pl (.dict (dS Zi (ZX W))),.pl (ZN rs)]) rfl (Uy (VU (own:=["rule"]) (fr:=[0,1]) (fi:=Zl (Z9 1)) (ds:=rs.map Zm) (bs:=[]) rfl (by rw[qD];omega) k))
theorem E7{rs:List (Str×List Str)}(a:rs.length<300):Ta [ZN rs]=some (Z4 (rs.map (·.1)),true):=by
 have k:X5 (gT 2 (Zw 0 (Zw 1 YE))) Yk (Z9 0) [.no,.no] (rs.map Zm)=some (rs.map λr=>.str r.1):=zdj λr _=>⟨[.pl (.str r.1),.pl (ZI r.2)],rfl,rfl,vs r.1,rfl,rfl⟩;have e:(rs.map λr=>PyData.str r.1)=(rs.map (·.1)).map .str:=by rw[TX];rfl
 rw[e]at k;exact zgd (env:=[.pl (ZN rs)]) rfl (Uy (VU (own:=["name","kinds"]) (fr:=[]) (fi:=Zl (Z9 0)) (ds:=rs.map Zm) (bs:=[]) rfl (by rw[qD];omega) k))
def YO:List Str->PyData
 | []=>.tuple [.str "none"]
 | [x]=>.tuple [.str "rule",.str x]
 | xs=>.tuple [.str "quarrel",ZI xs]
theorem ju:∀(a:List Str),K3 [Z4 a]=some (YO a,false)
 | []=>rfl
 | [x]=>rfl
 | x::y::a=>by
  have t:Zk (Z2 XT (Zy Zp (Z7 (Z9 0) Z8)) (eC (.int 1))) [.pl (Z4 (x::y::a))]=some false:=by
   rw[zdv (Q0 (i:=((x::y::a).map PyData.str).length) (j:=1) (Q2 rfl) rfl)];congr 1
  exact zgd (env:=[.pl (Z4 (x::y::a))]) rfl (Zh (if_f rfl rfl) (Zh (if_f t rfl) rfl))
theorem rD(h:ZV W){c:List YZ}(f:ZD W rs)(b:Ye W c):PJ [Zs W c.length rs,ZQ c]=some (ZN (ZO W rs c),true):=by
 have i:=f.len
 have d:Z1 5 (ZG 2 Gh (Z7 (ZG 1 R7 (Z7 (Z9 2) Z8)) (Z7 (Z9 1) Z8))) [.pl (Zs W c.length rs),.pl (ZQ c),.pl (ZT W),.pl (.int c.length),.pl (ZN rs),.no]=some (.nx [.pl (Zs W c.length rs),.pl (ZQ c),.pl (ZT W),.pl (.int c.length),.pl (ZN rs),.ac (.list (c.map λa=>Zi (Xu W a)))]):=
  zbe (r:=⟨.list (c.map λa=>Zi (Xu W a)),true,[]⟩) (Yp (n:=2) (rs:=[⟨.dict (dS Zi (ZX W)),true,[]⟩,⟨ZQ c,false,[]⟩]) (UE (Yp (n:=1) (rs:=[⟨ZT W,false,[]⟩]) rfl rfl (DP h)) (XP rfl)) rfl (ix h b.len b.kinds))
 have k:X5 (gN 0) (Zt (ZG 2 Er (Z7 (ZZ 0 (eC (.int 1))) (Z7 (Z9 1) Z8)))) (Z9 0) [.no,.pl (.list (c.map λa=>Zi (Xu W a)))] (rs.map Zm)=some ((ZO W rs c).map Zm):=
  zcj (enc:=Zm) (out:=Zm) (e:=Z9 0) (λr=>W5 W r.2 c) λr g=>⟨[.pl (Zm r),.pl (.list (c.map λa=>Zi (Xu W a)))],rfl,En (n:=2) (rs:=[⟨ZI r.2,false,[]⟩,⟨.list (c.map λa=>Zi (Xu W a)),false,[]⟩]) rfl rfl (Az b.len),λ_=>⟨⟨Zm r,false,[]⟩,rfl,rfl⟩⟩
 exact zgd (env:=[.pl (Zs W c.length rs),.pl (ZQ c),.no,.no,.no,.no]) rfl (Zh rfl (Zh (JC (Yp (n:=3) (rs:=[⟨ZT W,false,[]⟩,vi c.length,⟨ZQ c,false,[]⟩]) rfl rfl (xq h b.len b.few b.kinds))) (Zh d (Uy (VU (own:=["rule"]) (fr:=[5]) (fi:=Zl (Z9 4)) (ds:=rs.map Zm) (bs:=[]) rfl (by rw[qD];omega) k)))))
theorem vQ(h:ZV W){c:List YZ}(a:ZD W rs)(f:Ye W c):CA [Zs W c.length rs,ZQ c]=some (Z4 ((Zo W (ZO W rs c)).map (·.1)),true):=by
 have d:Z1 2 (ZG 2 PJ (Z7 (Z9 0) (Z7 (Z9 1) Z8))) [.pl (Zs W c.length rs),.pl (ZQ c),.no]=some (.nx [.pl (Zs W c.length rs),.pl (ZQ c),.ac (ZN (ZO W rs c))]):=
  zbe (r:=⟨ZN (ZO W rs c),true,[]⟩) (Yp (n:=2) (rs:=[⟨Zs W c.length rs,false,[]⟩,⟨ZQ c,false,[]⟩]) rfl rfl (rD h a f))
 have e:ZG 1 R7 (Z7 (ZZ 0 (eC (.int 0))) Z8) [.pl (Zs W c.length rs),.pl (ZQ c),.ac (ZN (ZO W rs c))]=some ⟨.dict (dS Zi (ZX W)),true,[]⟩:=Yp (n:=1) (rs:=[⟨ZT W,false,[]⟩]) rfl rfl (DP h);have b:ZG 2 PP (Z7 (ZG 1 R7 (Z7 (ZZ 0 (eC (.int 0))) Z8)) (Z7 (Z9 2) Z8)) [.pl (Zs W c.length rs),.pl (ZQ c),.ac (ZN (ZO W rs c))]=some ⟨ZN (Zo W (ZO W rs c)),true,[2]⟩:=Yp (n:=2) (rs:=[⟨.dict (dS Zi (ZX W)),true,[]⟩,⟨ZN (ZO W rs c),false,[2]⟩]) (UE e (XP rfl)) rfl (BY h (a.filter _));exact zgd (env:=[.pl (Zs W c.length rs),.pl (ZQ c),.no]) rfl (Zh d (Uy (Yp (n:=1) (rs:=[⟨ZN (Zo W (ZO W rs c)),true,[2]⟩]) (XP b) rfl (E7 ((a.filter _).filter _).len))))
theorem zo(h:ZV W){c:List YZ}(b:ZD W rs)(a:Ye W c):Fl [Zs W c.length rs,ZQ c]=some (YO ((Zo W (ZO W rs c)).map (·.1)),false):=
 zgd (env:=[.pl (Zs W c.length rs),.pl (ZQ c)]) rfl (Uy (Yp (n:=1) (rs:=[⟨Z4 ((Zo W (ZO W rs c)).map λr:Str×List Str=>r.1),true,[]⟩]) (XP (Yp (n:=2) (rs:=[⟨Zs W c.length rs,false,[]⟩,⟨ZQ c,false,[]⟩]) rfl rfl (vQ h b a))) rfl (ju _)))
theorem hL(h:ZV W)(a:ZD W rs):C1 [.dict (dS Zi (ZX W)),ZN rs]=some (YO ((Zo W rs).map (·.1)),false):=
 zgd (env:=[.pl (.dict (dS Zi (ZX W))),.pl (ZN rs)]) rfl (Uy (Yp (n:=1) (rs:=[⟨Z4 ((Zo W rs).map λr:Str×List Str=>r.1),true,[]⟩]) (XP (Yp (n:=1) (rs:=[⟨ZN (Zo W rs),true,[]⟩]) (XP (Yp (n:=2) (rs:=[⟨.dict (dS Zi (ZX W)),false,[]⟩,⟨ZN rs,false,[]⟩]) rfl rfl (BY h a))) rfl (E7 (rs:=Zo W rs) (a.filter _).len))) rfl (ju _)))
def Cg(x:Str):Prop:=∃a b,∀c∈x.cps.toList,c=a\/c=b
theorem yL{x:Str}(h:c∈(Txt.slice x l u).cps.toList):c∈x.cps.toList:=by
 unfold Txt.slice at h;split at h
 ·exact h
 ·have h:c∈(List.filterMap (x.cps[·]?) (Builtin.Str.strSliceIndices l u 1 x.length)):=by simpa using h
  obtain⟨i,_,e⟩:=Fy.mp h;have:=lG e;simpa using this
theorem zajc{x y:List Str}(d:a env=some ⟨Z4 x,f1,b1⟩)(c:b env=some ⟨Z4 y,f2,b2⟩)(h:x.length+y.length<=100000):Z2 Zr a b env=some ⟨Z4 (x++y),true,b1++b2⟩:=by
 unfold Z2;rw[d,c];show((if(x.map PyData.str).length+(y.map PyData.str).length<=100000 then some (PyData.list (x.map .str++y.map .str),true)else none).bind λz=>some (⟨z.1,z.2,ZM z.1 (b1++b2)⟩:Yo))=_;rw[if_pos (by rw[qD,qD];exact h),<- qx];rfl
theorem S6{x y:List Str}(d:a env=some ⟨Z4 x,f,bs⟩)(b:l env=some lo)(c:h env=some hi)(e:X1 (x.map .str) lo hi=y.map .str):Ys a l h env=some ⟨Z4 y,true,bs⟩:=by
 unfold Ys;rw[d,b,c];show(some (PyData.list (X1 (x.map .str) lo hi),true)).bind (λz=>some (⟨z.1,z.2,ZM z.1 bs⟩:Yo))=_;rw[e];rfl
theorem Aj{c:Str}(h:∃a,∀x∈c.cps.toList,x=a)(g:0<=st)(k:Nat):Cg (Vn i o st c f k):=by
 obtain⟨a,d⟩:=h;have e:∀(z:Int)(x:Nat),x∈(ltr z).cps.toList->x=97+z.toNat:=λz x b=>by unfold ltr at b;simpa using b
 unfold Vn;split
 ·refine⟨a,97+((o+st * k) % 26).toNat,λx b=>?_⟩;rw[Mx,Mx]at b;rcases qk.mp b with b|b
  ·rcases qk.mp b with b|b
   ·exact .inl (d x (yL b))
   ·exact .inr (e _ x b)
  ·exact .inl (d x (yL b))
 ·split
  ·refine⟨a,97+((o+st * k) % 26).toNat,λx b=>?_⟩;rw[Mx]at b;rcases qk.mp b with b|b
   ·exact .inl (d x (yL b))
   ·exact .inr (e _ x b)
  ·refine⟨97+((o+(k:Int) / 8) % 26).toNat,0,λx b=>.inl ?_⟩;unfold ltr at b;have:=Ve ((k:Int) * st) (show(8:Int)≠0 by decide);rw[Jw (by omega)]at b;exact B7 b
def XN:List Str:=["none","rule","quarrel","near","far","out"]
theorem KL{x:Str}(h1:a∈x.cps.toList)(h2:b∈x.cps.toList)(h3:c∈x.cps.toList)(d:a≠b)(f:a≠c)(e:b≠c):¬Cg x:=by
 rintro⟨p,q,h⟩;have:=h a h1;have:=h b h2;have:=h c h3;omega
theorem B0:∀x∈XN,¬Cg x:=by
 intro x d;unfold XN at d;simp only[qN,Pz,or_false]at d;rcases d with rfl|rfl|rfl|rfl|rfl|rfl
 ·exact KL (a:=110) (b:=111) (c:=101) (by decide +kernel) (by decide +kernel) (by decide +kernel) (by decide) (by decide) (by decide)
 ·exact KL (a:=114) (b:=117) (c:=108) (by decide +kernel) (by decide +kernel) (by decide +kernel) (by decide) (by decide) (by decide)
 ·exact KL (a:=113) (b:=117) (c:=97) (by decide +kernel) (by decide +kernel) (by decide +kernel) (by decide) (by decide) (by decide)
 ·exact KL (a:=110) (b:=101) (c:=97) (by decide +kernel) (by decide +kernel) (by decide +kernel) (by decide) (by decide) (by decide)
 ·exact KL (a:=102) (b:=97) (c:=114) (by decide +kernel) (by decide +kernel) (by decide +kernel) (by decide) (by decide) (by decide)
 ·exact KL (a:=111) (b:=117) (c:=116) (by decide +kernel) (by decide +kernel) (by decide +kernel) (by decide) (by decide) (by decide)
theorem w5:XN.Nodup:=by decide +kernel
theorem pL:∀x∈XN,Xv x:=by
 intro x a;unfold XN at a;simp only[qN,Pz,or_false]at a;unfold Xv;rcases a with rfl|rfl|rfl|rfl|rfl|rfl<;>decide +kernel
theorem P3(ds:List PyData)(k:Nat):X1 ds (some (k:Int)) none=ds.drop k:=by
 unfold X1;have a:HT.sIx ds.length ds.length none=ds.length:=rfl;rw[a,HT.sIx_nat];rcases Nat.le_total k ds.length with h|h
 ·rw[Nat.min_eq_left h,List.take_of_length_le (by rw[Sb];exact qM _)]
 ·rw[Nat.min_eq_right h,KU,kZ h,List.take_nil]
theorem uQ:∀x∈XN,x.length<=20:=by decide +kernel
theorem j2{m c:Int}(m0:0<=m)(a8:m<=16)(c0:0<=c):∃xs:List Str,Q8 [.int m,.int c]=some (Z4 xs,true)/\xs.length=m.toNat/\xs.Nodup/\∀x∈xs,Xv x/\x.length<=20:=by
 have C:∀(z j:Int),0<j->0<=z % j/\z % j<j:=λz j hj=>⟨Ve z (by omega),Tc z hj⟩;have i8:=C (c / 3) 8 (by decide);obtain⟨n,a2,w⟩:=rq i8.1 i8.2
 have M:0<=n/\n<100:=by
  simp only[qN,CV,or_false]at w;rcases w with rfl|rfl|rfl|rfl|rfl|rfl|rfl|rfl<;>decide
 have I:=C (c / 24) 26 (by decide);have N:=C (c / 624) 26 (by decide);have W:=C (c / 16224) 8 (by decide);have D:Xv (Txt.mul (ltr (c / 624 % 26)) (c / 16224 % 8)):=Xv.mul (by omega) W.1;have s:(Txt.mul (ltr (c / 624 % 26)) (c / 16224 % 8)).length<=7:=by unfold ltr;rw[GI W.1];omega
 have s3:Z1 3 (Z2 Xb (ZE (Z7 (eC (.int 1)) (Z7 (eC (.int 3)) (Z7 (eC (.int 5)) (Z7 (eC (.int 7)) (Z7 (eC (.int 9)) (Z7 (eC (.int 11)) (Z7 (eC (.int 15)) (Z7 (eC (.int 17)) Z8))))))))) (Z2 ZR (Z2 Yn (Z9 1) (eC (.int 3))) (eC (.int 8)))) [.pl (.int m),.pl (.int c),.pl (.str V6),.no,.no,.no,.no,.no,.no,.no,.no,.no]=some (.nx [.pl (.int m),.pl (.int c),.pl (.str V6),.pl (.int n),.no,.no,.no,.no,.no,.no,.no,.no]):=by
  refine zbe (r:=vi n) ?_;unfold Z2;show((some (⟨.tuple [PyData.int 1,.int 3,.int 5,.int 7,.int 9,.int 11,.int 15,.int 17],false,[]⟩:Yo)).bind λx=>((some (vi (c / 3 % 8))).bind λy=>(Xb x.d y.d).bind λz=>some (⟨z.1,z.2,ZM z.1 (x.bs++y.bs)⟩:Yo)))=_;simp only[qB,Xb];rw[a2];rfl
 have Z:Z1 5 (Z2 Ya (ZZ 2 (Z2 ZR (Z2 Yn (Z9 1) (eC (.int 624))) (eC (.int 26)))) (Z2 ZR (Z2 Yn (Z9 1) (eC (.int 16224))) (eC (.int 8)))) [.pl (.int m),.pl (.int c),.pl (.str V6),.pl (.int n),.pl (.int (c / 24 % 26)),.no,.no,.no,.no,.no,.no,.no] =
   some (.nx [.pl (.int m),.pl (.int c),.pl (.str V6),.pl (.int n),.pl (.int (c / 24 % 26)),.pl (.str (Txt.mul (ltr (c / 624 % 26)) (c / 16224 % 8))),.no,.no,.no,.no,.no,.no]):=
  zbe (r:=vs _) (GJ (Nc rfl rfl N.1 N.2) rfl ⟨by show 1<=1000;decide,by omega,by omega⟩)
 have E:∃a,∀x∈(Txt.mul (ltr (c / 624 % 26)) (c / 16224 % 8)).cps.toList,x=a:=⟨_,λx t=>by
  unfold ltr at t;rw[Jw W.1]at t;exact B7 t⟩
 generalize hO:c / 24 % 26=o at I Z;generalize Txt.mul (ltr (c / 624 % 26)) (c / 16224 % 8)=stem at D s Z E;clear N W i8
 have s6:∃g:Int,Z1 6 (Z2 ZR (Z2 Yn (Z9 1) (eC (.int 129792))) (Z2 Zr (Zy Zp (Z7 (Z9 5) Z8)) (eC (.int 1)))) [.pl (.int m),.pl (.int c),.pl (.str V6),.pl (.int n),.pl (.int o),.pl (.str stem),.no,.no,.no,.no,.no,.no]=some (.nx [.pl (.int m),.pl (.int c),.pl (.str V6),.pl (.int n),.pl (.int o),.pl (.str stem),.pl (.int g),.no,.no,.no,.no,.no]):=
  ⟨_,zbe (r:=vi _) (Wy rfl (QJ (Il rfl (by omega)) rfl) (by omega))⟩
 obtain⟨g,s6⟩:=s6
 have U:∃v,YH (gN 8) (Z0 (Z1 9 (ZZ 2 (Z2 ZR (Z2 Zr (Z9 4) (Z2 Ya (Z9 3) (Z9 8))) (eC (.int 26)))))
  (YA (Zk (Z2 XT (Z2 ZR (Z9 1) (eC (.int 3))) (eC (.int 0)))) (Zc 7 (Z2 Zr (Z2 Zr (Ys (Z9 5) XC (YC (Z9 6))) (Z9 9)) (Ys (Z9 5) (YC (Z9 6)) XC))) (YA (Zk (Z2 XT (Z2 ZR (Z9 1) (eC (.int 3))) (eC (.int 1)))) (Zc 7 (Z2 Zr (Ys (Z9 5) XC (YC (Z2 ZR (Z2 Ya (Z9 8) (Z9 3)) (Z2 Zr (Zy Zp (Z7 (Z9 5) Z8)) (eC (.int 1)))))) (Z9 9))) (Zc 7 (Z2 Ya (ZZ 2 (Z2 ZR (Z2 Zr (Z9 4) (Z2 Yn (Z9 8) (eC (.int 8)))) (eC (.int 26)))) (Z2 Zr (eC (.int 1)) (Z2 ZR (Z2 Ya (Z9 8) (Z9 3)) (eC (.int 8)))))))))
   ((List.range m.toNat).map λ(k:Nat)=>PyData.int (k:Int)) [.pl (.int m),.pl (.int c),.pl (.str V6),.pl (.int n),.pl (.int o),.pl (.str stem),.pl (.int g),.ac (.list []),.no,.no,.no,.no]=some (.nx v)/\
   ∃A u,v=[.pl (.int m),.pl (.int c),.pl (.str V6),.pl (.int n),.pl (.int o),.pl (.str stem),.pl (.int g),.ac (Z4 ((List.range m.toNat).map (Vn (c % 3) o n stem g))),A,u,.no,.no]:=by
  refine Uv (λp B=>∃A u,B=[.pl (.int m),.pl (.int c),.pl (.str V6),.pl (.int n),.pl (.int o),.pl (.str stem),.pl (.int g),.ac (Z4 (p.map (Vn (c % 3) o n stem g))),A,u,.no,.no]) ⟨_,_,rfl⟩ ?_;rintro p k a6 B hk ⟨A,u,rfl⟩;have a7:k<m.toNat:=TY.mp (by rw[<- hk];simp)
  have a5:p.length<100:=by
   have:=congrArg List.length hk;simp at this;omega
  have b1:0<=n * (k:Int):=t8 M.1 (Int.natCast_nonneg _);have R:=C (o+n * (k:Int)) 26 (by decide);have G:∀a b,(Txt.slice stem a b).length<=7:=λa b=>WT (Txt.slice_le stem a b) s;have X:stem.length<=100000:=WT s (by decide);have l1:(ltr ((o+n * (k:Int)) % 26)).length=1:=rfl;refine⟨_,[.pl (.int m),.pl (.int c),.pl (.str V6),.pl (.int n),.pl (.int o),.pl (.str stem),.pl (.int g),.ac (Z4 ((p++[k]).map (Vn (c % 3) o n stem g))),.pl (.int (k:Int)),.pl (.str (ltr ((o+n * (k:Int)) % 26))),.no,.no],rfl,.inl ?_,_,_,rfl⟩;refine Zh (zbe (r:=vs _) (Nc rfl (Wy (QJ rfl (O4 rfl rfl (.inl ⟨by omega,by omega⟩))) rfl (by decide)) R.1 R.2)) ?_
  have H:∀x:Str,x=Vn (c % 3) o n stem g k->(PyData.list ((p.map (Vn (c % 3) o n stem g)).map PyData.str++[.str x]))=Z4 ((p++[k]).map (Vn (c % 3) o n stem g)):=λx e=>by
   unfold Z4;rw[qx,qx,e];rfl
  have lp:((p.map (Vn (c % 3) o n stem g)).map PyData.str).length<100000:=by rw[qD,qD];exact CL a5 (by decide)
  by_cases h0:c % 3=0
  ·refine WO (zdv (by rw[Q0 (Wy rfl rfl (by decide)) rfl];rw[h0];rfl)) ?_;have z1:=G none (some g);have z2:=G (some g) none;refine(OP rfl (ME (ME (MQ rfl rfl (RN rfl) X) rfl (by omega)) (MQ rfl (RN rfl) rfl X) (by rw[OZ];omega)) lp).trans ?_;rw[H _ (by unfold Vn;rw[if_pos h0])];rfl
  ·refine if_f (zdv (by rw[Q0 (Wy rfl rfl (by decide)) rfl];rw[beq_eq_false_iff_ne.mpr h0])) ?_;by_cases O:c % 3=1
   ·refine WO (zdv (by rw[Q0 (Wy rfl rfl (by decide)) rfl];rw[O];rfl)) ?_;have z1:=G none (some ((k:Int) * n % ((stem.length:Int)+1)));refine(OP rfl (ME (MQ rfl rfl (RN (Wy (O4 rfl rfl (.inr ⟨by omega,by omega⟩)) (QJ (Il rfl X) rfl) (by omega))) X) rfl (by omega)) lp).trans ?_;rw[H _ (by unfold Vn;rw[if_neg h0,if_pos O])];rfl
   ·refine if_f (zdv (by rw[Q0 (Wy rfl rfl (by decide)) rfl];rw[beq_eq_false_iff_ne.mpr O])) ?_;have T:=C (o+(k:Int) / 8) 26 (by decide);have u8:=C ((k:Int) * n) 8 (by decide);refine(OP rfl (GJ (Nc rfl (Wy (QJ rfl (Rv rfl rfl (by decide) (by decide))) rfl (by decide)) T.1 T.2) (QJ rfl (Wy (O4 rfl rfl (.inr ⟨by omega,by omega⟩)) rfl (by decide))) ⟨by show 1<=1000;decide,by omega,by omega⟩) lp).trans ?_;rw[H _ (by unfold Vn;rw[if_neg h0,if_neg O])];rfl
 obtain⟨v,hl,A,u,rfl⟩:=U;generalize hN:(List.range m.toNat).map (Vn (c % 3) o n stem g)=xs at hl;have lx:xs.length=m.toNat:=by rw[<- hN];simp
 have nx:xs.Nodup:=by rw[<- hN];exact hV λa b ha S e=>zC w I.1 (by omega) (by omega) e
 have lo:∀x∈xs,Xv x/\x.length<=20:=λx t=>by
  rw[<- hN]at t;obtain⟨j,_,rfl⟩:=qo.mp t;refine⟨BG D I.1 M.1 j,?_⟩;have G:∀a b,(Txt.slice stem a b).length<=7:=λa b=>WT (Txt.slice_le stem a b) s;have l1:∀i,(ltr i).length=1:=λ_=>rfl;unfold Vn;split
  ·rw[OZ,OZ,l1];have O:=G none (some g);have h2:=G (some g) none;omega
  ·split
   ·rw[OZ,l1];have O:=G none (some ((j:Int) * n % ((stem.length:Int)+1)));omega
   ·have u8:=C ((j:Int) * n) 8 (by decide);unfold ltr;rw[GI (by omega)];omega
 have tw:∀x∈xs,Cg x:=λx t=>by
  rw[<- hN]at t;obtain⟨j,_,rfl⟩:=qo.mp t;exact Aj E M.1 j
 have it:Vf (Z7 (Z9 0) Z8) [.pl (.int m),.pl (.int c),.pl (.str V6),.pl (.int n),.pl (.int o),.pl (.str stem),.pl (.int g),.ac (.list []),.no,.no,.no,.no]=some ((List.range m.toNat).map λ(k:Nat)=>PyData.int (k:Int),[]):=by
  unfold Vf;rw[XP (r:=vi m) rfl];simp only[qB];rw[if_pos ⟨by omega,by omega⟩,Dl]
 have Q:∀o',(Z0 (YA (Zk (Z2 XT (Z2 ZR (Z2 Yn (Z9 1) (eC (.int 1038336))) (eC (.int 6))) (eC (.int 5)))) (Z0 (Z1 10 (Y3 (Z7 (eC (.str "none")) (Z7 (eC (.str "rule")) (Z7 (eC (.str "quarrel")) (Z7 (eC (.str "near")) (Z7 (eC (.str "far")) (Z7 (eC (.str "out")) Z8))))))))
  (Z0 (Z1 11 (Z2 ZR (Z2 Yn (Z9 1) (eC (.int 6230016))) (eC (.int 6))))
  (Z1 7 (Ys (Z2 Zr (Z2 Zr (Ys (Z9 10) (YC (Z9 11)) XC) (Ys (Z9 10) XC (YC (Z9 11)))) (Ys (Z9 7) (YC (eC (.int 6))) XC)) XC (YC (Z9 0)))))) Zj)
  (Th 7)) [.pl (.int m),.pl (.int c),.pl (.str V6),.pl (.int n),.pl (.int o),.pl (.str stem),.pl (.int g),.ac (Z4 xs),A,u,.no,.no]=o'->(zL [.pl (.int m),.pl (.int c),.no,.no,.no,.no,.no,.no,.no,.no,.no,.no]=o'):=λo' e=>
  Zh rfl (Zh s3 (Zh (e1:=[.pl (.int m),.pl (.int c),.pl (.str V6),.pl (.int n),.pl (.int o),.no,.no,.no,.no,.no,.no,.no]) (by rw[<- hO];rfl) (Zh Z (Zh s6 (Zh rfl (Zh (U5 it hl) e))))))
 have Y:Zk (Z2 XT (Z2 ZR (Z2 Yn (Z9 1) (eC (.int 1038336))) (eC (.int 6))) (eC (.int 5))) [.pl (.int m),.pl (.int c),.pl (.str V6),.pl (.int n),.pl (.int o),.pl (.str stem),.pl (.int g),.ac (Z4 xs),A,u,.no,.no]=some (c / 1038336 % 6==5):=zdv (Q0 (Wy (Rv rfl rfl (by decide) (by decide)) rfl (by decide)) rfl)
 cases S:(c / 1038336 % 6==5)with
 | false=>
  rw[S]at Y;exact⟨xs,zgd (env:=[.pl (.int m),.pl (.int c),.no,.no,.no,.no,.no,.no,.no,.no,.no,.no]) rfl (Q _ (Zh (if_f Y rfl) rfl)),lx,nx,lo⟩
 | true=>
  rw[S]at Y;have m6:=C (c / 6230016) 6 (by decide);obtain⟨q,hq,q6⟩:∃q:Nat,c / 6230016 % 6=(q:Int)/\q<=6:=⟨(c / 6230016 % 6).toNat,by omega,by omega⟩
  have a0:Z1 11 (Z2 ZR (Z2 Yn (Z9 1) (eC (.int 6230016))) (eC (.int 6))) [.pl (.int m),.pl (.int c),.pl (.str V6),.pl (.int n),.pl (.int o),.pl (.str stem),.pl (.int g),.ac (Z4 xs),A,u,.ac (Z4 XN),.no]=some (.nx [.pl (.int m),.pl (.int c),.pl (.str V6),.pl (.int n),.pl (.int o),.pl (.str stem),.pl (.int g),.ac (Z4 xs),A,u,.ac (Z4 XN),.pl (.int (q:Int))]):=by
   rw[<- hq];exact zbe (r:=vi _) (Wy (Rv rfl rfl (by decide) (by decide)) rfl (by decide))
  have L:X1 (XN.map .str) (some (q:Int)) none=(XN.drop q).map .str:=by rw[P3,J8]
  have J:X1 (XN.map .str) none (some (q:Int))=(XN.take q).map .str:=by rw[L1 _ _ (by simpa [XN]using q6),KQ]
  have P:X1 (xs.map .str) (some ((6:Nat):Int)) none=(xs.drop 6).map .str:=by rw[P3,J8]
  have lW:(XN.drop q++XN.take q).length=6:=by rw[qU,Sb,Pp];show 6 - q+min q 6=6;omega
  have lR:((XN.drop q++XN.take q)++xs.drop 6).length>=m.toNat:=by rw[qU,lW,Sb,lx];omega
  have F:X1 (((XN.drop q++XN.take q)++xs.drop 6).map .str) none (some (m.toNat:Int))=(((XN.drop q++XN.take q)++xs.drop 6).take m.toNat).map .str:=by rw[L1 _ _ (by rw[qD];exact lR),KQ]
  have hm:(m.toNat:Int)=m:=by omega
  rw[hm]at F;have wl:(XN.drop q).length+(XN.take q).length<=100000:=by rw[<- qU,lW];decide
  have a1:Z2 Zr (Ys (Z9 10) (YC (Z9 11)) XC) (Ys (Z9 10) XC (YC (Z9 11))) [.pl (.int m),.pl (.int c),.pl (.str V6),.pl (.int n),.pl (.int o),.pl (.str stem),.pl (.int g),.ac (Z4 xs),A,u,.ac (Z4 XN),.pl (.int (q:Int))]=some ⟨Z4 (XN.drop q++XN.take q),true,[10]++[10]⟩:=
   zajc (S6 (x:=XN) (f:=false) (bs:=[10]) rfl (RN (i:=(q:Int)) rfl) rfl L) (S6 (x:=XN) (f:=false) (bs:=[10]) rfl rfl (RN (i:=(q:Int)) rfl) J) wl
  have a3:Ys (Z9 7) (YC (eC (.int 6))) XC [.pl (.int m),.pl (.int c),.pl (.str V6),.pl (.int n),.pl (.int o),.pl (.str stem),.pl (.int g),.ac (Z4 xs),A,u,.ac (Z4 XN),.pl (.int (q:Int))]=some ⟨Z4 (xs.drop 6),true,[7]⟩:=S6 (x:=xs) (f:=false) (bs:=[7]) rfl (RN (i:=((6:Nat):Int)) rfl) rfl P;have a4:=S6 (l:=XC) (h:=YC (Z9 0)) (zajc a1 a3 (by rw[lW,Sb,lx];omega)) rfl (RN (i:=m) rfl) F;refine⟨((XN.drop q++XN.take q)++xs.drop 6).take m.toNat,zgd (env:=[.pl (.int m),.pl (.int c),.no,.no,.no,.no,.no,.no,.no,.no,.no,.no]) rfl (Q _ (Zh (WO Y (Zh rfl (Zh a0 (zbe a4)))) rfl)),by rw[Pp];omega,?_,λx t=>?_⟩
  ·refine List.Nodup.sublist (sE _ _) ?_
   have pw:(XN.drop q++XN.take q).Perm XN:=by
    have:=List.perm_append_comm (l₁:=XN.drop q) (l₂:=XN.take q)
    rwa [lJ]at this
   refine R0.mpr ⟨pw.nodup_iff.mpr w5,nx.sublist (List.drop_sublist _ _),λa ha b S e=>?_⟩;subst e;exact B0 a (pw.mem_iff.mp ha) (tw a (Qr S))
  ·rcases qk.mp (MY t)with z|z
   ·have hw:x∈XN:=?_;exact⟨pL x hw,uQ x hw⟩;rcases qk.mp z with z|z
    ·exact Qr z
    ·exact MY z
   ·exact lo x (Qr z)
theorem HJ{α:Type}(enc:α->PyData)(l:List α):QS (l.map enc)=((List.range l.length).zip l).map λz=>PyData.tuple [.int (z.1:Nat),enc z.2]:=by
 rw[Hl]
 have:∀(l:List α)(k:Nat),(l.zipIdx k).map (λ(p:α×Nat)=>PyData.tuple [.int (p.2:Int),enc p.1])=(((List.range l.length).map (·+k)).zip l).map λz=>PyData.tuple [.int (z.1:Nat),enc z.2]:=by
  intro l
  induction l with
  | nil=>intro k;rfl
  | cons x l a=>
   intro k;rw[oJ,qL,a,qu,Ih,qL,Oo,qL,Jn];congr 3;rw[TX];refine Pf λj _=>?_;show j+(k+1)=j+1+k;omega
 rw[this l 0];simp
theorem lA(h:ZV W){ks:List Str}{c:List YZ}(E:Ye W c)(M:ks.length<=c.length):VA [.dict (dS Z4 (ZX W)),ZI ks,ZQ c]=some (.bool (W5 W ks c),false):=by
 have B:Kn (Z7 (Z9 1) Z8) [.pl (.dict (dS Z4 (ZX W))),.pl (ZI ks),.pl (ZQ c),.no,.no]=some (((List.range ks.length).zip ks).map λz=>PyData.tuple [.int (z.1:Nat),.str z.2],[]):=by
  show some (QS (ks.map .str),[])=_;rw[HJ]
 have l:=Hq (enc:=λz:Nat×Str=>PyData.tuple [.int (z.1:Nat),.str z.2]) (g:=gT 2 (Zw 3 (Zw 4 YE))) (body:=YA (Xk (Zt (Zy (XJ λbs=>bs.any id) (Z7 (YB ["_law_name"] [0,4] (Zl (ZG 1 Wk (Z7 (ZZ 2 (Z9 3)) Z8))) (gN 0) Yk (Z2 (X3 false) (Z9 2) (X8 1 (Z9 0)))) Z8)))) (Ze (eC (.bool false))) Zj)
  (λz=>(c[z.1]?).elim false λa=>decide (z.2∈Xu W a)) (.bool false) false (λb=>∃u w,b=[.pl (.dict (dS Z4 (ZX W))),.pl (ZI ks),.pl (ZQ c),u,w]) ((List.range ks.length).zip ks) [.pl (.dict (dS Z4 (ZX W))),.pl (ZI ks),.pl (ZQ c),.no,.no] ⟨_,_,rfl⟩ (by
   rintro⟨i,k⟩ H b ⟨u,w,rfl⟩
   have C:i<c.length:=by
    have:=TY.mp (Qh H).1;omega
   have y:c[i]∈c:=SZ _;refine⟨[.pl (.dict (dS Z4 (ZX W))),.pl (ZI ks),.pl (ZQ c),.pl (.int (i:Nat)),.pl (.str k)],rfl,?_⟩
   have N:ZZ 2 (Z9 3) [.pl (.dict (dS Z4 (ZX W))),.pl (ZI ks),.pl (ZQ c),.pl (.int (i:Nat)),.pl (.str k)]=some ⟨ZP c[i],false,[]⟩:=by
    show((Xb (.tuple (c.map ZP)) (.int (i:Nat))).bind λz=>some (⟨z.1,z.2,ZM z.1 ([]++[])⟩:Yo))=_;simp only[Xb];rw[XW (v:=ZP c[i]) (by rw[qW,qH C];rfl)];simp only[Ru,qB];cases c[i]<;>rfl
   have x:Zl (ZG 1 Wk (Z7 (ZZ 2 (Z9 3)) Z8)) [.pl (.dict (dS Z4 (ZX W))),.pl (ZI ks),.pl (ZQ c),.pl (.int (i:Nat)),.pl (.str k)]=some (c[i].parts.map .str,[]):=by
    unfold Zl;rw[Yp (n:=1) (rs:=[⟨ZP c[i],false,[]⟩]) (XP N) rfl (HG c[i])];rfl
   have O:X5 (gN 0) Yk (Z2 (X3 false) (Z9 2) (X8 1 (Z9 0))) [.no,.pl (.dict (dS Z4 (ZX W))),.pl (.str k)] (c[i].parts.map .str)=some (c[i].parts.map λn=>.bool (decide (k∈up W n))):=
    zdj λn G=>⟨[.pl (.str n),.pl (.dict (dS Z4 (ZX W))),.pl (.str k)],rfl,rfl,vb (decide (k∈up W n)),O8 (neg:=false) (fr:=false) (bs:=[]) rfl (KA (d:=Z4 (up W n)) (.inl rfl) rfl (by rw[Os,Dk (E.kinds _ y n G)];rfl)),rfl⟩
   have t:=Rq (Py (f:=λn:Str=>decide (k∈up W n)) (VU (own:=["_law_name"]) (fr:=[0,4]) x (by rw[qD];have:=E.few _ y;omega) O))
   have I:(c[i].parts.any λn=>decide (k∈up W n))=decide (k∈Xu W c[i]):=by
    rw[TH,RF,decide_eq_true_iff,OX];exact⟨λ⟨n,h1,h2⟩=>⟨n,h1,of_decide_eq_true h2⟩,λ⟨n,h1,h2⟩=>⟨n,h1,decide_eq_true h2⟩⟩
   rw[I]at t;have D:((c[i]?).elim false λa=>decide (k∈Xu W a))=decide (k∈Xu W c[i]):=by rw[qH C];rfl
   constructor
   ·intro e;have e:((c[i]?).elim false λa=>decide (k∈Xu W a))=true:=e;rw[D]at e;rw[e]at t;exact⟨_,if_f t rfl,_,_,rfl⟩
   ·intro e;have e:((c[i]?).elim false λa=>decide (k∈Xu W a))=false:=e;rw[D]at e;rw[e]at t;exact WO t rfl)
 have same:(((List.range ks.length).zip ks).all λz=>(c[z.1]?).elim false λa=>decide (z.2∈Xu W a))=W5 W ks c:=by
  have s:∀(ks:List Str)(c:List YZ)(m:Nat)(q:List YZ),ks.length<=c.length->(∀j,q[m+j]?=c[j]?)->((((List.range ks.length).map (·+m)).zip ks).all λz=>(q[z.1]?).elim false λa=>decide (z.2∈Xu W a))=W5 W ks c:=by
   intro ks
   induction ks with
   | nil=>intro c m q _ _;rfl
   | cons k ks L=>
    intro c m q p o
    cases c with
    | nil=>simp at p
    | cons a c=>
     have A:=o 0;rw[Nat.add_zero]at A
     have r:=L c (m+1) q (by simpa using p) λj=>by
      have:=o (j+1);rw[Rg]at this;rw[<- this];congr 1;omega
     unfold W5 at r ⊢;rw[qu,Ih,qL,Oo,SH,Oo,SH,<- r,Jn,A];congr 1;rw[TX];congr 2;refine Pf λj _=>?_;show j+1+m=j+(m+1);omega
  have:=s ks c 0 c M λj=>by rw[Jn]
  simpa using this
 rw[same]at l
 cases hb:W5 W ks c with
 | true=>
  obtain⟨F,J,u,w,rfl⟩:=l.1 hb;exact zgd (env:=[.pl (.dict (dS Z4 (ZX W))),.pl (ZI ks),.pl (ZQ c),.no,.no]) rfl (Zh (U5 B J) rfl)
 | false=>exact zgd (env:=[.pl (.dict (dS Z4 (ZX W))),.pl (ZI ks),.pl (ZQ c),.no,.no]) rfl (GV (U5 B (l.2 hb)))
theorem Ls{ds:List PyData}(e:env[i]?=some (.ac (.list ds)))(b:f env=some ⟨d,fr,bs⟩)(a:ds.length<100000)(c:i∉bs):Zc i f env=some (.nx ((frzs env bs).set i (.ac (.list (ds++[d]))))):=by
 unfold Zc;rw[e,b];show(if ds.length<100000/\i∉bs then _ else _)=_;rw[if_pos ⟨a,c⟩]
theorem FA(d:a env=some (vi i))(c:b env=some (vi j)):Z2 Vj a b env=some (vb (decide (j<i))):=by
 unfold Z2;rw[d,c];rfl
theorem u6(c:Bool)(x a b:Str):X3 c (.str x) (.tuple [.str a,.str b])=some (.bool (if c then !decide (x∈[a,b])else decide (x∈[a,b])),false):=by
 unfold X3;simp only[Vg];rw[if_pos ⟨rfl,Cy [a,b]⟩];have:=Ii [a,b] x;rw[qL,qL,Oa]at this;rw[this]
theorem iH:-(2 ^ 64)<(4:Int)/\(4:Int)<2 ^ 64:=by omega
structure Xg(xs:List Str)(c:List YZ):Prop where
 kinds:∀a∈c,∀n∈a.parts,n∈xs
 few:∀a∈c,a.parts.length<=4
 some:∀a∈c,a.parts≠[]
theorem Xg.snoc{a:YZ}(h:Xg xs c)(h1:∀n∈a.parts,n∈xs)(h2:a.parts.length<=4)(h3:a.parts≠[]):Xg xs (c++[a]):=by
 refine⟨λb d=>?_,λb d=>?_,λb d=>?_⟩<;>rcases qk.mp d with z|z
 ·exact h.kinds b z
 ·rw[Tn.mp z];exact h1
 ·exact h.few b z
 ·rw[Tn.mp z];exact h2
 ·exact h.some b z
 ·rw[Tn.mp z];exact h3
section
variable{A0 A2 A6 s8 s9:Sl}{ds:List PyData}{xs:List Str}{r:Int}{n at_:Nat}
theorem RD{a:ZY}{b:EF}{j:Nat}{i:Int}(h1:a[1]?=some (.pl (Z4 xs)))(d:b a=some (vi i))(e:i=(j:Int))(c:j<xs.length):ZZ 1 b a=some (vs xs[j]):=by
 subst e;exact zagf (ds:=xs.map .str) h1 d (by rw[qW,qH c];rfl)
theorem D0(c:n=xs.length)(b:at_<n):∃a:n - 1 - at_<xs.length,ZZ 1 (Z2 YL (Z2 YL (Z9 5) (eC (.int 1))) (Z9 7)) [A0,.pl (Z4 xs),A2,.ac (.list ds),.pl (.int r),.pl (.int (n:Int)),A6,.pl (.int (at_:Int)),s8,s9]=some (vs (xs[n - 1 - at_]'a)):=by
 have a:n - 1 - at_<xs.length:=by omega
 have e:(n:Int) - 1 - (at_:Int)=((n - 1 - at_:Nat):Int):=by omega
 exact⟨a,RD rfl (P1 (i:=(n:Int) - 1) (j:=(at_:Int)) (P1 (i:=(n:Int)) (j:=1) rfl rfl) rfl) e a⟩
theorem wu(f:n=xs.length)(c:at_<n)(h:ds.length<100000):∃a:YZ,(∀m∈a.parts,m∈xs)/\a.parts.length<=4/\a.parts≠[]/\Zc 3 (ZE (Z7 (ZZ 1 (Z2 YL (Z2 YL (Z9 5) (eC (.int 1))) (Z9 7))) Z8)) [A0,.pl (Z4 xs),A2,.ac (.list ds),.pl (.int r),.pl (.int (n:Int)),A6,.pl (.int (at_:Int)),s8,s9]=some (.nx [A0,.pl (Z4 xs),A2,.ac (.list (ds++[ZP a])),.pl (.int r),.pl (.int (n:Int)),A6,.pl (.int (at_:Int)),s8,s9]):=by
 obtain⟨b,e⟩:=D0 (A0:=A0) (A2:=A2) (A6:=A6) (s8:=s8) (s9:=s9) (ds:=ds) (r:=r) f c;refine⟨.many [xs[n - 1 - at_]'b],λm g=>by rw[Tn.mp g];exact SZ _,by show 1<=4;decide,by simp[YZ.parts],?_⟩;refine OP (i:=3) (ds:=ds) (d:=ZP (.many [xs[n - 1 - at_]'b])) (fr:=false) rfl ?_ h;unfold ZE;rw[XP e];rfl
theorem zi(f:n=xs.length)(c:at_<n)(h:ds.length<100000):∃a:YZ,(∀m∈a.parts,m∈xs)/\a.parts.length<=4/\a.parts≠[]/\Zc 3 (ZZ 1 (Z2 YL (Z2 YL (Z9 5) (eC (.int 1))) (Z9 7))) [A0,.pl (Z4 xs),A2,.ac (.list ds),.pl (.int r),.pl (.int (n:Int)),A6,.pl (.int (at_:Int)),s8,s9]=some (.nx [A0,.pl (Z4 xs),A2,.ac (.list (ds++[ZP a])),.pl (.int r),.pl (.int (n:Int)),A6,.pl (.int (at_:Int)),s8,s9]):=by
 obtain⟨b,e⟩:=D0 (A0:=A0) (A2:=A2) (A6:=A6) (s8:=s8) (s9:=s9) (ds:=ds) (r:=r) f c;refine⟨.one (xs[n - 1 - at_]'b),λm g=>by rw[Tn.mp g];exact SZ _,by show 1<=4;decide,by simp[YZ.parts],?_⟩;exact OP (i:=3) (ds:=ds) (d:=ZP (.one (xs[n - 1 - at_]'b))) (fr:=false) rfl e h
end
def Hd(d:PyData)(s:Sl):Prop:=s=.pl d\/s=.ac d
theorem Fp(h:env[i]?=some s)(a:Hd d s):∃bs,Z9 i env=some ⟨d,false,bs⟩:=by
 unfold Z9;rw[h];rcases a with rfl|rfl
 ·exact⟨_,rfl⟩
 ·exact⟨_,rfl⟩
section
variable{A0 A2 A6 s8 s9:Sl}{ds:List PyData}{xs:List Str}{r:Int}{n at_:Nat}
theorem uW(Q:n=xs.length)(P:at_<n)(h1:1<n)(N:0<=r)(H:ds.length<100000)(D:xs.length<=16):∃(a:YZ)(o u:Sl),(∀m∈a.parts,m∈xs)/\a.parts.length<=4/\a.parts≠[]/\
  (Z0 (Z1 8 (Z2 ZR (Z2 Zr (Z2 Zr (Z9 7) (eC (.int 1))) (Z2 ZR (Z2 Yn (Z9 4) (eC (.int 4))) (Z2 YL (Z9 5) (eC (.int 1))))) (Z9 5)))
  (Z0 (Z1 9 (YB ["_law_name"] [1,7,8] (Zl (Ys (Z9 1) (YC (Z2 YL (Z9 5) (Z2 ZR (Z9 4) (eC (.int 3))))) XC)) (gN 0) (Zk (Z2 (X3 true) (Z9 0) (ZE (Z7 (ZZ 1 (Z9 2)) (Z7 (ZZ 1 (Z9 3)) Z8))))) (Z9 0)))
  (Zc 3 (Zy Xw (Z7 (Z2 Zr (Y3 (Z7 (ZZ 1 (Z9 7)) (Z7 (ZZ 1 (Z9 8)) Z8))) (Z9 9)) Z8))))) [A0,.pl (Z4 xs),A2,.ac (.list ds),.pl (.int r),.pl (.int (n:Int)),A6,.pl (.int (at_:Int)),s8,s9]=some (.nx [A0,.pl (Z4 xs),A2,.ac (.list (ds++[ZP a])),.pl (.int r),.pl (.int (n:Int)),A6,.pl (.int (at_:Int)),o,u]):=by
 have v:∀(z j:Int),0<j->0<=z % j/\z % j<j:=λz j F=>⟨Ve z (by omega),Tc z F⟩;have q:=v ((at_:Int)+1+r / 4 % ((n:Int) - 1)) (n:Int) (by omega);generalize hby:((at_:Int)+1+r / 4 % ((n:Int) - 1)) % (n:Int)=byz at q;obtain⟨d,hb⟩:∃b:Nat,byz=(b:Int):=⟨byz.toNat,by omega⟩;subst hb;have G:d<n:=by omega
 have C:Z1 8 (Z2 ZR (Z2 Zr (Z2 Zr (Z9 7) (eC (.int 1))) (Z2 ZR (Z2 Yn (Z9 4) (eC (.int 4))) (Z2 YL (Z9 5) (eC (.int 1))))) (Z9 5)) [A0,.pl (Z4 xs),A2,.ac (.list ds),.pl (.int r),.pl (.int (n:Int)),A6,.pl (.int (at_:Int)),s8,s9]=some (.nx [A0,.pl (Z4 xs),A2,.ac (.list ds),.pl (.int r),.pl (.int (n:Int)),A6,.pl (.int (at_:Int)),.pl (.int (d:Int)),s9]):=by
  rw[zbe (Wy (QJ (QJ (i:=(at_:Int)) (j:=1) rfl rfl) (Wy (Rv (i:=r) (j:=4) rfl rfl (by decide) (by decide)) (P1 (i:=(n:Int)) (j:=1) rfl rfl) (by omega))) (j:=(n:Int)) rfl (by omega)),hby];rfl
 have O:=v r 3 (by decide);obtain⟨k,hk⟩:∃k:Nat,(n:Int) - r % 3=(k:Int):=⟨((n:Int) - r % 3).toNat,by omega⟩;have h:at_<xs.length:=by omega
 have g:d<xs.length:=by omega
 have B:Zl (Ys (Z9 1) (YC (Z2 YL (Z9 5) (Z2 ZR (Z9 4) (eC (.int 3))))) XC) [A0,.pl (Z4 xs),A2,.ac (.list ds),.pl (.int r),.pl (.int (n:Int)),A6,.pl (.int (at_:Int)),.pl (.int (d:Int)),s9]=some ((xs.drop k).map .str,[]):=by
  unfold Zl
  have J:YC (Z2 YL (Z9 5) (Z2 ZR (Z9 4) (eC (.int 3)))) [A0,.pl (Z4 xs),A2,.ac (.list ds),.pl (.int r),.pl (.int (n:Int)),A6,.pl (.int (at_:Int)),.pl (.int (d:Int)),s9]=some (some (k:Int)):=by
   rw[RN (P1 (i:=(n:Int)) rfl (Wy (i:=r) (j:=3) rfl rfl (by decide))),hk]
  rw[S6 (x:=xs) (y:=xs.drop k) (f:=false) (bs:=[]) rfl J rfl (by rw[P3,J8])];rfl
 let p:Str->Bool:=λx=>!decide (x∈[xs[at_],xs[d]])
 have c:X5 (gN 0) (Zk (Z2 (X3 true) (Z9 0) (ZE (Z7 (ZZ 1 (Z9 2)) (Z7 (ZZ 1 (Z9 3)) Z8))))) (Z9 0) [.no,.pl (Z4 xs),.pl (.int (at_:Int)),.pl (.int (d:Int))] ((xs.drop k).map .str)=some (((xs.drop k).filter p).map .str):=by
  refine zcj p λx D=>⟨[.pl (.str x),.pl (Z4 xs),.pl (.int (at_:Int)),.pl (.int (d:Int))],rfl,zdv ?_,λ_=>⟨vs x,rfl,rfl⟩⟩;have t:ZZ 1 (Z9 2) [.pl (.str x),.pl (Z4 xs),.pl (.int (at_:Int)),.pl (.int (d:Int))]=some (vs xs[at_]):=RD rfl rfl rfl h;have l:ZZ 1 (Z9 3) [.pl (.str x),.pl (Z4 xs),.pl (.int (at_:Int)),.pl (.int (d:Int))]=some (vs xs[d]):=RD rfl rfl rfl g
  have E:ZE (Z7 (ZZ 1 (Z9 2)) (Z7 (ZZ 1 (Z9 3)) Z8)) [.pl (.str x),.pl (Z4 xs),.pl (.int (at_:Int)),.pl (.int (d:Int))]=some ⟨.tuple [.str xs[at_],.str xs[d]],false,[]⟩:=by
   unfold ZE;rw[UE t (XP l)];rfl
  have L:Z2 (X3 true) (Z9 0) (ZE (Z7 (ZZ 1 (Z9 2)) (Z7 (ZZ 1 (Z9 3)) Z8))) [.pl (.str x),.pl (Z4 xs),.pl (.int (at_:Int)),.pl (.int (d:Int))]=((X3 true (.str x) (.tuple [.str xs[at_],.str xs[d]])).bind λz=>some (⟨z.1,z.2,ZM z.1 []⟩:Yo)):=by
   unfold Z2;rw[E];rfl
  rw[L,u6];rfl
 have w:Z1 9 (YB ["_law_name"] [1,7,8] (Zl (Ys (Z9 1) (YC (Z2 YL (Z9 5) (Z2 ZR (Z9 4) (eC (.int 3))))) XC)) (gN 0) (Zk (Z2 (X3 true) (Z9 0) (ZE (Z7 (ZZ 1 (Z9 2)) (Z7 (ZZ 1 (Z9 3)) Z8))))) (Z9 0)) [A0,.pl (Z4 xs),A2,.ac (.list ds),.pl (.int r),.pl (.int (n:Int)),A6,.pl (.int (at_:Int)),.pl (.int (d:Int)),s9]=some (.nx [A0,.pl (Z4 xs),A2,.ac (.list ds),.pl (.int r),.pl (.int (n:Int)),A6,.pl (.int (at_:Int)),.pl (.int (d:Int)),.ac (Z4 ((xs.drop k).filter p))]):=by
  refine zbe (r:=⟨Z4 ((xs.drop k).filter p),true,[]⟩) ?_;rw[VU (own:=["_law_name"]) (fr:=[1,7,8]) (ds:=(xs.drop k).map .str) (bs:=[]) B (by rw[qD,Sb];omega) c,Cy];rfl
 have s:((xs.drop k).filter p).length<=2:=WT (PL _ _) (by rw[Sb];omega);generalize hmo:(xs.drop k).filter p=more at w s;refine⟨.many (xs[at_]::xs[d]::more),.pl (.int (d:Int)),.pl (Z4 more),λm e=>?_,(by show(xs[at_]::xs[d]::more).length<=4;rw[qu,qu];omega),(by simp[YZ.parts]),Zh C (Zh w ?_)⟩
 ·rcases qN.mp e with rfl|e
  ·exact SZ _
  ·rcases qN.mp e with rfl|e
   ·exact SZ _
   ·rw[<- hmo]at e;exact Qr (qj.mp e).1
 ·have t:ZZ 1 (Z9 7) [A0,.pl (Z4 xs),A2,.ac (.list ds),.pl (.int r),.pl (.int (n:Int)),A6,.pl (.int (at_:Int)),.pl (.int (d:Int)),.ac (Z4 more)]=some (vs xs[at_]):=RD rfl rfl rfl h;have l:ZZ 1 (Z9 8) [A0,.pl (Z4 xs),A2,.ac (.list ds),.pl (.int r),.pl (.int (n:Int)),A6,.pl (.int (at_:Int)),.pl (.int (d:Int)),.ac (Z4 more)]=some (vs xs[d]):=RD rfl rfl rfl g
  have M:Y3 (Z7 (ZZ 1 (Z9 7)) (Z7 (ZZ 1 (Z9 8)) Z8)) [A0,.pl (Z4 xs),A2,.ac (.list ds),.pl (.int r),.pl (.int (n:Int)),A6,.pl (.int (at_:Int)),.pl (.int (d:Int)),.ac (Z4 more)]=some ⟨Z4 [xs[at_],xs[d]],true,[]⟩:=by
   unfold Y3;rw[UE t (XP l)];rfl
  have I:=zajc (x:=[xs[at_],xs[d]]) (y:=more) (b:=Z9 9) (f2:=false) (b2:=[9]) M rfl (by show 2+more.length<=100000;omega)
  have A:Zy Xw (Z7 (Z2 Zr (Y3 (Z7 (ZZ 1 (Z9 7)) (Z7 (ZZ 1 (Z9 8)) Z8))) (Z9 9)) Z8) [A0,.pl (Z4 xs),A2,.ac (.list ds),.pl (.int r),.pl (.int (n:Int)),A6,.pl (.int (at_:Int)),.pl (.int (d:Int)),.ac (Z4 more)]=some ⟨ZP (.many (xs[at_]::xs[d]::more)),false,[9]⟩:=by
   unfold Zy;rw[XP I];rfl
  exact Ls (i:=3) (ds:=ds) rfl A H (by decide)
end
theorem Bd{xs:List Str}{c:Int}{p:Nat}(Z:1<=xs.length/\xs.length<=16)(c0:0<=c)(hp:p<=3):∃d:List YZ,Oi [.int c,Z4 xs,.int p]=some (ZQ d,false)/\d.length=p/\Xg xs d:=by
 have m0:∀(z j:Int),0<j->0<=z % j/\z % j<j:=λz j hj=>⟨Ve z (by omega),Tc z hj⟩
 have P:=Uv (enc:=λ(k:Nat)=>PyData.int (k:Int)) (g:=gN 6) (l:=List.range p) (env:=[.pl (.int c),.pl (Z4 xs),.pl (.int p),.ac (.list []),.pl (.int c),.pl (.int (xs.length:Int)),.no,.no,.no,.no])
  (body:=(Z0 (Z1 7 (Z2 ZR (Z9 4) (Z9 5)))
  (Z0 (Z1 4 (Z2 Yn (Z9 4) (Z9 5)))
  (Z0 (YA (Zk (Z2 XT (Z2 ZR (Z9 4) (eC (.int 4))) (eC (.int 2)))) (Zc 3 (ZE (Z7 (ZZ 1 (Z2 YL (Z2 YL (Z9 5) (eC (.int 1))) (Z9 7))) Z8))) (YA (UZ (Zk (Z2 XT (Z2 ZR (Z9 4) (eC (.int 4))) (eC (.int 3)))) (Zk (Z2 Vj (Z9 5) (eC (.int 1))))) (Z0 (Z1 8 (Z2 ZR (Z2 Zr (Z2 Zr (Z9 7) (eC (.int 1))) (Z2 ZR (Z2 Yn (Z9 4) (eC (.int 4))) (Z2 YL (Z9 5) (eC (.int 1))))) (Z9 5)))
  (Z0 (Z1 9 (YB ["_law_name"] [1,7,8] (Zl (Ys (Z9 1) (YC (Z2 YL (Z9 5) (Z2 ZR (Z9 4) (eC (.int 3))))) XC)) (gN 0) (Zk (Z2 (X3 true) (Z9 0) (ZE (Z7 (ZZ 1 (Z9 2)) (Z7 (ZZ 1 (Z9 3)) Z8))))) (Z9 0)))
  (Zc 3 (Zy Xw (Z7 (Z2 Zr (Y3 (Z7 (ZZ 1 (Z9 7)) (Z7 (ZZ 1 (Z9 8)) Z8))) (Z9 9)) Z8))))) (Zc 3 (ZZ 1 (Z2 YL (Z2 YL (Z9 5) (eC (.int 1))) (Z9 7))))))
  (Z1 4 (Z2 Yn (Z9 4) (Z2 Ya (eC (.int 4)) (Z9 5)))))))) (λu t=>∃(d:List YZ) (r:Int) (A w f e:Sl),t=[.pl (.int c),.pl (Z4 xs),.pl (.int p),.ac (.list (d.map ZP)),.pl (.int r),.pl (.int (xs.length:Int)),A,w,f,e]/\0<=r/\d.length=u.length/\Xg xs d)
  ⟨[],c,_,_,_,_,rfl,c0,rfl,⟨λa h=>(nomatch h),λa h=>(nomatch h),λa h=>(nomatch h)⟩⟩ (by
   rintro u k W t hk ⟨d,r,A,w,f,e,rfl,X,y,ok⟩
   have a0:u.length<4:=by
    have:=congrArg List.length hk;simp at this;omega
   have q:=m0 r (xs.length:Int) (by omega);obtain⟨b,hat⟩:∃a:Nat,r % (xs.length:Int)=(a:Int):=⟨(r % (xs.length:Int)).toNat,by omega⟩;have I:b<xs.length:=by omega
   have e7:Z1 7 (Z2 ZR (Z9 4) (Z9 5)) [.pl (.int c),.pl (Z4 xs),.pl (.int p),.ac (.list (d.map ZP)),.pl (.int r),.pl (.int (xs.length:Int)),.pl (.int (k:Int)),w,f,e]=some (.nx [.pl (.int c),.pl (Z4 xs),.pl (.int p),.ac (.list (d.map ZP)),.pl (.int r),.pl (.int (xs.length:Int)),.pl (.int (k:Int)),.pl (.int (b:Int)),f,e]):=by
    rw[zbe (Wy (i:=r) (j:=(xs.length:Int)) rfl rfl (by omega)),hat];rfl
   have J:0<=r / (xs.length:Int):=EK X (by omega);have T:Z1 4 (Z2 Yn (Z9 4) (Z9 5)) [.pl (.int c),.pl (Z4 xs),.pl (.int p),.ac (.list (d.map ZP)),.pl (.int r),.pl (.int (xs.length:Int)),.pl (.int (k:Int)),.pl (.int (b:Int)),f,e]=some (.nx [.pl (.int c),.pl (Z4 xs),.pl (.int p),.ac (.list (d.map ZP)),.pl (.int (r / (xs.length:Int))),.pl (.int (xs.length:Int)),.pl (.int (k:Int)),.pl (.int (b:Int)),f,e]):=zbe (Rv (i:=r) (j:=(xs.length:Int)) rfl rfl (by omega) (by omega));generalize r / (xs.length:Int)=r' at T J;have v:(d.map ZP).length<100000:=by rw[qD];omega
   have C:Zk (Z2 XT (Z2 ZR (Z9 4) (eC (.int 4))) (eC (.int 2))) [.pl (.int c),.pl (Z4 xs),.pl (.int p),.ac (.list (d.map ZP)),.pl (.int r'),.pl (.int (xs.length:Int)),.pl (.int (k:Int)),.pl (.int (b:Int)),f,e]=some (r' % 4==2):=zdv (Q0 (Wy rfl rfl (by decide)) rfl)
   have H:UZ (Zk (Z2 XT (Z2 ZR (Z9 4) (eC (.int 4))) (eC (.int 3)))) (Zk (Z2 Vj (Z9 5) (eC (.int 1)))) [.pl (.int c),.pl (Z4 xs),.pl (.int p),.ac (.list (d.map ZP)),.pl (.int r'),.pl (.int (xs.length:Int)),.pl (.int (k:Int)),.pl (.int (b:Int)),f,e]=some ((r' % 4==3)&&decide (1<(xs.length:Int))):=by
    have N:Zk (Z2 XT (Z2 ZR (Z9 4) (eC (.int 4))) (eC (.int 3))) [.pl (.int c),.pl (Z4 xs),.pl (.int p),.ac (.list (d.map ZP)),.pl (.int r'),.pl (.int (xs.length:Int)),.pl (.int (k:Int)),.pl (.int (b:Int)),f,e]=some (r' % 4==3):=zdv (Q0 (Wy rfl rfl (by decide)) rfl);have S:Zk (Z2 Vj (Z9 5) (eC (.int 1))) [.pl (.int c),.pl (Z4 xs),.pl (.int p),.ac (.list (d.map ZP)),.pl (.int r'),.pl (.int (xs.length:Int)),.pl (.int (k:Int)),.pl (.int (b:Int)),f,e]=some (decide (1<(xs.length:Int))):=zdv (FA rfl rfl);unfold UZ;rw[N,qB,S];cases(r' % 4==3)<;>rfl
   have L:∀(a:YZ)(o s:Sl),Z1 4 (Z2 Yn (Z9 4) (Z2 Ya (eC (.int 4)) (Z9 5))) [.pl (.int c),.pl (Z4 xs),.pl (.int p),.ac (.list (d.map ZP++[ZP a])),.pl (.int r'),.pl (.int (xs.length:Int)),.pl (.int (k:Int)),.pl (.int (b:Int)),o,s]=some (.nx [.pl (.int c),.pl (Z4 xs),.pl (.int p),.ac (.list ((d++[a]).map ZP)),.pl (.int (r' / (4 * (xs.length:Int)))),.pl (.int (xs.length:Int)),.pl (.int (k:Int)),.pl (.int (b:Int)),o,s]):=λa o s=>by
    rw[qx];exact zbe (Rv (i:=r') rfl (O4 (i:=4) (j:=(xs.length:Int)) rfl rfl (.inl iH)) (by omega) (by omega))
   have R:∀{G:SF}(a:YZ)(o s:Sl),(∀m∈a.parts,m∈xs)->a.parts.length<=4->a.parts≠[]->G [.pl (.int c),.pl (Z4 xs),.pl (.int p),.ac (.list (d.map ZP)),.pl (.int r'),.pl (.int (xs.length:Int)),.pl (.int (k:Int)),.pl (.int (b:Int)),f,e]=some (.nx [.pl (.int c),.pl (Z4 xs),.pl (.int p),.ac (.list (d.map ZP++[ZP a])),.pl (.int r'),.pl (.int (xs.length:Int)),.pl (.int (k:Int)),.pl (.int (b:Int)),o,s])->
     ∃O Q,gN 6 (.int (k:Int)) [.pl (.int c),.pl (Z4 xs),.pl (.int p),.ac (.list (d.map ZP)),.pl (.int r),.pl (.int (xs.length:Int)),A,w,f,e]=some O/\((Z0 (Z1 7 (Z2 ZR (Z9 4) (Z9 5))) (Z0 (Z1 4 (Z2 Yn (Z9 4) (Z9 5))) (Z0 G (Z1 4 (Z2 Yn (Z9 4) (Z2 Ya (eC (.int 4)) (Z9 5))))))) O=some (.nx Q)\/(Z0 (Z1 7 (Z2 ZR (Z9 4) (Z9 5))) (Z0 (Z1 4 (Z2 Yn (Z9 4) (Z9 5))) (Z0 G (Z1 4 (Z2 Yn (Z9 4) (Z2 Ya (eC (.int 4)) (Z9 5))))))) O=some (.ct Q))/\
      ∃(x:List YZ)(r:Int)(A w f e:Sl),Q=[.pl (.int c),.pl (Z4 xs),.pl (.int p),.ac (.list (x.map ZP)),.pl (.int r),.pl (.int (xs.length:Int)),A,w,f,e]/\0<=r/\x.length=(u++[k]).length/\Xg xs x:=λ{G} a o s M h2 h3 hg=>
    ⟨_,_,rfl,.inl (Zh e7 (Zh T (Zh hg (L a o s)))),d++[a],_,_,_,_,_,rfl,EK J (by omega),by simp[y],ok.snoc M h2 h3⟩
   cases h2:(r' % 4==2)with
   | true=>
    rw[h2]at C;obtain⟨a,E,F,B,D⟩:=wu (A0:=.pl (.int c)) (A2:=.pl (.int p)) (A6:=.pl (.int (k:Int))) (s8:=f) (s9:=e) (ds:=d.map ZP) (xs:=xs) (r:=r') (n:=xs.length) (at_:=b) rfl I v;exact R a _ _ E F B (WO C D)
   | false=>
    rw[h2]at C
    cases h3:((r' % 4==3)&&decide (1<(xs.length:Int)))with
    | true=>
     rw[h3]at H
     have M:1<xs.length:=by
      have:=of_decide_eq_true (Bool.and_eq_true_iff.mp h3).2;omega
     obtain⟨a,o,s,E,F,B,D⟩:=uW (A0:=.pl (.int c)) (A2:=.pl (.int p)) (A6:=.pl (.int (k:Int))) (s8:=f) (s9:=e) (ds:=d.map ZP) (xs:=xs) (r:=r') (n:=xs.length) (at_:=b) rfl I M J v Z.2;exact R a _ _ E F B (if_f C (WO H D))
    | false=>
     rw[h3]at H;obtain⟨a,E,F,B,D⟩:=zi (A0:=.pl (.int c)) (A2:=.pl (.int p)) (A6:=.pl (.int (k:Int))) (s8:=f) (s9:=e) (ds:=d.map ZP) (xs:=xs) (r:=r') (n:=xs.length) (at_:=b) rfl I v;exact R a _ _ E F B (if_f C (if_f H D)))
 obtain⟨U,P,d,r,A,w,f,e,rfl,_,y,ok⟩:=P
 have el:Zy Zp (Z7 (Z9 1) Z8) [.pl (.int c),.pl (Z4 xs),.pl (.int p),.ac (.list []),.pl (.int c),.no,.no,.no,.no,.no]=some (vi (xs.length:Int)):=by
  have:=Q2 (a:=Z9 1) (env:=[.pl (.int c),.pl (Z4 xs),.pl (.int p),.ac (.list []),.pl (.int c),.no,.no,.no,.no,.no]) (ds:=xs.map .str) (fr:=false) (bs:=[]) rfl;rw[qD]at this;exact this
 have Y:Vf (Z7 (Z9 2) Z8) [.pl (.int c),.pl (Z4 xs),.pl (.int p),.ac (.list []),.pl (.int c),.pl (.int (xs.length:Int)),.no,.no,.no,.no]=some ((List.range p).map (λ(k:Nat)=>PyData.int (k:Int)),[]):=by
  unfold Vf;rw[XP (r:=vi (p:Int)) rfl,qB];simp only;rw[if_pos (by omega),Dl];rfl
 refine⟨d,zgd rfl (Zh rfl (Zh (zbe (r:=vi c) rfl) (Zh (zbe el) (Zh (U5 Y P) (Uy (bs:=[3]) rfl))))),by rw[y,HD],ok⟩
theorem JG:∀(l:List (List Str)),(∀ks∈l,Yx ks)->qw (l.map ZI)=true/\qb (l.map ZI)<=1
 | [],_=>⟨rfl,by simp[qb]⟩
 | ks::l,h=>by
  obtain⟨c,e⟩:=JG l λx a=>h x (qI _ a);obtain⟨b,d⟩:=Mk ks (h ks qX);constructor
  ·rw[qL];simp only[qw,ZI,PyData.canLay0,qe];exact⟨b,c⟩
  ·rw[qL];simp only[qb,ZI,PyData.depth];rw[d];have:qb (l.map λks=>PyData.tuple (ks.map .str))<=1:=e;omega
theorem uo{l:List (List Str)}(h:∀a∈l,Yx a):qm (.list (l.map ZI))=true:=by
 obtain⟨b,c⟩:=JG l h;unfold qm;rw[qe];refine⟨by simpa [PyData.canLay0]using b,decide_eq_true ?_⟩;simp only[PyData.depth];omega
theorem xC(l:List (List Str))(c:List Str):((l.map ZI).any λe=>Xn e (ZI c))=decide (c∈l):=by
 rw[KY,TH,RF,decide_eq_true_iff]
 have e:∀a b:List Str,Xn (ZI a) (ZI b)=(a==b):=λa b=>by
  unfold ZI;simp only[Xn];exact DA a b
 constructor
 ·rintro⟨y,d,h⟩;have h:Xn (ZI y) (ZI c)=true:=h;rw[e,beq_iff_eq]at h;rw[<- h];exact d
 ·intro h;refine⟨c,h,?_⟩;show Xn (ZI c) (ZI c)=true;rw[e];exact beq_self_eq_true _
theorem BZ{l:List (List Str)}(h:∀x∈l,Yx x)(b:Yx a):Tv neg (ZI a) (.list (l.map ZI))=some (.bool (if neg then !decide (a∈l)else decide (a∈l)),false):=by
 unfold Tv;simp only[Vg];rw[if_pos ⟨r6 b,uo h⟩,xC]
theorem NJ(b:∀x∈nm W,Xv x)(h:∀k∈a,k∈nm W):Yx a:=λk c=>HI (b k (h k c))
structure RE(W:YD)(p:Nat)(ts:List Str)(rs:List (Str×List Str)):Prop where
 kinds:∀r∈rs,∀k∈r.2,k∈nm W
 size:∀r∈rs,r.2.length=p
 unl:(rs.map (·.2)).Nodup
 sub:(rs.map (·.1)).Sublist ts
theorem Nq(h:ZV W):∀(m:Nat){x y:Str},(nm W).idxOf y<m->y∈nm W->x∈up W y->x=y\/(nm W).idxOf x<(nm W).idxOf y
 | 0,_,_,hm,_,_=>absurd hm (Ky _)
 | m+1,x,y,hm,hy,hx=>by
  rcases(Nm h hy).mp hx with rfl|⟨e,he,hxe⟩
  ·exact .inl rfl
  ·obtain⟨a,b⟩:=JW h he;rcases Nq h m (by omega) a hxe with rfl|c
   ·exact .inr b
   ·exact .inr (by omega)
theorem sU(h:ZV W)(b:x∈nm W)(c:y∈nm W)(h1:x∈up W y)(h2:y∈up W x):x=y:=by
 rcases Nq h _ (LQ _) c h1 with e|e
 ·exact e
 ·rcases Nq h _ (LQ _) b h2 with a|a
  ·exact a.symm
  ·omega
def UU(W:YD)(a b:List Str):Bool:=(a.zip b).all λz=>decide (z.2∈up W z.1)
theorem Fw:YV W a b=(!(a==b)&&UU W a b):=rfl
theorem IM(h:ZV W):∀{a b c:List Str},a.length=b.length->b.length=c.length->(∀k∈a,k∈nm W)->UU W a b=true->UU W b c=true->UU W a c=true
 | [],_,_,_,_,_,_,_=>rfl
 | x::a,[],_,e,_,_,_,_=>by cases e
 | x::a,y::b,[],_,e,_,_,_=>by cases e
 | x::a,y::b,z::c,e1,e2,hk,h1,h2=>by
  unfold UU at h1 h2 ⊢;simp only[Oo,SH,qe,decide_eq_true_eq]at h1 h2 ⊢;exact⟨FG h _ (LQ _) (hk x qX) h1.1 h2.1,IM h (by simpa using e1) (by simpa using e2) (λk d=>hk k (qI _ d)) h1.2 h2.2⟩
theorem Jg(h:ZV W):∀{a b:List Str},a.length=b.length->(∀k∈a,k∈nm W)->(∀k∈b,k∈nm W)->UU W a b=true->UU W b a=true->a=b
 | [],[],_,_,_,_,_=>rfl
 | [],y::b,e,_,_,_,_=>by cases e
 | x::a,[],e,_,_,_,_=>by cases e
 | x::a,y::b,e,ha,hb,h1,h2=>by
  unfold UU at h1 h2;simp only[Oo,SH,qe,decide_eq_true_eq]at h1 h2;rw[sU h (ha x qX) (hb y qX) h2.1 h1.1,Jg h (by simpa using e) (λk c=>ha k (qI _ c)) (λk c=>hb k (qI _ c)) h1.2 h2.2]
abbrev ZU:=Str×List Str
structure Y8(W:YD)(p:Nat)(S:List ZU):Prop where
 kinds:∀r∈S,∀k∈r.2,k∈nm W
 size:∀r∈S,r.2.length=p
theorem Y8.filter{S:List ZU}(h:Y8 W p S)(f:ZU->Bool):Y8 W p (S.filter f):=
 ⟨λr a=>h.kinds r (qj.mp a).1,λr a=>h.size r (qj.mp a).1⟩
theorem MO:YV W a a=false:=by rw[Fw,beq_self_eq_true];rfl
theorem Me(h:ZV W)(ok:Y8 W p S){a b c:ZU}(d:a∈S)(f:b∈S)(k:c∈S)(h1:YV W a.2 b.2=true)(h2:YV W b.2 c.2=true):YV W a.2 c.2=true:=by
 rw[Fw,qe]at h1 h2 ⊢;have g:=IM h ((ok.size a d).trans (ok.size b f).symm) ((ok.size b f).trans (ok.size c k).symm) (ok.kinds a d) h1.2 h2.2;refine⟨?_,g⟩;rw[zc,beq_eq_false_iff_ne];intro e;have j:=h2.2;rw[<- e]at j;have:=Jg h ((ok.size a d).trans (ok.size b f).symm) (ok.kinds a d) (ok.kinds b f) h1.2 j;have i:=h1.1;rw[this,beq_self_eq_true]at i;cases i
theorem zqp{p q:α->Bool}:∀{l:List α},(∀x∈l,p x=true->q x=true)->(∃y∈l,q y=true/\p y=false)->(l.filter p).length<(l.filter q).length
 | [],_,⟨y,a,_⟩=>by cases a
 | x::l,h,⟨y,a,h1,h2⟩=>by
  have d:(l.filter p).length<=(l.filter q).length:=by
   have:∀{l:List α},(∀x∈l,p x=true->q x=true)->(l.filter p).length<=(l.filter q).length:=by
    intro l
    induction l with
    | nil=>intro _;exact qM _
    | cons x l c=>
     intro h;have i:=c λz b=>h z (qI _ b);rw[Pu,Pu]
     cases hp:p x with
     | true=>rw[h x qX hp];simpa using i
     | false=>
      cases q x
      ·simpa using i
      ·simp;omega
   exact this λz b=>h z (qI _ b)
  rw[Pu,Pu];rcases qN.mp a with rfl|a
  ·rw[h1,h2];simp;omega
  ·have i:=zqp (l:=l) (λz b=>h z (qI _ b)) ⟨y,a,h1,h2⟩
   cases hp:p x with
   | true=>rw[h x qX hp];simpa using i
   | false=>
    cases q x
    ·simpa using i
    ·simp;omega
theorem Qu{r:ZU}:r∈Zo W S↔r∈S/\∀q∈S,YV W q.2 r.2=false:=by
 unfold Zo;rw[qj,zc,List.any_eq_false];constructor
 ·rintro⟨c,a⟩;exact⟨c,λq b=>by simpa using a q b⟩
 ·rintro⟨c,a⟩;exact⟨c,λq b=>by simpa using a q b⟩
theorem ox(h:ZV W){S:List ZU}(ok:Y8 W p S):∀(n:Nat)(x:ZU),x∈S->(S.filter λq=>YV W q.2 x.2).length<n->∃m∈Zo W S,m=x\/YV W m.2 x.2=true
 | 0,_,_,hn=>absurd hn (Ky _)
 | n+1,x,hx,hn=>by
  by_cases b:∃y∈S,YV W y.2 x.2=true
  ·obtain⟨y,c,a⟩:=b
   have lt:(S.filter λq=>YV W q.2 y.2).length<(S.filter λq=>YV W q.2 x.2).length:=
    zqp (λz f d=>Me h ok f c hx d a) ⟨y,c,a,MO⟩
   obtain⟨m,b,e⟩:=ox h ok n y c (by omega);refine⟨m,b,.inr ?_⟩;rcases e with rfl|e
   ·exact a
   ·exact Me h ok (Qu.mp b).1 c hx e a
  ·refine⟨x,Qu.mpr ⟨hx,λq g=>?_⟩,.inl rfl⟩
   cases hb:YV W q.2 x.2 with
   | false=>rfl
   | true=>exact absurd ⟨q,g,hb⟩ b
theorem D4(h:ZV W)(ok:Y8 W p S)(e:Zo W S=[]):S=[]:=by
 cases S with
 | nil=>rfl
 | cons x S=>
  obtain⟨m,a,_⟩:=ox h ok _ x qX (LQ _);rw[e]at a;cases a
theorem Cf(e:Zo W S=[r]):r∈S:=(Qu.mp (by rw[e];simp)).1
def X9(W:YD):Nat->List ZU->List ZU×List ZU
 | 0,S=>([],S)
 | n+1,S=>match Zo W S with
  | [r]=>let z:=X9 W n (S.filter λx=>YV W r.2 x.2);(r::z.1,z.2)
  | _=>([],S)
def XY(W:YD):Nat->List ZU->List (List ZU)
 | 0,_=>[]
 | n+1,S=>if S=[]then[]else Zo W S::XY W n (S.filter λx=>!decide (x∈Zo W S))
theorem Mj{S:List ZU}{r:ZU}(a:r∈S):(S.filter λx=>YV W r.2 x.2).length<S.length:=by
 have:=zqp (p:=λx:ZU=>YV W r.2 x.2) (q:=λ_=>true) (l:=S) (λ_ _ _=>rfl) ⟨r,a,rfl,MO⟩
 rwa [Fe.mpr λ_ _=>rfl]at this
theorem Lx(h:ZV W){S:List ZU}(ok:Y8 W p S)(b:S≠[]):(S.filter λx=>!decide (x∈Zo W S)).length<S.length:=by
 obtain⟨m,a⟩:=lg _ λe=>b (D4 h ok e);have:=zqp (p:=λx:ZU=>!decide (x∈Zo W S)) (q:=λ_=>true) (l:=S) (λ_ _ _=>rfl) ⟨m,(Qu.mp a).1,rfl,by simp[a]⟩
 rwa [Fe.mpr λ_ _=>rfl]at this
theorem jI:∀(l:List ZU),K5 (l.map Zm)=some (dS ZI l)
 | []=>rfl
 | p::l=>by
  rw[qL];unfold Zm K5;simp only[Zd,qB];rw[show l.map (λp=>PyData.tuple [.str p.1,ZI p.2])=l.map Zm from rfl,jI l];rfl
theorem zq:∀(l:List ZU),(l.map (·.1)).Nodup->Q7 [] (dS ZI l)=dS ZI l:=by
 refine KM (λ_=>rfl) λl p a h=>?_;rw[qx]at h;have e:dS ZI (l++[p])=dS ZI l++[(.str p.1,ZI p.2)]:=by unfold dS;rw[qx];rfl
 rw[e];unfold Q7 at a ⊢;rw[Je,a (R0.mp h).1,<- e];exact Mr ZI λb=>(R0.mp h).2.2 p.1 b p.1 (by simp) rfl
theorem AS{l:List ZU}(h:(l.map (·.1)).Nodup):U0 [ZN l]=some (.dict (dS ZI l),true):=by
 unfold U0 ZN;simp only;rw[jI,Ru,zq l h]
theorem Nh:∀{l:List ZU},(l.map (·.1)).Nodup->∀{n:Str}{a b:List Str},(n,a)∈l->(n,b)∈l->a=b
 | [],_,_,_,_,h,_=>by cases h
 | p::l,nd,n,a,b,d,c=>by
  rw[qL,Vl]at nd;rcases qN.mp d with f|d
  ·rcases qN.mp c with e|c
   ·rw[<- f]at e;exact(Prod.mk.inj e).2.symm
   ·exact absurd (qo.mpr ⟨(n,b),c,rfl⟩) (by rw[<- f]at nd;exact nd.1)
  ·rcases qN.mp c with e|c
   ·exact absurd (qo.mpr ⟨(n,a),d,rfl⟩) (by rw[<- e]at nd;exact nd.1)
   ·exact Nh nd.2 d c
theorem tZ{l:List ZU}(a:(l.map (·.1)).Nodup){r:ZU}(h:r∈l):l.lookup r.1=some r.2:=by
 obtain⟨d,b,c⟩:=Lj (l:=l) (n:=r.1) (qo.mpr ⟨r,h,rfl⟩);rw[b,Nh a c (show(r.1,r.2)∈l from h)]
theorem Fj{l:List ZU}(a:(l.map (·.1)).Nodup)(f:ZU->Bool):((l.filter f).map (·.1)).Nodup:=(List.Sublist.map _ List.filter_sublist).nodup a
theorem pM(h:ZV W){rs:List ZU}{c:List YZ}(j:ZD W rs)(q:Ye W c)(m:(rs.map (·.1)).Nodup){r:ZU}(d:r∈ZO W rs c):K8 [Zs W c.length rs,ZQ c,.str r.1]=some (YO ((Zo W ((ZO W rs c).filter λx=>YV W r.2 x.2)).map (·.1)),false):=by
 have s:=j.len;have b:=j.filter λr=>W5 W r.2 c;have b:ZD W (ZO W rs c):=b;have g:((ZO W rs c).map (·.1)).Nodup:=Fj m _;have f:r.1∈rs.map (·.1):=qo.mpr ⟨r,(qj.mp d).1,rfl⟩;have i:r.1∈(ZO W rs c).map (·.1):=qo.mpr ⟨r,d,rfl⟩
 have w:Zk (Z2 (X3 true) (Z9 2) (ZG 1 Ta (Z7 (Z9 5) Z8))) [.pl (Zs W c.length rs),.pl (ZQ c),.pl (.str r.1),.pl (ZT W),.pl (.int c.length),.pl (ZN rs),.no,.no,.no]=some false:=by
  rw[zdv (O8 (neg:=true) rfl (Yp (n:=1) (rs:=[⟨ZN rs,false,[]⟩]) (XP rfl) rfl (E7 s)))];simp only[if_true];rw[decide_eq_true f];rfl
 have o:Z1 6 (ZG 2 PJ (Z7 (Z9 0) (Z7 (Z9 1) Z8))) [.pl (Zs W c.length rs),.pl (ZQ c),.pl (.str r.1),.pl (ZT W),.pl (.int c.length),.pl (ZN rs),.no,.no,.no]=some (.nx [.pl (Zs W c.length rs),.pl (ZQ c),.pl (.str r.1),.pl (ZT W),.pl (.int c.length),.pl (ZN rs),.ac (ZN (ZO W rs c)),.no,.no]):=
  zbe (r:=⟨ZN (ZO W rs c),true,[]⟩) (Yp (n:=2) (rs:=[⟨Zs W c.length rs,false,[]⟩,⟨ZQ c,false,[]⟩]) rfl rfl (rD h j q))
 have p:Zk (Z2 (X3 true) (Z9 2) (ZG 1 Ta (Z7 (Z9 6) Z8))) [.pl (Zs W c.length rs),.pl (ZQ c),.pl (.str r.1),.pl (ZT W),.pl (.int c.length),.pl (ZN rs),.ac (ZN (ZO W rs c)),.no,.no]=some false:=by
  rw[zdv (O8 (neg:=true) rfl (Yp (n:=1) (rs:=[⟨ZN (ZO W rs c),false,[6]⟩]) (XP rfl) rfl (E7 b.len)))];simp only[if_true];rw[decide_eq_true i];rfl
 have y:Z1 7 (Rk (Zy U0 (Z7 (Z9 6) Z8)) (Z9 2)) [.pl (Zs W c.length rs),.pl (ZQ c),.pl (.str r.1),.pl (ZT W),.pl (.int c.length),.pl (ZN rs),.ac (ZN (ZO W rs c)),.no,.no]=some (.nx [.pl (Zs W c.length rs),.pl (ZQ c),.pl (.str r.1),.pl (ZT W),.pl (.int c.length),.pl (ZN rs),.pl (ZN (ZO W rs c)),.pl (ZI r.2),.no]):=by
  refine zbe (r:=⟨ZI r.2,false,[6]⟩) ?_
  have u:Zy U0 (Z7 (Z9 6) Z8) [.pl (Zs W c.length rs),.pl (ZQ c),.pl (.str r.1),.pl (ZT W),.pl (.int c.length),.pl (ZN rs),.ac (ZN (ZO W rs c)),.no,.no]=some ⟨.dict (dS ZI (ZO W rs c)),true,[6]⟩:=by
   unfold Zy;rw[XP (r:=⟨ZN (ZO W rs c),false,[6]⟩) rfl];show((U0 [ZN (ZO W rs c)]).bind _)=_;rw[AS g];rfl
  unfold Rk;rw[u];show((some (Sum.inr r.1:Y7)).bind λk=>(U8 (dS ZI (ZO W rs c)) k).bind _)=_;rw[qB,Os,tZ g d];rfl
 have t:Z1 8 (ZG 1 R7 (Z7 (Z9 3) Z8)) [.pl (Zs W c.length rs),.pl (ZQ c),.pl (.str r.1),.pl (ZT W),.pl (.int c.length),.pl (ZN rs),.pl (ZN (ZO W rs c)),.pl (ZI r.2),.no]=some (.nx [.pl (Zs W c.length rs),.pl (ZQ c),.pl (.str r.1),.pl (ZT W),.pl (.int c.length),.pl (ZN rs),.pl (ZN (ZO W rs c)),.pl (ZI r.2),.ac (.dict (dS Zi (ZX W)))]):=
  zbe (r:=⟨.dict (dS Zi (ZX W)),true,[]⟩) (Yp (n:=1) (rs:=[⟨ZT W,false,[]⟩]) rfl rfl (DP h))
 have z:X5 (gN 0) (Zt (ZG 3 Ow (Z7 (Z9 2) (Z7 (Z9 1) (Z7 (ZZ 0 (eC (.int 1))) Z8))))) (Z9 0) [.no,.pl (ZI r.2),.pl (.dict (dS Zi (ZX W)))] ((ZO W rs c).map Zm)=some (((ZO W rs c).filter λx=>YV W r.2 x.2).map Zm):=
  zcj (enc:=Zm) (out:=Zm) (λx=>YV W r.2 x.2) λx v=>⟨[.pl (Zm x),.pl (ZI r.2),.pl (.dict (dS Zi (ZX W)))],rfl,En (n:=3) (rs:=[⟨.dict (dS Zi (ZX W)),false,[]⟩,⟨ZI r.2,false,[]⟩,⟨ZI x.2,false,[]⟩]) rfl rfl (kd h (b.low r d) (b.low x v) (b.kinds r d) (b.few r d)),λ_=>⟨⟨Zm x,false,[]⟩,rfl,rfl⟩⟩
 have l:=VU (own:=["rule"]) (fr:=[7,8]) (fi:=Zl (Z9 6)) (e:=Z9 0) (env:=[.pl (Zs W c.length rs),.pl (ZQ c),.pl (.str r.1),.pl (ZT W),.pl (.int c.length),.pl (ZN rs),.pl (ZN (ZO W rs c)),.pl (ZI r.2),.ac (.dict (dS Zi (ZX W)))]) (ds:=(ZO W rs c).map Zm) (bs:=[]) rfl (by rw[qD];have:=b.len;omega) z;exact zgd (env:=[.pl (Zs W c.length rs),.pl (ZQ c),.pl (.str r.1),.no,.no,.no,.no,.no,.no]) rfl (Zh rfl (Zh (if_f w rfl) (Zh o (Zh (if_f p rfl) (Zh y (Zh t (Uy (Yp (n:=2) (UE (a:=Z9 8) (r:=⟨.dict (dS Zi (ZX W)),false,[8]⟩) rfl (XP l)) rfl (hL h (b.filter _))))))))))
structure Cl(W:YD)(fit S:List ZU):Prop where
 is:∃f:ZU->Bool,S=fit.filter f
 down:∀r∈S,∀x∈fit,YV W r.2 x.2=true->x∈S
theorem Cl.refl:Cl W a a:=⟨⟨λ_=>true,(Fe.mpr λ_ _=>rfl).symm⟩,λ_ _ x b _=>b⟩
theorem Cl.sub(c:Cl W a S)(h:x∈S):x∈a:=by
 obtain⟨f,rfl⟩:=c.is;exact(qj.mp h).1
theorem Cl.rest{a S:List ZU}(c:Cl W a S){r:ZU}(e:r∈S):(a.filter λx=>YV W r.2 x.2)=S.filter λx=>YV W r.2 x.2:=by
 have d:=c.down r e;obtain⟨f,rfl⟩:=c.is;rw[List.filter_filter];refine B3 λx b=>?_
 cases hn:YV W r.2 x.2 with
 | false=>rfl
 | true=>rw[(qj.mp (d x b hn)).2];rfl
theorem Cl.next(h:ZV W){a S:List ZU}(ok:Y8 W p a)(c:Cl W a S){r:ZU}(d:r∈S):Cl W a (S.filter λx=>YV W r.2 x.2):=by
 refine⟨⟨_,(c.rest d).symm⟩,λq b x f e=>?_⟩;have b:=qj.mp b;exact qj.mpr ⟨c.down q b.1 x f e,Me h ok (c.sub d) (c.sub b.1) f b.2 e⟩
abbrev Yu(S:List ZU):List Str:=S.map (·.1)
abbrev PH:SF:=(Z0 (Zc 2 (ZZ 3 (eC (.int 1)))) (Z1 3 (ZG 3 K8 (Z7 (Z9 0) (Z7 (Z9 1) (Z7 (ZZ 3 (eC (.int 1))) Z8))))))
abbrev Rl:TF:=(Zk (Z2 XT (ZZ 3 (eC (.int 0))) (eC (.str "rule"))))
theorem Ea(h:ZV W){rs:List ZU}{c:List YZ}(k:ZD W rs)(o:Ye W c)(j:(rs.map (·.1)).Nodup)(ok:Y8 W p (ZO W rs c)):∀(n:Nat)(S:List ZU)(a:List Str)(b:Nat),Cl W (ZO W rs c) S->S.length<=n->n<b->a.length+n<1000->
  UV Rl PH b [.pl (Zs W c.length rs),.pl (ZQ c),.ac (Z4 a),.pl (YO (Yu (Zo W S)))]=some (.nx [.pl (Zs W c.length rs),.pl (ZQ c),.ac (Z4 (a++Yu (X9 W n S).1)),.pl (YO (Yu (Zo W (X9 W n S).2)))])
 | n,S,a,0,_,_,hf,_=>absurd hf (Ky _)
 | n,S,a,b+1,cl,hn,hf,ha=>by
  have g:∀{i:List Str},(∀x,i≠[x])->UV Rl PH (b+1) [.pl (Zs W c.length rs),.pl (ZQ c),.ac (Z4 a),.pl (YO i)]=some (.nx [.pl (Zs W c.length rs),.pl (ZQ c),.ac (Z4 a),.pl (YO i)]):=λ{i} hx=>by
   unfold UV
   have t:Rl [.pl (Zs W c.length rs),.pl (ZQ c),.ac (Z4 a),.pl (YO i)]=some false:=by
    match i,hx with
    | [],_=>rfl
    | [x],hx=>exact absurd rfl (hx x)
    | x::y::i,_=>rfl
   rw[t];rfl
  cases hS:Zo W S with
  | nil=>
   have e:X9 W n S=([],S):=by
    cases n with
    | zero=>rfl
    | succ n=>unfold X9;rw[hS]
   rw[e,hS];simp only[Oa,q9];exact g λx z=>by cases z
  | cons r l=>
   cases l with
   | cons q l=>
    have e:X9 W n S=([],S):=by
     cases n with
     | zero=>rfl
     | succ n=>unfold X9;rw[hS]
    rw[e,hS];simp only[Oa,q9];exact g λx z=>by cases z
   | nil=>
    have f:r∈S:=Cf hS
    cases n with
    | zero=>
     have:S=[]:=OY.mp (by omega);rw[this]at f;cases f
    | succ n=>
     have e:X9 W (n+1) S=(r::(X9 W n (S.filter λx=>YV W r.2 x.2)).1,(X9 W n (S.filter λx=>YV W r.2 x.2)).2):=by
      conv=>lhs;unfold X9
      rw[hS]
     have m:=pM h k o j (cl.sub f);rw[cl.rest f]at m;have lt:=Mj (W:=W) f;have s:=Ea h k o j ok n (S.filter λx=>YV W r.2 x.2) (a++[r.1]) b (cl.next h ok f) (by omega) (by omega) (by simp;omega)
     have b1:Zc 2 (ZZ 3 (eC (.int 1))) [.pl (Zs W c.length rs),.pl (ZQ c),.ac (Z4 a),.pl (YO [r.1])]=some (.nx [.pl (Zs W c.length rs),.pl (ZQ c),.ac (Z4 (a++[r.1])),.pl (YO [r.1])]):=by
      rw[OP (ds:=a.map .str) (d:=.str r.1) (fr:=false) rfl rfl (by rw[qD];omega)];congr 2;unfold Z4;simp
     have b2:Z1 3 (ZG 3 K8 (Z7 (Z9 0) (Z7 (Z9 1) (Z7 (ZZ 3 (eC (.int 1))) Z8)))) [.pl (Zs W c.length rs),.pl (ZQ c),.ac (Z4 (a++[r.1])),.pl (YO [r.1])]=some (.nx [.pl (Zs W c.length rs),.pl (ZQ c),.ac (Z4 (a++[r.1])),.pl (YO (Yu (Zo W (S.filter λx=>YV W r.2 x.2))))]):=by
      rw[zbe (Yp (n:=3) (rs:=[⟨Zs W c.length rs,false,[]⟩,⟨ZQ c,false,[]⟩,vs r.1]) rfl rfl m)];congr 2;have:ZM (YO (Yu (Zo W (S.filter λx=>YV W r.2 x.2)))) (Yj [⟨Zs W c.length rs,false,[]⟩,⟨ZQ c,false,[]⟩,vs r.1])=[]:=by unfold ZM;split<;>rfl
      rw[this];rfl
     rw[e]
     conv=>lhs;unfold UV
     have t:Rl [.pl (Zs W c.length rs),.pl (ZQ c),.ac (Z4 a),.pl (YO [r.1])]=some true:=rfl;show Option.bind (Rl [.pl (Zs W c.length rs),.pl (ZQ c),.ac (Z4 a),.pl (YO [r.1])]) _=_;rw[t,qB,if_pos rfl];show Option.bind (PH [.pl (Zs W c.length rs),.pl (ZQ c),.ac (Z4 a),.pl (YO [r.1])]) _=_;rw[show PH [.pl (Zs W c.length rs),.pl (ZQ c),.ac (Z4 a),.pl (YO [r.1])]=_ from Zh b1 b2,qB];simp only;rw[s];simp
theorem uZ:∀(l:List ZU),(∀r∈l,qz r.1=true/\Yx r.2)->qw (l.map Zm)=true/\qb (l.map Zm)<=2
 | [],_=>⟨rfl,V5 _⟩
 | p::r,h=>by
  obtain⟨d,g⟩:=uZ r λq c=>h q (qI _ c);obtain⟨b,e⟩:=h p qX;obtain⟨a,f⟩:=Mk p.2 e;rw[qL];constructor
  ·show((qz p.1&&(qw (p.2.map .str)&&true))&&qw (r.map Zm))=true;rw[b,a,d];rfl
  ·show max (max 0 (max (qb (p.2.map .str)+1) 0)+1) (qb (r.map Zm))<=2;rw[f];omega
theorem tK(h:∀r∈l,qz r.1=true/\Yx r.2):qm (ZN l)=true:=by
 obtain⟨a,b⟩:=uZ l h;unfold qm ZN;rw[qe];refine⟨a,decide_eq_true ?_⟩;show qb (l.map Zm)+1<=64;omega
theorem pQ{r:ZU}(h:qz r.1=true/\Yx r.2):qm (Zm r)=true:=by
 obtain⟨b,a⟩:=Mk r.2 h.2;unfold qm Zm ZI;rw[qe];refine⟨?_,decide_eq_true ?_⟩
 ·show(qz r.1&&(qw (r.2.map .str)&&true))=true;rw[h.1,b];rfl
 ·show max 0 (max (qb (r.2.map .str)+1) 0)+1<=64;rw[a];omega
theorem EE(a b:ZU):Xn (Zm a) (Zm b)=decide (a=b):=by
 unfold Zm ZI;show((a.1==b.1)&&((PyData.eqvAll (a.2.map .str) (b.2.map .str))&&true))=_;rw[DA,Bool.and_true,TH,qe,beq_iff_eq,beq_iff_eq,decide_eq_true_iff];exact⟨λ⟨h1,h2⟩=>Prod.ext h1 h2,λh=>by rw[h];exact⟨rfl,rfl⟩⟩
theorem yk{r:ZU}(h:∀r∈l,qz r.1=true/\Yx r.2)(c:qz r.1=true/\Yx r.2):Tv neg (Zm r) (ZN l)=some (.bool (if neg then !decide (r∈l)else decide (r∈l)),false):=by
 unfold Tv;rw[show Vg (ZN l)=some (l.map Zm)from rfl];simp only;rw[if_pos ⟨pQ c,tK h⟩]
 have:((l.map Zm).any λe=>Xn e (Zm r))=decide (r∈l):=by
  rw[KY,TH,RF,decide_eq_true_iff];constructor
  ·rintro⟨y,b,e⟩;have e:Xn (Zm y) (Zm r)=true:=e;rw[EE,decide_eq_true_iff]at e;rw[<- e];exact b
  ·intro a;refine⟨r,a,?_⟩;show Xn (Zm r) (Zm r)=true;rw[EE];simp
 rw[this]
def VZ(l:List (List Str)):PyData:=.list (l.map Z4)
theorem wz(a:List Str):ZQ (a.map YZ.one)=ZI a:=by
 unfold ZQ ZI;rw[TX];rfl
theorem JS:∀(a b:List Str),W5 W b (a.map YZ.one)=UU W a b
 | [],b=>by unfold W5 UU;simp
 | x::a,[]=>by unfold W5 UU;simp
 | x::a,y::b=>by
  have c:=JS (W:=W) a b;unfold W5 UU at c ⊢;rw[qL,Oo,Oo,SH,SH,c];congr 1;rw[decide_eq_decide,OX];show(∃n∈[x],y∈up W n)↔y∈up W x;simp
theorem FU(s:qm d=true):X4 d d=some (.bool false,false):=by
 unfold X4 TL;rw[s,wm,Sg,if_pos rfl,lr _ (Ox s)];rfl
theorem Iz(f:a c=some ⟨d,f1,b1⟩)(e:b c=some ⟨d,f2,b2⟩)(s:qm d=true):Zk (Z2 X4 a b) c=some false:=by
 refine zdv ?_;unfold Z2;rw[f,e];simp only[qB];rw[FU s];rfl
theorem F2:∀(n:Nat)(S:List ZU),S.length<=n->∀r,Zo W (X9 W n S).2≠[r]
 | 0,S,hn,r,e=>by
  have:S=[]:=OY.mp (by omega);subst this;cases e
 | n+1,S,hn,r,e=>by
  unfold X9 at e;split at e
  ·rename_i q a;have lt:=Mj (W:=W) (Cf a);exact F2 n _ (by omega) r e
  ·rename_i a;exact a r e
abbrev RU(xs:List Str):List NT:=(xs.map PyData.str).map NT.lf
theorem D2(h1:f a=some (.nx e2))(h2:g e2=r):Pm f g a=r:=by unfold Pm;rw[h1];exact h2
theorem rn(h:ZV W){rs:List ZU}{c:List YZ}(a:ZD W rs)(b:Ye W c)(d:(rs.map (·.1)).Nodup)(ok:Y8 W p (ZO W rs c)) :
  Ov [Zs W c.length rs,ZQ c]=some (.tp [.ls (RU (Yu (X9 W 300 (ZO W rs c)).1)),.lf (YO (Yu (Zo W (X9 W 300 (ZO W rs c)).2)))]):=by
 have f:(ZO W rs c).length<=300:=WT (PL _ _) (by have:=a.len;omega);have w:=Ea h a b d ok 300 (ZO W rs c) [] 1000 .refl f (by decide) (by decide);rw[H7]at w
 have e:Z1 3 (ZG 2 Fl (Z7 (Z9 0) (Z7 (Z9 1) Z8))) [.pl (Zs W c.length rs),.pl (ZQ c),.ac (Z4 []),.no]=some (.nx [.pl (Zs W c.length rs),.pl (ZQ c),.ac (Z4 []),.pl (YO (Yu (Zo W (ZO W rs c))))]):=by
  rw[zbe (Yp (n:=2) (rs:=[⟨Zs W c.length rs,false,[]⟩,⟨ZQ c,false,[]⟩]) rfl rfl (zo h a b))];congr 2;have:ZM (YO (Yu (Zo W (ZO W rs c)))) (Yj [⟨Zs W c.length rs,false,[]⟩,⟨ZQ c,false,[]⟩])=[]:=by unfold ZM;split<;>rfl
  rw[this];rfl
 show LX [.pl (Zs W c.length rs),.pl (ZQ c),.no,.no]=_;exact D2 rfl (D2 e (D2 w rfl))
abbrev SM(r:List Str):NT:=.ls (RU r)
def QF(a:List (List Str)):List SN:=.ls ((List.range a.length).map λi=>.lo (i+1))::a.map λr=>.ls ((r.map PyData.str).map .dt)
abbrev Od(acc:List (List Str)):WH:=⟨[none,none,none,none,some (.lo 0),none],QF acc⟩
theorem JI:∀(a:List PyData)(n:Nat),VF (a.map .lf) n=(a.map .dt,[])
 | [],n=>by unfold VF;rfl
 | d::a,n=>by
  rw[qL];unfold VF;have:al (.lf d) n=(.dt d,[]):=by unfold al;rfl
  rw[this];simp only[N8,Nat.add_zero,H7];rw[JI a n];rfl
theorem MD(ds:List PyData)(n:Nat):al (.ls (ds.map .lf)) n=(.lo n,[.ls (ds.map .dt)]):=by
 unfold al;rw[JI]
theorem ED{a:WH}(h1:NV f a.sl=true)(h2:F b=some (.nx c))(h3:Sx c a.sl=true):yS f F b a=some (.nx c a):=by
 unfold yS;rw[if_pos h1,h2,qB];dsimp only;rw[if_pos h3]
theorem UQ(h1:a c st=some (.nx e2 s2))(h2:b e2 s2=o):Yg a b c st=o:=by
 unfold Yg;rw[h1];exact h2
theorem oj{acc:List (List Str)}{r:List Str}:((QF acc++[SN.ls ((r.map PyData.str).map SV.dt)]).set 0 (SN.ls (((List.range acc.length).map λi=>SV.lo (i+1))++[SV.lo (QF acc).length])))=QF (acc++[r]):=by
 unfold QF;rw[B9,D5,qu,qD,qU,yR,List.range_succ,qx,qx];rfl
abbrev Mv:Vy:=(Yg (yS [4] (Z1 5 (ZG 2 PP (Z7 (Z9 3) (Z7 (Z9 2) Z8)))))
  (Yg (SX [5] (Xq 4) (QZ (ZG 1 Ta (Z7 (Z9 5) Z8))))
  (yS [4] (Z1 2 (YB ["rule"] [5] (Zl (Z9 2)) (gN 0) (Zk (Z2 (Tv true) (Z9 0) (Z9 1))) (Z9 0))))))
theorem IZ(h:ZV W):∀(n:Nat)(S:List ZU)(acc:List (List Str))(a:Nat)(k m:Sl),Hd (.dict (dS Zi (ZX W))) k->ZD W S->(∀r∈S,qz r.1=true)->Y8 W p S->S.length<=n->n<a->acc.length+n<1000->
  ∃l f g,RS (yT (Zt (Z9 2))) Mv a [A,B,.ac (ZN S),k,.no,m] (Od acc)=some (.nx [A,B,l,f,.no,g] (Od (acc++(XY W n S).map Yu)))
 | n,S,acc,0,k,m,_,_,_,_,_,hf,_=>absurd hf (Ky _)
 | n,S,acc,a+1,k,m,h3,hr,hs,ok,hn,hf,ha=>by
  unfold RS
  cases hS:S with
  | nil=>
   have e:XY W n []=[]:=by
    cases n with
    | zero=>rfl
    | succ n=>rfl
   rw[e];exact⟨_,_,_,by rw[Oa,q9];rfl⟩
  | cons x T=>
   rw[<- hS];have j:S≠[]:=by rw[hS];exact List.cons_ne_nil _ _
   cases n with
   | zero=>exact absurd (OY.mp (by omega)) j
   | succ n=>
    have t:yT (Zt (Z9 2)) [A,B,.ac (ZN S),k,.no,m] (Od acc)=some true:=by rw[hS];rfl
    rw[t,qB,if_pos rfl];have C:=hr.len
    have e:XY W (n+1) S=Zo W S::XY W n (S.filter λx=>!decide (x∈Zo W S)):=by
     conv=>lhs;unfold XY
     rw[if_neg j]
    have q:=BY h hr
    have b5:Z1 5 (ZG 2 PP (Z7 (Z9 3) (Z7 (Z9 2) Z8))) [A,B,.ac (ZN S),k,.no,m]=some (.nx [A,B,.pl (ZN S),.pl (.dict (dS Zi (ZX W))),.no,.ac (ZN (Zo W S))]):=by
     rcases h3 with rfl|rfl
     ·exact zbe (r:=⟨ZN (Zo W S),true,[2]⟩) (Yp (n:=2) (rs:=[⟨.dict (dS Zi (ZX W)),false,[]⟩,⟨ZN S,false,[2]⟩]) rfl rfl q)
     ·exact zbe (r:=⟨ZN (Zo W S),true,[3,2]⟩) (Yp (n:=2) (rs:=[⟨.dict (dS Zi (ZX W)),false,[3]⟩,⟨ZN S,false,[2]⟩]) rfl rfl q)
    have u:SX [5] (Xq 4) (QZ (ZG 1 Ta (Z7 (Z9 5) Z8))) [A,B,.pl (ZN S),.pl (.dict (dS Zi (ZX W))),.no,.ac (ZN (Zo W S))] (Od acc)=some (.nx [A,B,.pl (ZN S),.pl (.dict (dS Zi (ZX W))),.no,.pl (ZN (Zo W S))] (Od (acc++[Yu (Zo W S)]))):=by
     have c:ZG 1 Ta (Z7 (Z9 5) Z8) [A,B,.pl (ZN S),.pl (.dict (dS Zi (ZX W))),.no,.pl (ZN (Zo W S))]=some ⟨Z4 (Yu (Zo W S)),true,ZM (Z4 (Yu (Zo W S))) []⟩:=Yp (n:=1) (rs:=[⟨ZN (Zo W S),false,[]⟩]) (XP rfl) rfl (E7 (hr.filter _).len);have s:ZM (Z4 (Yu (Zo W S))) []=[]:=by unfold ZM;split<;>rfl
     have d:QZ (ZG 1 Ta (Z7 (Z9 5) Z8)) [A,B,.pl (ZN S),.pl (.dict (dS Zi (ZX W))),.no,.pl (ZN (Zo W S))]=some (.ls (RU (Yu (Zo W S)))):=by
      unfold QZ;rw[c,s];rfl
     unfold SX;show Option.bind (some (SV.lo 0)) _=_;rw[qB];show Option.bind (some (0,(List.range acc.length).map λi=>SV.lo (i+1))) _=_;rw[qB];dsimp only;rw[if_pos (by rw[qD,HD];omega)];show Option.bind (QZ _ [A,B,.pl (ZN S),.pl (.dict (dS Zi (ZX W))),.no,.pl (ZN (Zo W S))]) _=_;rw[d,qB,MD];have:=oj (acc:=acc) (r:=Yu (Zo W S));unfold Od;rw[<- this];rfl
    have o:∀r∈S,qz r.1=true/\Yx r.2:=λr b=>⟨hs r b,hr.low r b⟩
    have y:X5 (gN 0) (Zk (Z2 (Tv true) (Z9 0) (Z9 1))) (Z9 0) [.no,.pl (ZN (Zo W S))] (S.map Zm)=some ((S.filter λx=>!decide (x∈Zo W S)).map Zm):=by
     refine zcj (enc:=Zm) (out:=Zm) (λx=>!decide (x∈Zo W S)) λx w=>⟨[.pl (Zm x),.pl (ZN (Zo W S))],rfl,zdv ?_,λ_=>⟨⟨Zm x,false,[]⟩,rfl,rfl⟩⟩;show((Tv true (Zm x) (ZN (Zo W S))).bind λz=>some (⟨z.1,z.2,ZM z.1 ([]++[])⟩:Yo))=_;rw[yk (neg:=true) (λr b=>o r (Qu.mp b).1) (o x w)];rfl
    have b2:Z1 2 (YB ["rule"] [5] (Zl (Z9 2)) (gN 0) (Zk (Z2 (Tv true) (Z9 0) (Z9 1))) (Z9 0)) [A,B,.pl (ZN S),.pl (.dict (dS Zi (ZX W))),.no,.pl (ZN (Zo W S))]=some (.nx [A,B,.ac (ZN (S.filter λx=>!decide (x∈Zo W S))),.pl (.dict (dS Zi (ZX W))),.no,.pl (ZN (Zo W S))]):=by
     refine zbe (r:=⟨ZN (S.filter λx=>!decide (x∈Zo W S)),true,[]⟩) ?_;rw[VU (own:=["rule"]) (fr:=[5]) (fi:=Zl (Z9 2)) (ds:=S.map Zm) (bs:=[]) rfl (by rw[qD];omega) y];have:(if WS ((S.filter λx=>!decide (x∈Zo W S)).map Zm)=true then([]:List Nat)else[]++Yb [5] [A,B,.pl (ZN S),.pl (.dict (dS Zi (ZX W))),.no,.pl (ZN (Zo W S))])=[]:=by split<;>rfl
     rw[this];rfl
    have lt:=Lx h ok j;obtain⟨l,f,g,v⟩:=IZ h (A:=A) (B:=B) n (S.filter λx=>!decide (x∈Zo W S)) (acc++[Yu (Zo W S)]) a (.pl (.dict (dS Zi (ZX W)))) (.pl (ZN (Zo W S))) (.inl rfl) (hr.filter _) (λr b=>hs r (qj.mp b).1) (ok.filter _) (Nat.le_of_lt_succ (qi lt hn)) (by omega) (by simp;omega);refine⟨l,f,g,?_⟩;rw[show Mv [A,B,.ac (ZN S),k,.no,m] (Od acc)=_ from UQ (ED rfl b5 rfl) (UQ u (ED rfl b2 rfl)),qB];simp only;rw[v,e];simp
theorem Ec{f:α->Option β}{g:α->β}:∀{a:List α},(∀x∈a,f x=some (g x))->VT f a=some (a.map g)
 | [],_=>rfl
 | x::a,h=>by
  unfold VT;rw[h x (.head _),Ec λy b=>h y (.tail _ b)];rfl
theorem rR{a:List (List Str)}(c:i<a.length):Pa (QF a) 8 (.lo (i+1))=some (SM a[i],[i+1]):=by
 have e:(QF a)[i+1]?=some (.ls ((a[i].map PyData.str).map .dt)):=by
  unfold QF;rw[Rg,qW,qH c];rfl
 unfold Pa;rw[e];dsimp only
 rw[Ec (g:=λx=>match x with|.dt d=>(NT.lf d,[])|.lo _=>(NT.lf .none,[])) (λx b=>by
  obtain⟨d,f,rfl⟩:=qo.mp b;obtain⟨s,_,rfl⟩:=qo.mp f;rfl)]
 simp[SM,RU,ke]
theorem rj{b:List (List Str)}:Pa (QF b) 9 (.lo 0)=some (.ls (b.map SM),0::(List.range b.length).map (·+1)):=by
 have e:(QF b)[0]?=some (.ls ((List.range b.length).map λi=>.lo (i+1))):=rfl;unfold Pa;rw[e];dsimp only
 rw[Ec (g:=λx=>match x with|.lo (i+1)=>(SM (b.getD i []),[i+1])|_=>(NT.lf .none,[])) (λx j=>by
  obtain⟨i,c,rfl⟩:=qo.mp j;have c:=TY.mp c;rw[rR c];show _=some (SM (b.getD i []),[i+1]);rw[Se,qH c];rfl)]
 have d:∀l:List (List Str),(List.range l.length).map (λi=>SM (l.getD i []))=l.map SM:=λl=>by
  apply List.ext_getElem
  ·simp
  ·intro i d f;simp at d;simp[d]
 have f:∀l:List Nat,(l.map λi=>[i+1]).flatten=l.map (·+1):=λl=>by
  induction l with
  | nil=>rfl
  | cons a l h=>rw[qL,List.flatten_cons,h];rfl
 simp only[Ru,TX,ke];rw[d,f]
theorem vq(h:ZV W){c:List YZ}(a:ZD W rs)(l:Ye W c)(g:∀r∈rs,qz r.1=true)(ok:Y8 W p (ZO W rs c)):N4 [Zs W c.length rs,ZQ c]=some (.ls (((XY W 300 (ZO W rs c)).map Yu).map SM)):=by
 have k:(ZO W rs c).length<=300:=WT (PL _ _) (by have:=a.len;omega);obtain⟨j,o,m,w⟩:=IZ h (A:=.pl (Zs W c.length rs)) (B:=.pl (ZQ c)) 300 (ZO W rs c) [] 1000 (.ac (.dict (dS Zi (ZX W)))) .no (.inr rfl) (a.filter _) (λr b=>g r (qj.mp b).1) ok k (by decide) (by decide)
 have d:Z1 2 (ZG 2 PJ (Z7 (Z9 0) (Z7 (Z9 1) Z8))) [.pl (Zs W c.length rs),.pl (ZQ c),.no,.no,.no,.no]=some (.nx [.pl (Zs W c.length rs),.pl (ZQ c),.ac (ZN (ZO W rs c)),.no,.no,.no]):=
  zbe (r:=⟨ZN (ZO W rs c),true,[]⟩) (Yp (n:=2) (rs:=[⟨Zs W c.length rs,false,[]⟩,⟨ZQ c,false,[]⟩]) rfl rfl (rD h a l))
 have f:Z1 3 (ZG 1 R7 (Z7 (ZZ 0 (eC (.int 0))) Z8)) [.pl (Zs W c.length rs),.pl (ZQ c),.ac (ZN (ZO W rs c)),.no,.no,.no]=some (.nx [.pl (Zs W c.length rs),.pl (ZQ c),.ac (ZN (ZO W rs c)),.ac (.dict (dS Zi (ZX W))),.no,.no]):=
  zbe (r:=⟨.dict (dS Zi (ZX W)),true,[]⟩) (Yp (n:=1) (rs:=[⟨ZT W,false,[]⟩]) rfl rfl (DP h))
 show oG [.pl (Zs W c.length rs),.pl (ZQ c),.no,.no,.no,.no]=_;refine D2 d (D2 f ?_);unfold Pv;rw[show(Yg (Pk [] 4 (QZ (Y3 Z8))) (RS (yT (Zt (Z9 2))) Mv 1000)) [.pl (Zs W c.length rs),.pl (ZQ c),.ac (ZN (ZO W rs c)),.ac (.dict (dS Zi (ZX W))),.no,.no] ⟨[],[]⟩=_ from UQ (e2:=[.pl (Zs W c.length rs),.pl (ZQ c),.ac (ZN (ZO W rs c)),.ac (.dict (dS Zi (ZX W))),.no,.no]) (s2:=Od []) rfl w,qB];rw[H7];dsimp only;show Option.bind (some (SV.lo 0)) _=_;rw[qB,rj,qB];dsimp only;rw[if_pos];refine Vl.mpr ⟨λz=>?_,?_⟩
 ·obtain⟨i,_,e⟩:=qo.mp z;omega
 ·exact List.pairwise_map.mpr (List.Pairwise.imp (λh e=>h (by omega)) List.nodup_range)
theorem sJ(b:ZD W S){q:ZU}(c:q∈S):Ye W (q.2.map YZ.one):=⟨by rw[qD];exact b.few q c,λz a=>by obtain⟨x,_,rfl⟩:=qo.mp a;show 1<300;decide,λz a n d=>by
 obtain⟨x,e,rfl⟩:=qo.mp a;have:n=x:=by simpa [YZ.parts]using d
 rw[this];exact b.kinds q c x e⟩
theorem LU(h:ZV W)(d:ZD W S)(ok:Y8 W p S){q r:ZU}(a:q∈S)(c:r∈S):VA [.dict (dS Z4 (ZX W)),ZI r.2,ZI q.2]=some (.bool (UU W q.2 r.2),false):=by
 have b:=lA h (ks:=r.2) (sJ d a) (by rw[qD,ok.size r c,ok.size q a];exact qM _);rw[wz,JS]at b;exact b
theorem HQ(h:ZV W)(i:ZD W S)(ok:Y8 W p S):Ol [.dict (dS Z4 (ZX W)),ZN S]=some (ZN (Zo W S),true):=by
 have B:=i.len
 obtain⟨v,A,s,m,rfl⟩:=Uv (enc:=Zm) (g:=gT 2 (Zw 3 (Zw 4 YE))) (l:=S) (env:=[.pl (.dict (dS Z4 (ZX W))),.pl (ZN S),.ac (ZN []),.no,.no])
  (body:=(YA (Xk (Zt (Zy (XJ λbs=>bs.any id) (Z7 (YB ["_law_one","_law_other"] [0,4] (Zl (Z9 1)) (gT 2 (Zw 0 (Zw 1 YE))) Yk (WK (Z2 X4 (Z9 1) (Z9 3)) (ZG 3 VA (Z7 (Z9 2) (Z7 (Z9 3) (Z7 (Z9 1) Z8)))))) Z8)))) (Zc 2 (ZE (Z7 (Z9 3) (Z7 (Z9 4) Z8)))) Zj))
  (λa b=>∃s m,b=[.pl (.dict (dS Z4 (ZX W))),.pl (ZN S),.ac (ZN (a.filter λr=>!(S.any λq=>YV W q.2 r.2))),s,m]) ⟨_,_,rfl⟩ (by
   rintro a r w b t ⟨s,m,rfl⟩;have c:r∈S:=by rw[<- t];simp
   have o:a.length<300:=by
    have:=congrArg List.length t;simp at this;omega
   refine⟨_,[.pl (.dict (dS Z4 (ZX W))),.pl (ZN S),.ac (ZN ((a++[r]).filter λr=>!(S.any λq=>YV W q.2 r.2))),.pl (.str r.1),.pl (ZI r.2)],rfl,.inl ?_,_,_,rfl⟩
   have k:X5 (gT 2 (Zw 0 (Zw 1 YE))) Yk (WK (Z2 X4 (Z9 1) (Z9 3)) (ZG 3 VA (Z7 (Z9 2) (Z7 (Z9 3) (Z7 (Z9 1) Z8))))) [.no,.no,.pl (.dict (dS Z4 (ZX W))),.pl (ZI r.2)] (S.map Zm)=some (S.map λq=>.bool (YV W q.2 r.2)):=by
    refine zdj (enc:=Zm) (out:=λq=>.bool (YV W q.2 r.2)) λq u=>⟨[.pl (.str q.1),.pl (ZI q.2),.pl (.dict (dS Z4 (ZX W))),.pl (ZI r.2)],rfl,rfl,vb (YV W q.2 r.2),?_,rfl⟩
    have x:Z2 X4 (Z9 1) (Z9 3) [.pl (.str q.1),.pl (ZI q.2),.pl (.dict (dS Z4 (ZX W))),.pl (ZI r.2)]=some (vb (!(q.2==r.2))):=by
     show((X4 (ZI q.2) (ZI r.2)).bind λz=>some (⟨z.1,z.2,ZM z.1 ([]++[])⟩:Yo))=_;rw[B6 (i.low q u) (i.low r c)];rfl
    have y:ZG 3 VA (Z7 (Z9 2) (Z7 (Z9 3) (Z7 (Z9 1) Z8))) [.pl (.str q.1),.pl (ZI q.2),.pl (.dict (dS Z4 (ZX W))),.pl (ZI r.2)]=some (vb (UU W q.2 r.2)):=Yp (n:=3) (rs:=[⟨.dict (dS Z4 (ZX W)),false,[]⟩,⟨ZI r.2,false,[]⟩,⟨ZI q.2,false,[]⟩]) rfl rfl (LU h i ok u c);unfold WK;rw[x,y,Fw];cases q.2==r.2<;>rfl
   have j:=Rq (Py (f:=λq:ZU=>YV W q.2 r.2) (VU (own:=["_law_one","_law_other"]) (fr:=[0,4]) (fi:=Zl (Z9 1)) (env:=[.pl (.dict (dS Z4 (ZX W))),.pl (ZN S),.ac (ZN (a.filter λr=>!(S.any λq=>YV W q.2 r.2))),.pl (.str r.1),.pl (ZI r.2)]) (ds:=S.map Zm) (bs:=[]) rfl (by rw[qD];omega) k));rw[wF]
   cases hb:(S.any λq=>YV W q.2 r.2)with
   | true=>
    rw[hb]at j;refine if_f j ?_;rw[show([r].filter λr=>!(S.any λq=>YV W q.2 r.2))=[] by rw[Pu,hb];rfl,q9];rfl
   | false=>
    rw[hb]at j;refine WO j ?_;rw[show([r].filter λr=>!(S.any λq=>YV W q.2 r.2))=[r] by rw[Pu,hb];rfl];have e:(a.filter λr=>!(S.any λq=>YV W q.2 r.2)).length<300:=LM (PL _ _) o;rw[OP (ds:=(a.filter λr=>!(S.any λq=>YV W q.2 r.2)).map Zm) (d:=Zm r) (fr:=false) rfl rfl (by rw[qD];exact CL e (by decide))];congr 2;unfold ZN;simp)
 exact zgd rfl (Zh rfl (Zh (U5 (ds:=S.map Zm) (bs:=[]) rfl A) rfl))
abbrev WZ(W:YD)(R S:List ZU)(acc:List Str)(s5:Sl):ZY:=[.pl (.dict (dS Z4 (ZX W))),.pl (ZN R),.ac (Z4 acc),.pl (ZN S),.ac (ZN (Zo W S)),s5]
abbrev Pg:TF:=Zk (Z2 XT (Zy Zp (Z7 (Z9 4) Z8)) (eC (.int 1)))
abbrev Pq:SF:=(Z0 (Zc 2 (Z2 Xb (ZZ 4 (eC (.int 0))) (eC (.int 0))))
  (Z0 (Z1 5 (Z2 Xb (ZZ 4 (eC (.int 0))) (eC (.int 1))))
  (Z0 (Z1 3 (YB ["_law_rule"] [0,5] (Zl (Z9 3)) (gN 0) (UZ (Zk (Z2 X4 (ZZ 0 (eC (.int 1))) (Z9 2))) (Zt (ZG 3 VA (Z7 (Z9 1) (Z7 (ZZ 0 (eC (.int 1))) (Z7 (Z9 2) Z8)))))) (Z9 0)))
  (Z1 4 (ZG 2 Ol (Z7 (Z9 0) (Z7 (Z9 3) Z8)))))))
theorem NL(j:Int):Zk (Z2 XT (Zy Zp (Z7 (Z9 4) Z8)) (eC (.int j))) (WZ W R S acc s5)=some ((((Zo W S).length:Int))==j):=by
 rw[zdv (Q0 (i:=((Zo W S).map Zm).length) (j:=j) (Q2 rfl) rfl),qD]
theorem GA(h:ZV W):∀(n:Nat)(S:List ZU)(acc:List Str)(a:Nat)(s5:Sl),ZD W S->Y8 W p S->S.length<=n->n<a->acc.length+n<1000->
  ∃b,UV Pg Pq a (WZ W R S acc s5)=some (.nx (WZ W R (X9 W n S).2 (acc++Yu (X9 W n S).1) b))
 | n,S,acc,0,s5,_,_,_,hf,_=>absurd hf (Ky _)
 | n,S,acc,a+1,s5,hr,ok,hn,hf,ha=>by
  have g:(∀r,Zo W S≠[r])->∃b,UV Pg Pq (a+1) (WZ W R S acc s5)=some (.nx (WZ W R (X9 W n S).2 (acc++Yu (X9 W n S).1) b)):=λj=>by
   have e:X9 W n S=([],S):=by
    cases n with
    | zero=>rfl
    | succ n=>
     unfold X9;split
     ·rename_i r i;exact absurd i (j r)
     ·rfl
   refine⟨s5,?_⟩;unfold UV;have t:Pg (WZ W R S acc s5)=_:=NL (W:=W) (R:=R) (S:=S) (acc:=acc) (s5:=s5) 1
   have f:((((Zo W S).length:Int))==1)=false:=by
    rw[beq_eq_false_iff_ne];intro z;obtain⟨r,i⟩:=List.length_eq_one_iff.mp (show(Zo W S).length=1 by omega);exact j r i
   rw[t,qB,f,e];simp
  cases hS:Zo W S with
  | nil=>exact g λr z=>by rw[hS]at z;cases z
  | cons r T=>
   cases T with
   | cons v T=>exact g λx z=>by rw[hS]at z;cases z
   | nil=>
    have c:r∈S:=Cf hS
    cases n with
    | zero=>
     have:S=[]:=OY.mp (by omega);rw[this]at c;cases c
    | succ n=>
     have e:X9 W (n+1) S=(r::(X9 W n (S.filter λx=>YV W r.2 x.2)).1,(X9 W n (S.filter λx=>YV W r.2 x.2)).2):=by
      conv=>lhs;unfold X9
      rw[hS]
     have lt:=Mj (W:=W) c;have u:=hr.len;obtain⟨b,q⟩:=GA h (R:=R) n (S.filter λx=>YV W r.2 x.2) (acc++[r.1]) a (.pl (ZI r.2)) (hr.filter _) (ok.filter _) (by omega) (by omega) (by simp;omega);refine⟨b,?_⟩
     have t:Pg (WZ W R S acc s5)=some true:=by
      have:=NL (W:=W) (R:=R) (S:=S) (acc:=acc) (s5:=s5) 1;rw[hS]at this;exact this
     have b1:Zc 2 (Z2 Xb (ZZ 4 (eC (.int 0))) (eC (.int 0))) (WZ W R S acc s5)=some (.nx (WZ W R S (acc++[r.1]) s5)):=by
      unfold WZ;rw[hS];rw[OP (ds:=acc.map .str) (d:=.str r.1) (fr:=false) rfl rfl (by rw[qD];omega)];congr 2;unfold Z4;simp
     have b2:Z1 5 (Z2 Xb (ZZ 4 (eC (.int 0))) (eC (.int 1))) (WZ W R S (acc++[r.1]) s5)=some (.nx (WZ W R S (acc++[r.1]) (.pl (ZI r.2)))):=by
      unfold WZ;rw[hS];rfl
     have s:X5 (gN 0) (UZ (Zk (Z2 X4 (ZZ 0 (eC (.int 1))) (Z9 2))) (Zt (ZG 3 VA (Z7 (Z9 1) (Z7 (ZZ 0 (eC (.int 1))) (Z7 (Z9 2) Z8)))))) (Z9 0) [.no,.pl (.dict (dS Z4 (ZX W))),.pl (ZI r.2)] (S.map Zm)=some ((S.filter λx=>YV W r.2 x.2).map Zm):=by
      refine zcj (enc:=Zm) (out:=Zm) (λx=>YV W r.2 x.2) λx k=>⟨[.pl (Zm x),.pl (.dict (dS Z4 (ZX W))),.pl (ZI r.2)],rfl,?_,λ_=>⟨⟨Zm x,false,[]⟩,rfl,rfl⟩⟩
      have m:Zk (Z2 X4 (ZZ 0 (eC (.int 1))) (Z9 2)) [.pl (Zm x),.pl (.dict (dS Z4 (ZX W))),.pl (ZI r.2)]=some (!(x.2==r.2)):=by
       refine zdv ?_;show((X4 (ZI x.2) (ZI r.2)).bind λz=>some (⟨z.1,z.2,ZM z.1 ([]++[])⟩:Yo))=_;rw[B6 (hr.low x k) (hr.low r c)];rfl
      have l:Zt (ZG 3 VA (Z7 (Z9 1) (Z7 (ZZ 0 (eC (.int 1))) (Z7 (Z9 2) Z8)))) [.pl (Zm x),.pl (.dict (dS Z4 (ZX W))),.pl (ZI r.2)]=some (UU W r.2 x.2):=En (n:=3) (rs:=[⟨.dict (dS Z4 (ZX W)),false,[]⟩,⟨ZI x.2,false,[]⟩,⟨ZI r.2,false,[]⟩]) rfl rfl (LU h hr ok c k);unfold UZ;rw[m,l,Fw,show(r.2==x.2)=(x.2==r.2)from BEq.comm];cases x.2==r.2<;>rfl
     have b3:Z1 3 (YB ["_law_rule"] [0,5] (Zl (Z9 3)) (gN 0) (UZ (Zk (Z2 X4 (ZZ 0 (eC (.int 1))) (Z9 2))) (Zt (ZG 3 VA (Z7 (Z9 1) (Z7 (ZZ 0 (eC (.int 1))) (Z7 (Z9 2) Z8)))))) (Z9 0)) (WZ W R S (acc++[r.1]) (.pl (ZI r.2)))=some (.nx [.pl (.dict (dS Z4 (ZX W))),.pl (ZN R),.ac (Z4 (acc++[r.1])),.ac (ZN (S.filter λx=>YV W r.2 x.2)),.ac (ZN (Zo W S)),.pl (ZI r.2)]):=by
      refine zbe (r:=⟨ZN (S.filter λx=>YV W r.2 x.2),true,[]⟩) ?_;rw[VU (own:=["_law_rule"]) (fr:=[0,5]) (fi:=Zl (Z9 3)) (ds:=S.map Zm) (bs:=[]) rfl (by rw[qD];omega) s];have:(if WS ((S.filter λx=>YV W r.2 x.2).map Zm)=true then([]:List Nat)else[]++Yb [0,5] (WZ W R S (acc++[r.1]) (.pl (ZI r.2))))=[]:=by split<;>rfl
      rw[this];rfl
     have o:Z1 4 (ZG 2 Ol (Z7 (Z9 0) (Z7 (Z9 3) Z8))) [.pl (.dict (dS Z4 (ZX W))),.pl (ZN R),.ac (Z4 (acc++[r.1])),.ac (ZN (S.filter λx=>YV W r.2 x.2)),.ac (ZN (Zo W S)),.pl (ZI r.2)]=some (.nx (WZ W R (S.filter λx=>YV W r.2 x.2) (acc++[r.1]) (.pl (ZI r.2)))):=
      zbe (r:=⟨ZN (Zo W (S.filter λx=>YV W r.2 x.2)),true,[3]⟩) (Yp (n:=2) (rs:=[⟨.dict (dS Z4 (ZX W)),false,[]⟩,⟨ZN (S.filter λx=>YV W r.2 x.2),false,[3]⟩]) rfl rfl (HQ h (hr.filter _) (ok.filter _)))
     rw[e]
     conv=>lhs;unfold UV
     rw[t,qB,if_pos rfl];show Option.bind (Pq (WZ W R S acc s5)) _=_;rw[show Pq (WZ W R S acc s5)=_ from Zh b1 (Zh b2 (Zh b3 o)),qB];simp only;rw[q];simp
theorem ON(h:f env=some rs)(k:g (XX rs)=some (d,fr)):Zy g f env=some ⟨d,fr,ZM d (Yj rs)⟩:=by
 unfold Zy;rw[h,qB,k];rfl
theorem Wh(h1:f env=some r)(h2:k env=some rs):Z7 f k env=some (r::rs):=by
 unfold Z7;rw[h1,h2];rfl
theorem G7{rs:List Yo}(h:f env=some rs)(a:rs.length<=100000):ZE f env=some ⟨.tuple (XX rs),false,Yj rs⟩:=by
 unfold ZE;rw[h,qB,if_pos a]
theorem AI(h:ZD W S)(c:∀r,Zo W S≠[r]):(Z0 (YA (Zk (Z2 XT (Zy Zp (Z7 (Z9 4) Z8)) (eC (.int 0)))) (Ze (ZE (Z7 (Z9 2) (Z7 (ZE (Z7 (eC (.str "none")) Z8)) Z8)))) Zj)
  (Ze (ZE (Z7 (Z9 2) (Z7 (ZE (Z7 (eC (.str "quarrel")) (Z7 (Zy Xw (Z7 (YB ["_law_name","_law_kinds"] [] (Zl (Z9 4)) (gT 2 (Zw 0 (Zw 1 YE))) Yk (Z9 0)) Z8)) Z8))) Z8))))) (WZ W R S acc s5)=some (.rt (.tuple [Z4 acc,YO (Yu (Zo W S))]) false):=by
 have t:=NL (W:=W) (R:=R) (S:=S) (acc:=acc) (s5:=s5) 0;have o:(Zo W S).length<300:=(h.filter _).len
 cases hS:Zo W S with
 | nil=>
  rw[hS]at t;refine GV (WO t ?_);exact Uy (bs:=[2]) rfl
 | cons a T=>
  cases T with
  | nil=>exact absurd hS (c a)
  | cons b T=>
   rw[hS]at t;have f:((((a::b::T).length:Nat):Int)==0)=false:=by rw[beq_eq_false_iff_ne,qu];omega
   rw[f]at t;refine Zh (if_f t rfl) ?_
   have m:X5 (gT 2 (Zw 0 (Zw 1 YE))) Yk (Z9 0) [.no,.no] ((Zo W S).map Zm)=some ((Zo W S).map λq=>.str q.1):=
    zdj (enc:=Zm) (out:=λq=>.str q.1) λq p=>⟨[.pl (.str q.1),.pl (ZI q.2)],rfl,rfl,vs q.1,rfl,rfl⟩
   have e:YB ["_law_name","_law_kinds"] [] (Zl (Z9 4)) (gT 2 (Zw 0 (Zw 1 YE))) Yk (Z9 0) (WZ W R S acc s5)=some ⟨.list ((Zo W S).map λq=>.str q.1),true,if WS ((Zo W S).map λq=>.str q.1)=true then[]else[4]++Yb [] (WZ W R S acc s5)⟩:=VU (own:=["_law_name","_law_kinds"]) (fr:=[]) (ds:=(Zo W S).map Zm) (bs:=[4]) rfl (by rw[qD];omega) m
   have l:WS ((Zo W S).map λq=>PyData.str q.1)=true:=Ug.mpr λx k=>by
    obtain⟨q,_,rfl⟩:=qo.mp k;rfl
   rw[l,if_pos rfl]at e
   have n:Zy Xw (Z7 (YB ["_law_name","_law_kinds"] [] (Zl (Z9 4)) (gT 2 (Zw 0 (Zw 1 YE))) Yk (Z9 0)) Z8) (WZ W R S acc s5)=some ⟨ZI (Yu (Zo W S)),false,[]⟩:=by
    have u:=ON (g:=Xw) (d:=.tuple ((Zo W S).map λq=>PyData.str q.1)) (fr:=false) (Wh e (show Z8 (WZ W R S acc s5)=some []from rfl)) (by
     show Xw [.list ((Zo W S).map λq=>.str q.1)]=_;rfl)
    rw[u];have:ZM (PyData.tuple ((Zo W S).map λq=>PyData.str q.1)) (Yj [⟨.list ((Zo W S).map λq=>.str q.1),true,[]⟩])=[]:=by unfold ZM;split<;>rfl
    rw[this];unfold ZI Yu;rw[TX];rfl
   refine Uy (bs:=[2]) ?_
   have i:=G7 (Wh (show eC (.str "quarrel") (WZ W R S acc s5)=some (vs "quarrel")from rfl) (Wh n (show Z8 (WZ W R S acc s5)=some []from rfl))) (show 2<=100000 by decide)
   have j:=G7 (Wh (show Z9 2 (WZ W R S acc s5)=some ⟨Z4 acc,false,[2]⟩from rfl) (Wh i (show Z8 (WZ W R S acc s5)=some []from rfl))) (show 2<=100000 by decide);rw[j,hS];rfl
theorem zS(h:ZV W)(b:ZD W S)(ok:Y8 W p S):FY [.dict (dS Z4 (ZX W)),ZN S]=some (.tuple [Z4 (Yu (X9 W 300 S).1),YO (Yu (Zo W (X9 W 300 S).2))],false):=by
 have f:=b.len;obtain⟨e,w⟩:=GA h (R:=S) 300 S [] 1000 .no b ok (by omega) (by decide) (by decide);rw[H7]at w
 have sub:∀(n:Nat)(T:List ZU),ZD W T->ZD W (X9 W n T).2:=λn=>by
  induction n with
  | zero=>intro T a;exact a
  | succ n d=>
   intro T a;unfold X9;split
   ·exact d _ (a.filter _)
   ·exact a
 have c:Z1 4 (ZG 2 Ol (Z7 (Z9 0) (Z7 (Z9 3) Z8))) [.pl (.dict (dS Z4 (ZX W))),.pl (ZN S),.ac (Z4 []),.ac (ZN S),.no,.no]=some (.nx (WZ W S S [] .no)):=
  zbe (r:=⟨ZN (Zo W S),true,[3]⟩) (Yp (n:=2) (rs:=[⟨.dict (dS Z4 (ZX W)),false,[]⟩,⟨ZN S,false,[3]⟩]) rfl rfl (HQ h b ok))
 exact zgd (env:=[.pl (.dict (dS Z4 (ZX W))),.pl (ZN S),.no,.no,.no,.no]) rfl (Zh rfl (Zh (e1:=[.pl (.dict (dS Z4 (ZX W))),.pl (ZN S),.ac (Z4 []),.ac (ZN S),.no,.no]) rfl (Zh c (Zh w (AI (sub 300 S b) (F2 300 S (by omega)))))))
abbrev Yc(W:YD)(S:List ZU):List ZU:=S.filter λx=>!decide (x∈Zo W S)
def hF(W:YD):Nat->List ZU->ZU->Nat
 | 0,_,_=>0
 | n+1,S,r=>if r∈Zo W S then 0 else hF W n (Yc W S) r+1
theorem SU(z:r∈Zo W S):hF W (n+1) S r=0:=if_pos z
theorem MT(z:r∉Zo W S):hF W (n+1) S r=hF W n (Yc W S) r+1:=if_neg z
theorem OS(h:r∈S)(n:r∉Zo W S):r∈Yc W S:=qj.mpr ⟨h,by rw[decide_eq_false n];rfl⟩
theorem wR(h:r∈Yc W S):r∈S/\r∉Zo W S:=by
 obtain⟨b,a⟩:=qj.mp h;exact⟨b,λz=>by rw[decide_eq_true z]at a;cases a⟩
section
variable{W:YD}(h:ZV W){p:Nat}
include h
theorem OT{S:List ZU}(ok:Y8 W p S)(a:S.length<=n+1):(Yc W S).length<=n:=by
 by_cases e:S=[]
 ·subst e;exact V5 _
 ·have:(Yc W S).length<S.length:=Lx h ok e;omega
theorem Gu:∀(n:Nat)(S:List ZU),Y8 W p S->S.length<=n->∀q∈S,∀r∈S,YV W q.2 r.2=true->hF W n S q<hF W n S r
 | 0,S,ok,hn,q,hq,r,hr,hb=>by
  have:S=[]:=OY.mp (by omega);rw[this]at hq;cases hq
 | n+1,S,ok,hn,q,hq,r,hr,hb=>by
  have b:r∉Zo W S:=λz=>by have:=(Qu.mp z).2 q hq;rw[hb]at this;cases this
  have e:hF W (n+1) S r=hF W n (Yc W S) r+1:=MT b;rw[e];by_cases nq:q∈Zo W S
  ·have a:hF W (n+1) S q=0:=SU nq;rw[a];omega
  ·have a:hF W (n+1) S q=hF W n (Yc W S) q+1:=MT nq;rw[a];have:=Gu n (Yc W S) (ok.filter _) (OT h ok hn) q (OS hq nq) r (OS hr b) hb;omega
theorem Iu:∀(n:Nat)(S:List ZU),Y8 W p S->S.length<=n->∀r∈S,∀k,hF W n S r=k+1->∃q∈S,YV W q.2 r.2=true/\hF W n S q=k
 | 0,S,ok,hn,r,hr,k,e=>by cases e
 | n+1,S,ok,hn,r,hr,k,e=>by
  have a:r∉Zo W S:=λz=>by rw[SU z]at e;cases e
  have d:hF W n (Yc W S) r=k:=by rw[MT a]at e;omega
  cases k with
  | zero=>
   obtain⟨m,b,z⟩:=ox h ok ((S.filter λq=>YV W q.2 r.2).length+1) r hr (LQ _);rcases z with rfl|z
   ·exact absurd b a
   ·exact⟨m,(Qu.mp b).1,z,SU b⟩
  | succ k=>
   obtain⟨q,i,f,c⟩:=Iu n (Yc W S) (ok.filter _) (OT h ok hn) r (OS hr a) k d;obtain⟨g,j⟩:=wR i;exact⟨q,g,f,by rw[MT j,c]⟩
theorem ET:∀(n:Nat)(S:List ZU),Y8 W p S->S.length<=n->XY W n S=(List.range (XY W n S).length).map λk=>S.filter λr=>decide (hF W n S r=k)
 | 0,S,ok,hn=>rfl
 | n+1,S,ok,hn=>by
  by_cases e:S=[]
  ·subst e;rfl
  ·have c:XY W (n+1) S=Zo W S::XY W n (Yc W S):=by
    conv=>lhs;unfold XY
    rw[if_neg e]
   have f:=ET n (Yc W S) (ok.filter _) (OT h ok hn);rw[c,qu,Ih,qL,TX]
   have d:Zo W S=S.filter λr=>decide (hF W (n+1) S r=0):=by
    conv=>lhs;unfold Zo
    refine B3 λr b=>?_;by_cases z:r∈Zo W S
    ·have a:hF W (n+1) S r=0:=SU z;rw[a];exact(qj.mp z).2
    ·have a:hF W (n+1) S r=hF W n (Yc W S) r+1:=MT z;rw[a,decide_eq_false (by omega)];exact Bool.eq_false_iff.mpr λy=>z (qj.mpr ⟨b,y⟩)
   have g:∀k,(Yc W S).filter (λr=>decide (hF W n (Yc W S) r=k))=S.filter λr=>decide (hF W (n+1) S r=k+1):=λk=>by
    unfold Yc;rw[List.filter_filter];refine B3 λr b=>?_;by_cases z:r∈Zo W S
    ·have a:hF W (n+1) S r=0:=SU z;rw[a,decide_eq_true z,decide_eq_false (show ¬(0=k+1) by omega)];simp
    ·have a:hF W (n+1) S r=hF W n (Yc W S) r+1:=MT z;rw[a,decide_eq_false z];simp
   rw[<- d];congr 1
   conv=>lhs;rw[f]
   refine Pf λk _=>?_;exact g k
theorem F0:∀(n:Nat)(S:List ZU),Y8 W p S->∀x∈XY W n S,x≠[]
 | 0,S,ok,x,a=>by cases a
 | n+1,S,ok,x,a=>by
  unfold XY at a;split at a
  ·cases a
  ·rename_i e;rcases qN.mp a with rfl|a
   ·exact λz=>e (D4 h ok z)
   ·exact F0 n _ (ok.filter _) x a
theorem LG:∀(n:Nat)(S:List ZU),Y8 W p S->S.length<=n->∀r∈S,hF W n S r<(XY W n S).length
 | 0,S,ok,hn,r,hr=>by
  have:S=[]:=OY.mp (by omega);rw[this]at hr;cases hr
 | n+1,S,ok,hn,r,hr=>by
  have e:S≠[]:=λz=>by rw[z]at hr;cases hr
  have a:XY W (n+1) S=Zo W S::XY W n (Yc W S):=by
   conv=>lhs;unfold XY
   rw[if_neg e]
  rw[a,qu];by_cases z:r∈Zo W S
  ·rw[SU z];omega
  ·rw[MT z];have:=LG n (Yc W S) (ok.filter _) (OT h ok hn) r (OS hr z);omega
theorem OR:∀(n:Nat)(S:List ZU),Y8 W p S->(XY W n S).length<=S.length
 | 0,S,ok=>V5 _
 | n+1,S,ok=>by
  unfold XY;split
  ·exact V5 _
  ·rename_i e;have:=Lx h ok e;have a:=OR n (Yc W S) (ok.filter _);rw[qu];show(XY W n (Yc W S)).length+1<=_;have:(Yc W S).length<S.length:=this;omega
theorem wt{S:List ZU}(ok:Y8 W p S)(b:S.length<=n):((List.range S.length).map λk=>S.filter λr=>decide (hF W n S r=k)).filter (λx=>!x.isEmpty)=XY W n S:=by
 have g:=OR h n S ok;obtain⟨m,hm⟩:∃m,S.length=(XY W n S).length+m:=⟨S.length - (XY W n S).length,by omega⟩;rw[hm,List.range_add,qx,wF,<- ET h n S ok b]
 have d:(XY W n S).filter (λx=>!x.isEmpty)=XY W n S:=Fe.mpr λx a=>by
  have:=F0 h n S ok x a
  cases x with
  | nil=>exact absurd rfl this
  | cons=>rfl
 have c:(((List.range m).map λx=>(XY W n S).length+x).map λk=>S.filter λr=>decide (hF W n S r=k)).filter (λx=>!x.isEmpty)=[]:=mW.mpr λx a=>by
  obtain⟨k,f,rfl⟩:=qo.mp a;obtain⟨j,_,rfl⟩:=qo.mp f
  have:(S.filter λr=>decide (hF W n S r=(XY W n S).length+j))=[]:=mW.mpr λr e=>by
   have:=LG h n S ok b r e;rw[decide_eq_false (by omega)];decide
  rw[this];decide
 rw[d,c,q9]
end
def dN(S:List ZU)(f:ZU->Nat):List (PyData×PyData):=S.map λr=>(.str r.1,.int (f r:Int))
theorem Io{S:List ZU}(a:(S.map (·.1)).Nodup){x r:ZU}(b:x∈S)(d:r∈S)(e:x.1=r.1):x=r:=by
 have c:(r.1,x.2)∈S:=by rw[<- e];exact b
 have:=Nh a c (show(r.1,r.2)∈S from d);cases x;cases r;simp only at e this ⊢;rw[e,this]
theorem O6{f:ZU->Nat}:∀{S:List ZU},(S.map (·.1)).Nodup->∀{r:ZU},r∈S->U8 (dN S f) (Sum.inr r.1)=some (.int (f r:Int))
 | [],_,r,h=>by cases h
 | x::S,nd,r,h=>by
  have a:=nd;rw[qL]at a;show(if Zd (.str x.1)=some (Sum.inr r.1)then some (PyData.int (f x:Int))else U8 (dN S f) (Sum.inr r.1))=_;by_cases e:x.1=r.1
  ·have:x=r:=Io nd (.head _) h e;subst this;rw[if_pos (show Zd (.str x.1)=some (Sum.inr x.1)from rfl)]
  ·rw[if_neg (λz=>e (by injection z with z;injection z with z))];rcases qN.mp h with rfl|h
   ·exact absurd rfl e
   ·exact O6 (Vl.mp a).2 h
def upF(f:ZU->Nat)(r:ZU)(v:Nat):ZU->Nat:=λx=>if x=r then v else f x
theorem vN{f:ZU->Nat}{S:List ZU}(d:(S.map (·.1)).Nodup){r:ZU}(h:r∈S){v:Nat}:Up (dN S f) (.str r.1) (.int (v:Int))=dN S (upF f r v):=by
 have c:∀{a b:Str},Zd (.str a)=Zd (.str b)↔a=b:=λ{a b}=>⟨λz=>by have z:(some (Sum.inr a):Option Y7)=some (Sum.inr b):=z;injection z with z;injection z with z,λz=>by rw[z]⟩;unfold Up;rw[if_pos]
 ·unfold dN;rw[TX];refine Pf λx g=>?_;show(if Zd (.str x.1)=Zd (.str r.1)then((PyData.str x.1,PyData.int (v:Int)):PyData×PyData)else(.str x.1,.int (f x:Int)))=(.str x.1,.int ((upF f r v x:Nat):Int));by_cases e:x.1=r.1
  ·have:x=r:=Io d g h e;rw[if_pos (c.mpr e)];unfold upF;rw[if_pos this]
  ·rw[if_neg λz=>e (c.mp z)];unfold upF;rw[if_neg λz=>e (by rw[z])]
 ·refine RF.mpr ⟨(.str r.1,.int (f r:Int)),qo.mpr ⟨r,h,rfl⟩,decide_eq_true rfl⟩
theorem p5{f:ZU->Nat}{S:List ZU}{r:ZU}(h:r.1∉S.map (·.1)):Up (dN S f) (.str r.1) (.int (f r:Int))=dN (S++[r]) f:=by
 unfold Up;rw[if_neg]
 ·unfold dN;rw[qx];rfl
 ·intro z;obtain⟨c,b,e⟩:=RF.mp z;obtain⟨x,a,rfl⟩:=qo.mp b;have e:=of_decide_eq_true e;have e:(some (Sum.inr x.1):Option Y7)=some (Sum.inr r.1):=e;injection e with e;injection e with e;exact h (qo.mpr ⟨x,a,e⟩)
theorem Eg{env:ZY}{kvs:List (PyData×PyData)}(b:env[i]?=some (.ac (.dict kvs)))(f:a env=some ⟨d,false,[]⟩)(g:e env=some (vs k))(c:kvs.length<100000):Xz i e a env=some (.nx (env.set i (.ac (.dict (Up kvs (.str k) d))))):=by
 unfold Xz;rw[b];dsimp only;rw[f,qB,g,qB];show Option.bind (some (Sum.inr k:Y7)) _=_;rw[qB,if_pos ⟨c,λz=>by cases z⟩];rfl
theorem Hf{f:AF}{env:ZY}{s:Nat}(h:f env=some [vi (s:Int)])(a:s<=100000):Vf f env=some ((List.range s).map (λ(k:Nat)=>PyData.int (k:Int)),[]):=by
 unfold Vf;rw[h,qB];dsimp only;rw[if_pos ⟨by omega,by omega⟩,Jl,Dl]
abbrev WJ(W:YD)(S:List ZU)(f:ZU->Nat)(s3 s4 s5 s6 s7:Sl):ZY:=[.pl (.dict (dS Z4 (ZX W))),.pl (ZN S),.ac (.dict (dN S f)),s3,s4,s5,s6,s7]
abbrev Lq:TF:=(UZ (Zk (Z2 X4 (Z9 7) (Z9 4))) (UZ (Zt (ZG 3 VA (Z7 (Z9 0) (Z7 (Z9 4) (Z7 (Z9 7) Z8))))) (Zk (Z2 CY (X8 2 (Z9 3)) (X8 2 (Z9 6))))))
abbrev dpIn:SF:=(YA Lq (Xz 2 (Z9 3) (Z2 Zr (X8 2 (Z9 6)) (eC (.int 1)))) Zj)
theorem E3{S:List ZU}{f:ZU->Nat}:(dN S f).length=S.length:=qD _
section
variable{W:YD}(h:ZV W){p:Nat}{S:List ZU}(hr:ZD W S)(ok:Y8 W p S)(nd:(S.map (·.1)).Nodup)
include h hr ok nd
theorem uq{f:ZU->Nat}{r q:ZU}(b:r∈S)(e:q∈S) :
  dpIn (WJ W S f (.pl (.str r.1)) (.pl (ZI r.2)) a (.pl (.str q.1)) (.pl (ZI q.2)))=some (.nx (WJ W S (if YV W q.2 r.2=true/\f r<=f q then upF f r (f q+1)else f) (.pl (.str r.1)) (.pl (ZI r.2)) a (.pl (.str q.1)) (.pl (ZI q.2)))):=by
 have l:Zk (Z2 X4 (Z9 7) (Z9 4)) (WJ W S f (.pl (.str r.1)) (.pl (ZI r.2)) a (.pl (.str q.1)) (.pl (ZI q.2)))=some (!(q.2==r.2)):=by
  refine zdv ?_;show((X4 (ZI q.2) (ZI r.2)).bind λz=>some (⟨z.1,z.2,ZM z.1 ([]++[])⟩:Yo))=_;rw[B6 (hr.low q e) (hr.low r b)];rfl
 have j:Zt (ZG 3 VA (Z7 (Z9 0) (Z7 (Z9 4) (Z7 (Z9 7) Z8)))) (WJ W S f (.pl (.str r.1)) (.pl (ZI r.2)) a (.pl (.str q.1)) (.pl (ZI q.2)))=some (UU W q.2 r.2):=En (n:=3) (rs:=[⟨.dict (dS Z4 (ZX W)),false,[]⟩,⟨ZI r.2,false,[]⟩,⟨ZI q.2,false,[]⟩]) rfl rfl (LU h hr ok e b);have o:X8 2 (Z9 3) (WJ W S f (.pl (.str r.1)) (.pl (ZI r.2)) a (.pl (.str q.1)) (.pl (ZI q.2)))=some (vi (f r:Int)):=KA (.inr rfl) rfl (O6 nd b);have i:X8 2 (Z9 6) (WJ W S f (.pl (.str r.1)) (.pl (ZI r.2)) a (.pl (.str q.1)) (.pl (ZI q.2)))=some (vi (f q:Int)):=KA (.inr rfl) rfl (O6 nd e)
 have m:Zk (Z2 CY (X8 2 (Z9 3)) (X8 2 (Z9 6))) (WJ W S f (.pl (.str r.1)) (.pl (ZI r.2)) a (.pl (.str q.1)) (.pl (ZI q.2)))=some (decide (f r<=f q)):=by
  refine zdv ?_;unfold Z2;rw[o,i];show some (vb (decide ((f r:Int)<=(f q:Int))))=_;rw[show decide ((f r:Int)<=(f q:Int))=decide (f r<=f q)from decide_eq_decide.mpr Int.ofNat_le]
 have g:Lq (WJ W S f (.pl (.str r.1)) (.pl (ZI r.2)) a (.pl (.str q.1)) (.pl (ZI q.2)))=some (YV W q.2 r.2&&decide (f r<=f q)):=by
  unfold Lq UZ;rw[l,Fw]
  cases q.2==r.2 with
  | true=>rfl
  | false=>
   show Option.bind (some true) _=_;rw[qB,if_pos rfl,j,qB,m];cases UU W q.2 r.2<;>rfl
 have pt:Xz 2 (Z9 3) (Z2 Zr (X8 2 (Z9 6)) (eC (.int 1))) (WJ W S f (.pl (.str r.1)) (.pl (ZI r.2)) a (.pl (.str q.1)) (.pl (ZI q.2)))=some (.nx (WJ W S (upF f r (f q+1)) (.pl (.str r.1)) (.pl (ZI r.2)) a (.pl (.str q.1)) (.pl (ZI q.2)))):=by
  have s:=hr.len;rw[Eg (kvs:=dN S f) (k:=r.1) (d:=.int ((f q+1:Nat):Int)) rfl (show _=some (vi ((f q:Int)+1))from QJ i rfl) rfl (by rw[E3];omega),vN nd b];rfl
 by_cases c:YV W q.2 r.2=true/\f r<=f q
 ·rw[if_pos c];exact WO (by rw[g,c.1,decide_eq_true c.2];rfl) pt
 ·rw[if_neg c];refine if_f ?_ rfl;rw[g];congr 1
  cases hb:YV W q.2 r.2 with
  | false=>rfl
  | true=>rw[decide_eq_false λz=>c ⟨hb,z⟩];rfl
theorem p8{H:ZU->Nat}(w:∀q∈S,∀r∈S,YV W q.2 r.2=true->H q<H r){f:ZU->Nat}(D:∀x∈S,f x<=H x){r:ZU}(G:r∈S) :
  ∃b a d,YH (gT 2 (Zw 6 (Zw 7 YE))) dpIn (S.map Zm) (WJ W S f (.pl (.str r.1)) (.pl (ZI r.2)) s5 s6 s7)=some (.nx (WJ W S b (.pl (.str r.1)) (.pl (ZI r.2)) s5 a d))/\
   (∀x∈S,b x<=H x)/\(∀x,f x<=b x)/\(∀x,x≠r->b x=f x)/\∀q∈S,YV W q.2 r.2=true->f q<b r:=by
 obtain⟨A,F,b,a,d,rfl,n,t,k,v⟩:=Uv (enc:=Zm) (g:=gT 2 (Zw 6 (Zw 7 YE))) (l:=S) (env:=WJ W S f (.pl (.str r.1)) (.pl (ZI r.2)) s5 s6 s7) (body:=dpIn)
  (λs j=>∃b a d,j=WJ W S b (.pl (.str r.1)) (.pl (ZI r.2)) s5 a d/\(∀x∈S,b x<=H x)/\(∀x,f x<=b x)/\(∀x,x≠r->b x=f x)/\∀q∈s,YV W q.2 r.2=true->f q<b r)
  ⟨f,s6,s7,rfl,D,λ_=>qM _,λ_ _=>rfl,λq u=>by cases u⟩ (by
   rintro s q C j E ⟨g,a,d,rfl,n,t,k,v⟩;have u:q∈S:=by rw[<- E];simp
   refine⟨WJ W S g (.pl (.str r.1)) (.pl (ZI r.2)) s5 (.pl (.str q.1)) (.pl (ZI q.2)),_,rfl,.inl (uq h hr ok nd G u),_,_,_,rfl,?_⟩;have B:YV W q.2 r.2=true->q≠r:=λz e=>by rw[e,MO]at z;cases z
   by_cases c:YV W q.2 r.2=true/\g r<=g q
   ·rw[if_pos c];refine⟨λx o=>?_,λx=>?_,λx o=>?_,λy i m=>?_⟩
    ·unfold upF;split
     ·rename_i e;subst e;have:=w q u x o c.1;have:=n q u;omega
     ·exact n x o
    ·unfold upF;split
     ·rename_i e;subst e;have:=t x;omega
     ·exact t x
    ·unfold upF;rw[if_neg o];exact k x o
    ·show f y<upF g r (g q+1) r;unfold upF;rw[if_pos rfl];rcases qk.mp i with i|i
     ·have:=v y i m;omega
     ·have e:y=q:=by simpa using i
      subst e;have:=k y (B m);omega
   ·rw[if_neg c];refine⟨n,t,k,λy i m=>?_⟩;rcases qk.mp i with i|i
    ·exact v y i m
    ·have e:y=q:=by simpa using i
     subst e;have:=k y (B m);have:¬g r<=g y:=λz=>c ⟨m,z⟩;omega)
 exact⟨b,a,d,F,n,t,k,v⟩
abbrev MF:SF:=(Y2 (Zl (Z9 1)) (gT 2 (Zw 6 (Zw 7 YE))) dpIn)
theorem o8{H:ZU->Nat}(E:∀q∈S,∀r∈S,YV W q.2 r.2=true->H q<H r)(D:∀r∈S,∀k,H r=k+1->∃q∈S,YV W q.2 r.2=true/\H q=k){f:ZU->Nat}(L:∀x∈S,f x<=H x)(J:∀x∈S,H x<=t->f x=H x) :
  ∃j c d a b,YH (gT 2 (Zw 3 (Zw 4 YE))) MF (S.map Zm) (WJ W S f s3 s4 s5 s6 s7)=some (.nx (WJ W S j c d s5 a b))/\(∀x∈S,j x<=H x)/\∀x∈S,H x<=t+1->j x=H x:=by
 obtain⟨G,B,j,c,d,a,b,rfl,z,w,A⟩:=Uv (enc:=Zm) (g:=gT 2 (Zw 3 (Zw 4 YE))) (l:=S) (env:=WJ W S f s3 s4 s5 s6 s7) (body:=MF)
  (λo m=>∃j c d a b,m=WJ W S j c d s5 a b/\(∀x∈S,j x<=H x)/\(∀x∈S,H x<=t->j x=H x)/\∀x∈o,H x<=t+1->j x=H x)
  ⟨f,_,_,_,_,rfl,L,J,λq y=>by cases y⟩ (by
   rintro o r I m F ⟨g,c,d,a,b,rfl,z,w,A⟩;have u:r∈S:=by rw[<- F];simp
   have s:∀x∈o,x∈S:=λx i=>by rw[<- F];exact Uw _ i
   obtain⟨O,R,P,B,v,C,Q,N⟩:=p8 h hr ok nd E z u (s5:=s5) (s6:=a) (s7:=b);refine⟨WJ W S g (.pl (.str r.1)) (.pl (ZI r.2)) s5 a b,_,rfl,.inl (U5 (ds:=S.map Zm) (bs:=[]) rfl B),O,_,_,_,_,rfl,v,λx i n=>?_,λx i n=>?_⟩
   ·have:=w x i n;have:=v x i;have:=C x;omega
   ·rcases qk.mp i with i|i
    ·have:=A x i n;have:=v x (s x i);have:=C x;omega
    ·have e:x=r:=by simpa using i
     subst e;by_cases le:H x<=t
     ·have:=w x u le;have:=v x u;have:=C x;omega
     ·obtain⟨q,y,M,e⟩:=D x u t (by omega);have:=N q y M;have:=w q y (by omega);have:=v x u;omega)
 exact⟨j,c,d,a,b,B,z,A⟩
theorem oi(A:S.length<=n):JB [.dict (dS Z4 (ZX W)),ZN S]=some (.dict (dN S (hF W n S)),true):=by
 have Y:=hr.len;have F:=Gu h n S ok A;have E:=Iu h n S ok A
 obtain⟨J,H,c,j,rfl⟩:=Uv (enc:=Zm) (g:=gT 2 (Zw 3 (Zw 4 YE))) (l:=S) (env:=[.pl (.dict (dS Z4 (ZX W))),.pl (ZN S),.ac (.dict (dN [] λ_=>0)),.no,.no,.no,.no,.no]) (body:=Xz 2 (Z9 3) (eC (.int 0)))
  (λa b=>∃c j,b=[.pl (.dict (dS Z4 (ZX W))),.pl (ZN S),.ac (.dict (dN a λ_=>0)),c,j,.no,.no,.no]) ⟨_,_,rfl⟩ (by
   rintro a r v b D ⟨c,j,rfl⟩;refine⟨[.pl (.dict (dS Z4 (ZX W))),.pl (ZN S),.ac (.dict (dN a λ_=>0)),.pl (.str r.1),.pl (ZI r.2),.no,.no,.no],_,rfl,.inl (Eg (kvs:=dN a λ_=>0) (k:=r.1) (d:=.int 0) rfl rfl rfl ?_),.pl (.str r.1),.pl (ZI r.2),?_⟩
   ·rw[E3];have:=congrArg List.length D;simp at this;omega
   ·have M:r.1∉a.map (·.1):=λz=>by
     rw[<- D,qx,qL]at nd;exact(R0.mp nd).2.2 _ z _ (.head _) rfl
    have:=p5 (f:=λ_=>0) M;rw[<- this];rfl)
 obtain⟨L,m,q,u,w,C,s,o,rfl,I,G⟩:=Uv (enc:=λi:Nat=>PyData.int (i:Int)) (g:=gN 5) (l:=List.range S.length) (env:=WJ W S (λ_=>0) c j .no .no .no) (body:=Y2 (Zl (Z9 1)) (gT 2 (Zw 3 (Zw 4 YE))) MF)
  (λa b=>∃q u w C s o,b=WJ W S q u w C s o/\(∀x∈S,q x<=hF W n S x)/\∀x∈S,hF W n S x<=a.length->q x=hF W n S x)
  ⟨_,_,_,_,_,_,rfl,λ_ _=>V5 _,λx _ e=>by simp at e;rw[e]⟩ (by
   rintro a i v b D ⟨g,u,w,C,s,o,rfl,I,G⟩;obtain⟨R,U,Z,T,X,N,P,O⟩:=o8 h hr ok nd F E (t:=a.length) I G (s3:=u) (s4:=w) (s5:=.pl (.int (i:Int))) (s6:=s) (s7:=o);refine⟨WJ W S g u w (.pl (.int (i:Int))) s o,_,rfl,.inl (U5 (ds:=S.map Zm) (bs:=[]) rfl N),R,_,_,_,_,_,rfl,P,λx y e=>O x y (by rw[qU]at e;exact e)⟩)
 have B:dN S q=dN S (hF W n S):=by
  unfold dN;refine Pf λx y=>?_;have:=LG h n S ok A x y;have:=OR h n S ok;rw[G x y (by rw[HD];omega)]
 unfold WJ at m;rw[B]at m;have len:Zy Zp (Z7 (Z9 1) Z8) (WJ W S (λ_=>0) c j .no .no .no)=some (vi ((S.map Zm).length:Int)):=Q2 rfl;refine zgd (env:=[.pl (.dict (dS Z4 (ZX W))),.pl (ZN S),.no,.no,.no,.no,.no,.no]) rfl (Zh rfl (Zh (U5 (ds:=S.map Zm) (bs:=[]) rfl H) (Zh (U5 (ds:=(List.range S.length).map λi:Nat=>PyData.int (i:Int)) (bs:=[]) ?_ m) rfl)))
 have Q:Z7 (Zy Zp (Z7 (Z9 1) Z8)) Z8 (WJ W S (λ_=>0) c j .no .no .no)=some [vi (S.length:Int)]:=by
  rw[Wh len (show Z8 (WJ W S (λ_=>0) c j .no .no .no)=some []from rfl),qD]
 exact Hf Q (by omega)
end
theorem Gm:∀(l:List (List Str)),(∀ks∈l,Yx ks)->qw (l.map Z4)=true/\qb (l.map Z4)<=1
 | [],_=>⟨rfl,by simp[qb]⟩
 | ks::l,h=>by
  obtain⟨c,e⟩:=Gm l λx a=>h x (qI _ a);obtain⟨b,d⟩:=Mk ks (h ks qX);constructor
  ·rw[qL];simp only[qw,Z4,PyData.canLay0,qe];exact⟨b,c⟩
  ·rw[qL];simp only[qb,Z4,PyData.depth];rw[d];have:qb (l.map λks=>PyData.list (ks.map .str))<=1:=e;omega
theorem wC(h:∀a∈l,Yx a):qm (VZ l)=true:=by
 obtain⟨b,c⟩:=Gm l h;unfold qm VZ;rw[qe];refine⟨by simpa [PyData.canLay0]using b,decide_eq_true ?_⟩;simp only[PyData.depth];omega
theorem yK(h:ZV W)(a:∀x∈nm W,Xv x)(d:∀r∈rs,qz r.1=true/\Yx r.2):qm (Zs W p rs)=true:=by
 obtain⟨b,e⟩:=FJ W (y9 h a);obtain⟨c,f⟩:=uZ rs d;unfold qm Zs;rw[qe];refine⟨?_,decide_eq_true ?_⟩
 ·show(qw (W.map XH)&&(true&&(qw (rs.map Zm)&&true)))=true;rw[b,c];rfl
 ·show max (qb (W.map XH)+1) (max 0 (max (qb (rs.map Zm)+1) 0))+1<=64;omega
theorem BD{x y:Yo}(f:a c=some x)(e:b c=some y)(hw:w x.d y.d=some (z,fr)):Z2 w a b c=some ⟨z,fr,ZM z (x.bs++y.bs)⟩:=by
 unfold Z2;rw[f,qB,e,qB,hw];rfl
theorem yV(d:env[i]?=some (.pl (.str x)))(c:env[j]?=some s)(b:Hd (Z4 xs) s):Zk (Z2 (X3 neg) (Z9 i) (Z9 j)) env=some (if neg then !decide (x∈xs)else decide (x∈xs)):=by
 obtain⟨bs,e⟩:=Fp c b;have a:Z9 i env=some (vs x):=by unfold Z9;rw[d]
 exact zdv (BD a e (IC neg xs x))
theorem AG:∀c<128,∀q∈[34,39],(Builtin.Str.reprChar q c).length<=4:=by decide +kernel
def Sd(W:YD)(ns:List Str):Option Str:=ns.find? λn=>!decide (n∈nm W)
theorem ll:∀(a:List Str)(all:List Str)(s:Sl),(∀x∈a,x∉nm W->Qt (.str x)=true)->∃c,Um (gN 3) (TZ (Zk (Z2 (X3 true) (Z9 3) (Z9 2))) (OE "NoKind" (Z9 3)) (TU Zj)) (a.map .str) [.pl (ZT W),.pl (Z4 all),.ac (Z4 (nm W)),s] =
  (match Sd W a with|none=>some (.ok (.nx [.pl (ZT W),.pl (Z4 all),.ac (Z4 (nm W)),c]))|some x=>some (.rx "NoKind" (.str x)))
 | [],all,s,_=>⟨s,rfl⟩
 | n::a,all,s,h=>by
  have t:=yV (neg:=true) (i:=3) (j:=2) (env:=[.pl (ZT W),.pl (Z4 all),.ac (Z4 (nm W)),.pl (.str n)]) (x:=n) (xs:=nm W) rfl rfl (.inr rfl);by_cases hm:n∈nm W
  ·obtain⟨c,e⟩:=ll a all (.pl (.str n)) λx d=>h x (qI _ d);refine⟨c,?_⟩
   have b:TZ (Zk (Z2 (X3 true) (Z9 3) (Z9 2))) (OE "NoKind" (Z9 3)) (TU Zj) [.pl (ZT W),.pl (Z4 all),.ac (Z4 (nm W)),.pl (.str n)]=some (.ok (.nx [.pl (ZT W),.pl (Z4 all),.ac (Z4 (nm W)),.pl (.str n)])):=by
    unfold TZ;rw[t,qB,if_neg (by simp[hm])];rfl
   have f:Sd W (n::a)=Sd W a:=by unfold Sd;rw[N6];simp[hm]
   rw[f,<- e];show((TZ _ _ _ [.pl (ZT W),.pl (Z4 all),.ac (Z4 (nm W)),.pl (.str n)]).bind _)=_;rw[b];rfl
  ·refine⟨s,?_⟩
   have b:TZ (Zk (Z2 (X3 true) (Z9 3) (Z9 2))) (OE "NoKind" (Z9 3)) (TU Zj) [.pl (ZT W),.pl (Z4 all),.ac (Z4 (nm W)),.pl (.str n)]=some (.rx "NoKind" (.str n)):=by
    unfold TZ;rw[t,qB,if_pos (by simp[hm])];show(if Qt (.str n)=true then some (OU.rx "NoKind" (.str n))else none)=_;rw[if_pos (h n (by simp) hm)]
   have f:Sd W (n::a)=some n:=by unfold Sd;rw[N6];simp[hm]
   rw[f];show((TZ _ _ _ [.pl (ZT W),.pl (Z4 all),.ac (Z4 (nm W)),.pl (.str n)]).bind _)=_;rw[b];rfl
theorem hI{W:YD}(a:W.length<100000)(h:∀x∈ns,x∉nm W->Qt (.str x)=true):GY [ZT W,Z4 ns]=some (match Sd W ns with|none=>.ok .none false|some x=>.rx "NoKind" (.str x)):=by
 obtain⟨b,e⟩:=ll (W:=W) ns ns .no h
 have f:HU [.pl (ZT W),.pl (Z4 ns),.no,.no]=Um (gN 3) (TZ (Zk (Z2 (X3 true) (Z9 3) (Z9 2))) (OE "NoKind" (Z9 3)) (TU Zj)) (ns.map .str) [.pl (ZT W),.pl (Z4 ns),.ac (Z4 (nm W)),.no]:=by
  unfold HU W4 TU;rw[zbe (Yp (n:=1) (rs:=[⟨ZT W,false,[]⟩]) rfl rfl (jg a))];rfl
 unfold GY Tt;show(match HU [.pl (ZT W),.pl (Z4 ns),.no,.no]with|some (.ok (.rt d fr))=>some (WX.ok d fr)|some (.ok (.nx _))=>some (.ok .none false)|some (.rx c d)=>some (.rx c d)|_=>none)=_;rw[f,e];cases Sd W ns<;>rfl
theorem PN(h:f env=some (.ok (.nx a)))(k:g a=o):W4 f g env=o:=by unfold W4;rw[h];exact k
theorem HM(h:f env=some (.rx c d)):W4 f g env=some (.rx c d):=by unfold W4;rw[h];rfl
theorem oR(h:t env=some true)(k:f env=o):TZ t f g env=o:=by unfold TZ;rw[h];exact k
theorem HF(h:t env=some false)(k:g env=o):TZ t f g env=o:=by unfold TZ;rw[h];exact k
theorem sA{r:Yo}(h:f env=some r)(a:Qt r.d=true):OE c f env=some (.rx c r.d):=by unfold OE;rw[h,qB,if_pos a]
theorem pZ{rs:List Yo}(h:f env=some rs)(a:rs.length=n)(k:g (XX rs)=some (.ok d fr)):TK n g f env=some (.ok (.nx env)):=by unfold TK;rw[h,qB,if_pos a,k];rfl
theorem Eh{rs:List Yo}(h:f env=some rs)(a:rs.length=n)(k:g (XX rs)=some (.rx c d)):TK n g f env=some (.rx c d):=by unfold TK;rw[h,qB,if_pos a,k];rfl
theorem MI{rs:List Yo}(h:f env=some rs)(a:rs.length=n)(k:g (XX rs)=some (.rx c d)):Sq i n g f env=some (.rx c d):=by unfold Sq;rw[h,qB,if_pos a,k];rfl
theorem sr(h:Si n a=env)(e:f env=some (.ok (.nx b))):Tt n f a=some (.ok .none false):=by unfold Tt;rw[h,e]
theorem zwr(h:Si n a=env)(e:f env=some (.rx c d)):Tt n f a=some (.rx c d):=by unfold Tt;rw[h,e]
def Uh(W:YD)(p:Nat)(c:List YZ):Option (Str×PyData):=if c.length=p then(Sd W (c.flatMap YZ.parts)).map λx=>("NoKind",.str x)else some ("NoCall",.none)
structure Y1(W:YD)(c:List YZ):Prop where
 len:c.length<300
 few:∀a∈c,a.parts.length<300
 at_:∀a∈c,∀n∈a.parts,n∉nm W->Qt (.str n)=true
theorem uY(a b:Nat):X4 (.int (a:Int)) (.int (b:Int))=some (.bool (!decide (a=b)),false):=by
 by_cases e:a=b
 ·subst e;rw[Jp,decide_eq_true rfl];rfl
 ·have:(a:Int)≠(b:Int):=λz=>e (Int.ofNat.inj z);rw[decide_eq_false e];show some (PyData.bool (!((a:Int)==(b:Int))),false)=_;rw[beq_eq_false_iff_ne.mpr this]
theorem wO{W:YD}(h:ZV W){p:Nat}{c:List YZ}(f:Y1 W c):Dd [ZT W,.int p,ZQ c]=some (match Uh W p c with|none=>.ok .none false|some z=>.rx z.1 z.2):=by
 have l:W.length<=12:=h.len;have i:Zy Zp (Z7 (Z9 2) Z8) [.pl (ZT W),.pl (.int p),.pl (ZQ c)]=some (vi (c.map ZP).length):=rfl
 have t:Zk (Z2 X4 (Zy Zp (Z7 (Z9 2) Z8)) (Z9 1)) [.pl (ZT W),.pl (.int p),.pl (ZQ c)]=some (!decide (c.length=p)):=by
  refine zdv ?_;unfold Z2;rw[i];show((X4 (.int ((c.map ZP).length:Nat)) (.int (p:Nat))).bind λz=>some (⟨z.1,z.2,ZM z.1 ([]++[])⟩:Yo))=_;rw[qD,uY];rfl
 unfold Uh;by_cases hp:c.length=p
 ·rw[decide_eq_true hp]at t;rw[if_pos hp]
  have b:=hI (W:=W) (by omega) (ns:=c.flatMap YZ.parts) λx k j=>by
   obtain⟨a,d,e⟩:=MG.mp k;exact f.at_ a d x e j
  have g:Z7 (Z9 0) (Z7 (ZG 1 Kg (Z7 (Z9 2) Z8)) Z8) [.pl (ZT W),.pl (.int p),.pl (ZQ c)]=some [⟨ZT W,false,[]⟩,⟨Z4 (c.flatMap YZ.parts),true,[]⟩]:=UE rfl (XP (Yp (n:=1) (rs:=[⟨ZQ c,false,[]⟩]) rfl rfl (jM f.len f.few)))
  cases hf:Sd W (c.flatMap YZ.parts)with
  | none=>
   rw[hf]at b;exact sr (env:=[.pl (ZT W),.pl (.int p),.pl (ZQ c)]) rfl (PN (HF t rfl) (pZ (n:=2) g rfl b))
  | some x=>
   rw[hf]at b;exact zwr (env:=[.pl (ZT W),.pl (.int p),.pl (ZQ c)]) rfl (PN (HF t rfl) (Eh (n:=2) g rfl b))
 ·rw[decide_eq_false hp]at t;rw[if_neg hp];exact zwr (env:=[.pl (ZT W),.pl (.int p),.pl (ZQ c)]) rfl (HM (oR t (sA (r:=⟨.none,false,[]⟩) rfl rfl)))
def VJ(k:Nat)(d:PyData):Prop:=PyData.canLay0 d=true/\PyData.depth d<=k
theorem LL:∀{a:List PyData},(∀d∈a,VJ k d)->qw a=true/\qb a<=k
 | [],_=>⟨by unfold qw;rfl,by unfold qb;omega⟩
 | d::a,h=>by
  obtain⟨c,g⟩:=h d (by simp);obtain⟨b,f⟩:=LL λx e=>h x (qI _ e);unfold qw qb;exact⟨by rw[c,b];rfl,by omega⟩
theorem MJ(h:∀d∈b,VJ k d):VJ (k+1) (.tuple b):=by
 obtain⟨a,c⟩:=LL h;unfold VJ PyData.canLay0 PyData.depth;exact⟨a,by omega⟩
theorem xU(h:∀d∈b,VJ k d):VJ (k+1) (.list b):=by
 obtain⟨a,c⟩:=LL h;unfold VJ PyData.canLay0 PyData.depth;exact⟨a,by omega⟩
theorem Qy:VJ k (.bool b):=by unfold VJ PyData.canLay0 PyData.depth;exact⟨rfl,by omega⟩
theorem rZ:VJ k .none:=by unfold VJ PyData.canLay0 PyData.depth;exact⟨rfl,by omega⟩
theorem Kp(h:qz x=true):VJ k (.str x):=by unfold VJ PyData.canLay0 PyData.depth;exact⟨h,by omega⟩
theorem K7:∀d∈([]:List PyData),VJ k d:=λd h=>by cases h
theorem So(h:VJ k d)(t:∀x∈b,VJ k x):∀x∈d::b,VJ k x:=λx a=>(qN.mp a).elim (λe=>e▸h) (t x)
theorem xE(h:VJ k d)(a:k<=64):qm d=true:=by
 unfold qm;rw[h.1,decide_eq_true (WT h.2 a)];rfl
theorem EA{xs:List Str}(h:Yx xs):∀d∈xs.map PyData.str,VJ k d:=λd b=>by
 obtain⟨x,a,rfl⟩:=qo.mp b;exact Kp (h x a)
theorem yQ:qz "none"=true/\qz "rule"=true/\qz "quarrel"=true/\qz "told"=true:=by decide +kernel
theorem Ai(h:Yx xs):VJ 2 (YO xs):=by
 obtain⟨a,c,b,_⟩:=yQ
 match xs,h with
 | [],_=>exact MJ (So (Kp a) K7)
 | [x],h=>exact MJ (So (Kp c) (So (Kp (h x (by simp))) K7))
 | x::y::xs,h=>exact MJ (So (Kp b) (So (MJ (EA h)) K7))
theorem Ma(d:PyData):ZM d []=[]:=by unfold ZM;split<;>rfl
theorem sg{l:List (List ZU)}:(l.map Yu).filter (λx=>!x.isEmpty)=(l.filter λx=>!x.isEmpty).map Yu:=by
 rw[List.filter_map];congr 1;refine B3 λx _=>?_;cases x<;>rfl
section
variable{W:YD}(h:ZV W){p:Nat}{S:List ZU}(hr:ZD W S)(ok:Y8 W p S)(nd:(S.map (·.1)).Nodup)
include h hr ok nd
theorem yz:GU [.dict (dS Z4 (ZX W)),ZN S]=some (VZ ((XY W 300 S).map Yu),true):=by
 have F:=hr.len;have o:S.length<=300:=by omega
 have y:Z1 2 (ZG 2 JB (Z7 (Z9 0) (Z7 (Z9 1) Z8))) [.pl (.dict (dS Z4 (ZX W))),.pl (ZN S),.no,.no,.no,.no]=some (.nx [.pl (.dict (dS Z4 (ZX W))),.pl (ZN S),.ac (.dict (dN S (hF W 300 S))),.no,.no,.no]):=
  zbe (r:=⟨.dict (dN S (hF W 300 S)),true,[]⟩) (Yp (n:=2) (rs:=[⟨.dict (dS Z4 (ZX W)),false,[]⟩,⟨ZN S,false,[]⟩]) rfl rfl (oi h hr ok nd o))
 obtain⟨u,s,m,f,rfl⟩:=Uv (enc:=λi:Nat=>PyData.int (i:Int)) (g:=gN 4) (l:=List.range S.length) (env:=[.pl (.dict (dS Z4 (ZX W))),.pl (ZN S),.ac (.dict (dN S (hF W 300 S))),.ac (VZ []),.no,.no])
  (body:=(Z0 (Z1 5 (YB ["_law_name","_law_kinds"] [2,4] (Zl (Z9 1)) (gT 2 (Zw 0 (Zw 1 YE))) (Zk (Z2 XT (X8 2 (Z9 0)) (Z9 3))) (Z9 0)))
  (YA (Zk (Z2 Vj (Zy Zp (Z7 (Z9 5) Z8)) (eC (.int 0)))) (Zc 3 (Z9 5)) Zj)))
  (λb a=>∃m f,a=[.pl (.dict (dS Z4 (ZX W))),.pl (ZN S),.ac (.dict (dN S (hF W 300 S))),.ac (VZ (((b.map λk=>S.filter λr=>decide (hF W 300 S r=k)).map Yu).filter λx=>!x.isEmpty)),m,f]) ⟨_,_,rfl⟩ (by
   rintro b i v a z ⟨m,f,rfl⟩;generalize hA:((b.map λk=>S.filter λr=>decide (hF W 300 S r=k)).map Yu).filter (λx=>!x.isEmpty)=A
   have w:A.length<300:=by
    rw[<- hA];refine LM (PL _ _) ?_;rw[qD,qD];have:=congrArg List.length z;simp at this;omega
   have E:X5 (gT 2 (Zw 0 (Zw 1 YE))) (Zk (Z2 XT (X8 2 (Z9 0)) (Z9 3))) (Z9 0) [.no,.no,.pl (.dict (dN S (hF W 300 S))),.pl (.int (i:Int))] (S.map Zm)=some ((S.filter λr=>decide (hF W 300 S r=i)).map λq=>.str q.1):=
    zcj (enc:=Zm) (out:=λq=>.str q.1) (λr=>decide (hF W 300 S r=i)) λq B=>⟨[.pl (.str q.1),.pl (ZI q.2),.pl (.dict (dN S (hF W 300 S))),.pl (.int (i:Int))],rfl,by
     rw[zdv (Q0 (i:=(hF W 300 S q:Int)) (j:=(i:Int)) (KA (.inl rfl) rfl (O6 nd B)) rfl)];congr 1;rw[TH];simp only[beq_iff_eq,decide_eq_true_eq];omega,λ_=>⟨vs q.1,rfl,rfl⟩⟩
   have e:(S.filter λr=>decide (hF W 300 S r=i)).map (λq=>PyData.str q.1)=(Yu (S.filter λr=>decide (hF W 300 S r=i))).map .str:=by rw[TX];rfl
   have c:(Yu (S.filter λr=>decide (hF W 300 S r=i))).length<300:=by rw[qD];exact(hr.filter _).len
   generalize hR:Yu (S.filter λr=>decide (hF W 300 S r=i))=R at e c
   have b5:Z1 5 (YB ["_law_name","_law_kinds"] [2,4] (Zl (Z9 1)) (gT 2 (Zw 0 (Zw 1 YE))) (Zk (Z2 XT (X8 2 (Z9 0)) (Z9 3))) (Z9 0)) [.pl (.dict (dS Z4 (ZX W))),.pl (ZN S),.ac (.dict (dN S (hF W 300 S))),.ac (VZ A),.pl (.int (i:Int)),f]=some (.nx [.pl (.dict (dS Z4 (ZX W))),.pl (ZN S),.ac (.dict (dN S (hF W 300 S))),.ac (VZ A),.pl (.int (i:Int)),.ac (Z4 R)]):=by
    refine zbe (r:=⟨Z4 R,true,[]⟩) ?_;rw[VU (own:=["_law_name","_law_kinds"]) (fr:=[2,4]) (fi:=Zl (Z9 1)) (ds:=S.map Zm) (bs:=[]) rfl (by rw[qD];omega) E,e]
    have D:WS (R.map .str)=true:=Ug.mpr λx C=>by
     obtain⟨q,_,rfl⟩:=qo.mp C;rfl
    rw[D,if_pos rfl];rfl
   have t:Zk (Z2 Vj (Zy Zp (Z7 (Z9 5) Z8)) (eC (.int 0))) [.pl (.dict (dS Z4 (ZX W))),.pl (ZN S),.ac (.dict (dN S (hF W 300 S))),.ac (VZ A),.pl (.int (i:Int)),.ac (Z4 R)]=some (!R.isEmpty):=by
    have l:Zy Zp (Z7 (Z9 5) Z8) [.pl (.dict (dS Z4 (ZX W))),.pl (ZN S),.ac (.dict (dN S (hF W 300 S))),.ac (VZ A),.pl (.int (i:Int)),.ac (Z4 R)]=some (vi ((R.map PyData.str).length:Int)):=Q2 rfl;refine zdv ?_;unfold Z2;rw[l];show some (vb (decide ((0:Int)<((R.map PyData.str).length:Int))))=_;rw[qD]
    cases R with
    | nil=>rfl
    | cons x R=>rw[decide_eq_true (by rw[qu];omega)];rfl
   rw[qx,qx,wF,hA];refine⟨_,[.pl (.dict (dS Z4 (ZX W))),.pl (ZN S),.ac (.dict (dN S (hF W 300 S))),.ac (VZ (A++([R].filter λx=>!x.isEmpty))),.pl (.int (i:Int)),if R.isEmpty then .ac (Z4 R)else .pl (Z4 R)],rfl,.inl (Zh b5 ?_),.pl (.int (i:Int)),if R.isEmpty then .ac (Z4 R)else .pl (Z4 R),by rw[<- hR];rfl⟩
   cases R with
   | nil=>exact if_f t (by rw[Pu,List.filter_nil];simp[Zj])
   | cons x R=>
    refine WO t ?_;rw[Ls (i:=3) (ds:=A.map Z4) (d:=Z4 (x::R)) (fr:=false) (bs:=[5]) rfl rfl (by rw[qD];omega) (by decide)];congr 2;simp[VZ,frzs,frz1])
 have r:(((List.range S.length).map λk=>S.filter λr=>decide (hF W 300 S r=k)).map Yu).filter (λx=>!x.isEmpty)=(XY W 300 S).map Yu:=by rw[sg,wt h ok o]
 rw[r]at s;have len:Zy Zp (Z7 (Z9 1) Z8) [.pl (.dict (dS Z4 (ZX W))),.pl (ZN S),.ac (.dict (dN S (hF W 300 S))),.ac (VZ []),.no,.no]=some (vi ((S.map Zm).length:Int)):=Q2 rfl;refine zgd (env:=[.pl (.dict (dS Z4 (ZX W))),.pl (ZN S),.no,.no,.no,.no]) rfl (Zh y (Zh rfl (Zh (U5 (ds:=(List.range S.length).map λi:Nat=>PyData.int (i:Int)) (bs:=[]) (Hf ?_ (by omega)) s) rfl)));rw[qD]at len;exact Wh len rfl
end
abbrev Va(xs:List Str):List SV:=(xs.map PyData.str).map SV.dt
abbrev Sy(r:List Str):SN:=.ls (Va r)
def U1(X:List SV)(a:PyData)(b:List (List Str)):List SN:=.tp [.lo 1,.dt a]::.ls X::.ls ((List.range b.length).map λi=>.lo (3+i))::b.map Sy
theorem FV:∀(a:List (List Str))(n:Nat),VF (a.map SM) n=((List.range a.length).map λi=>.lo (n+i),a.map Sy)
 | [],n=>by unfold VF;rfl
 | r::a,n=>by
  rw[qL];unfold VF;have e:al (SM r) n=(.lo n,[Sy r]):=MD _ _;rw[e];simp only[yR];rw[FV a (n+1),qu,Ih,qL,TX];refine Prod.ext ?_ rfl;show SV.lo n::_=SV.lo (n+0)::_;congr 1;refine Pf λi _=>?_;show SV.lo (n+1+i)=SV.lo (n+(i+1));congr 1;omega
theorem xM:al (.tp [.ls (RU xs),.lf a]) 0=(.lo 0,[.tp [.lo 1,.dt a],.ls (Va xs)]):=by
 unfold al VF;rw[show al (.ls (RU xs)) (0+1)=(.lo 1,[.ls (Va xs)])from MD _ _];unfold VF al;unfold VF;rfl
theorem sH{a:List (List Str)}:al (.ls (a.map SM)) n=(.lo n,.ls ((List.range a.length).map λi=>.lo (n+1+i))::a.map Sy):=by
 unfold al;rw[FV]
theorem EV(e:b[n]?=some (Sy r)):Sh b (k+1) (.lo n)=some (Z4 r):=by
 unfold Sh;rw[e];dsimp only
 rw[Ec (g:=λx=>match x with|.dt d=>d|.lo _=>.none) (λx a=>by
  obtain⟨d,_,rfl⟩:=qo.mp a;cases k<;>rfl)]
 rw[TX];show some (PyData.list _)=some (PyData.list _);congr 2
 conv=>rhs;rw[<- List.map_id (r.map PyData.str)]
 rfl
theorem nM:Sh (U1 X a b) 9 (.lo 2)=some (VZ b):=by
 have e:(U1 X a b)[2]?=some (.ls ((List.range b.length).map λi=>.lo (3+i))):=rfl;unfold Sh;rw[e];dsimp only
 rw[Ec (g:=λx=>match x with|.lo i=>Z4 (b.getD (i - 3) [])|_=>.none) (λx f=>by
  obtain⟨i,c,rfl⟩:=qo.mp f;have c:=TY.mp c;show _=some (Z4 (b.getD (3+i - 3) []));rw[show 3+i - 3=i by omega,Se,qH c];refine EV ?_;rw[show 3+i=i+3 by omega];show(b.map Sy)[i]?=_;rw[qW,qH c];rfl)]
 have d:∀l:List (List Str),(List.range l.length).map (λi=>Z4 (l.getD i []))=l.map Z4:=λl=>by
  apply List.ext_getElem
  ·simp
  ·intro i d h;simp at d;simp[d]
 rw[TX];show some (PyData.list _)=some (PyData.list _);congr 2;refine(Pf λi _=>?_).trans (d b);show Z4 (b.getD (3+i - 3) [])=_;rw[show 3+i - 3=i by omega]
theorem pO:Sh (U1 (Va xs) a b) 9 (.lo 0)=some (.tuple [Z4 xs,a]):=by
 have e:(U1 (Va xs) a b)[0]?=some (.tp [.lo 1,.dt a]):=rfl;have c:Sh (U1 (Va xs) a b) 8 (.lo 1)=some (Z4 xs):=EV rfl;unfold Sh;rw[e];dsimp only;unfold VT;rw[c];rfl
abbrev VQ(B U C:PyData)(R:List ZU)(rows:List (List Str))(c:PyData)(s6:Sl)(b a:Sl):ZY:=[.pl B,.pl U,.pl C,.pl (ZN R),.ac (VZ rows),.pl c,s6,b,a]
abbrev Ob:List (Option SV):=[none,none,none,none,none,none,none,some (.lo 0),some (.lo 2)]
abbrev LC:Vy:=(Yg (QG 7 2 Ov (Z7 (Z9 0) (Z7 (Z9 2) Z8)))
  (Yg (QG 8 2 N4 (Z7 (Z9 0) (Z7 (Z9 2) Z8)))
  (Yg (R1 (yT (WQ (Xk (Zt (Wz "tuple" (Z9 7)))) (WQ (Zk (Z2 X4 (Z9 7) (Z9 5))) (Xk (Zt (Wz "list" (ZZ 7 (eC (.int 0))))))))) (SD (yE (eC (.bool false)))) Uk)
  (Yg (R1 (yT (WQ (Xk (Zt (Wz "list" (Z9 8)))) (Zk (Z2 X4 (Z9 8) (Z9 4))))) (SD (yE (eC (.bool false)))) Uk)
  (Yg (Wr (Qa (Xq 7) (yE (eC (.int 0)))) (L9 (yE (eC (.str "a")))))
  (Yg (R1 (yT (Zk (Z2 Vj (Zy Zp (Z7 (Z9 8) Z8)) (eC (.int 0))))) (Wr (Qa (Xq 8) (yE (eC (.int 0)))) (L9 (yE (eC (.str "a"))))) Uk)
  (Yg (S0 (Xq 8))
  (Wr (Xq 8) (Ds (Y3 Z8))))))))))
theorem Rw(h:c d st=some false)(k:b d st=o):R1 c a b d st=o:=by unfold R1;rw[h];exact k
theorem BO(h:c d st=some true)(k:a d st=o):R1 c a b d st=o:=by unfold R1;rw[h];exact k
theorem FT:∀(a:List Str),XZ (a.map .str)=true
 | []=>by unfold XZ;rfl
 | x::a=>by rw[qL];unfold XZ;rw[FT a];rfl
theorem oH:∀(xs:List Str),WU (YO xs)=true
 | []=>by decide +kernel
 | [x]=>by unfold YO;unfold WU;unfold XZ;unfold XZ;unfold XZ;rfl
 | x::y::xs=>by
  unfold YO ZI;unfold WU;unfold XZ;unfold XZ;unfold XZ;rw[show WU (.tuple ((x::y::xs).map .str))=true by unfold WU;exact FT _];rfl
theorem M9:∀(xs:List Str),YJ (RU xs)=true
 | []=>by unfold YJ;rfl
 | x::xs=>by show YJ (.lf (.str x)::RU xs)=true;unfold YJ;rw[M9 xs];unfold RL;rfl
theorem FQ:∀(a:List (List Str)),YJ (a.map SM)=true
 | []=>by unfold YJ;rfl
 | r::a=>by rw[qL];unfold YJ;rw[FQ a];unfold RL;rw[M9 r];rfl
theorem zabe{b:WH}{xs:List SV}(e:g a b=some (.lo n))(c:b.hp[n]?=some (.ls xs))(d:xs.length<100000)(f:k a b=some y):Wr g k a b=some (.nx a ⟨b.sl,b.hp.set n (.ls (xs++[y]))⟩):=by
 unfold Wr;rw[e,qB];unfold Ua;dsimp only;rw[c];dsimp only;rw[qB,if_pos d,f];rfl
theorem JJ{b:WH}{xs:List SV}(c:g a b=some (.lo n))(d:b.hp[n]?=some (.ls xs)):S0 g a b=some (.nx a ⟨b.sl,b.hp.set n (.ls xs.reverse)⟩):=by
 unfold S0;rw[c,qB];unfold Ua;dsimp only;rw[d];rfl
theorem rF(h:a[0]?=some x):atI a 0=some x:=by
 have b:=(qK.mp h).1;unfold atI UM;rw[if_pos (by decide),if_pos (by omega)];exact h
theorem xh{X:List SV}{a:PyData}{r:List Str}{rest:List (List Str)}{b:ZY}:Qa (Xq 8) (yE (eC (.int 0))) b ⟨Ob,U1 X a (r::rest)⟩=some (.lo 3):=by
 unfold Qa;show Option.bind (some (SV.lo 2)) _=_;rw[qB];show Option.bind (some ((List.range (r::rest).length).map λi=>SV.lo (3+i))) _=_;rw[qB];show atI ((List.range (r::rest).length).map λi=>SV.lo (3+i)) 0=_;exact rF (by rw[qu,Ih,qL];rfl)
theorem Bm{B U C:PyData}{R:List ZU}{rows:List (List Str)}{xs ys:List Str}{s6:Sl}(v:Yx xs)(w:Yx ys)(g:∀r∈rows,Yx r)(E:xs.length<1000)(F:rows.length<1000)(u:∀r∈rows,r.length<1000)
  (z:Ov [B,C]=some (.tp [.ls (RU xs),.lf (YO ys)]))(A:N4 [B,C]=some (.ls (rows.map SM))) :
  Ss LC (VQ B U C R rows (.tuple [Z4 xs,YO ys]) s6 .no .no)=some (.nx (VQ B U C R rows (.tuple [Z4 xs,YO ys]) s6 .no .no)):=by
 have p:QG 7 2 Ov (Z7 (Z9 0) (Z7 (Z9 2) Z8)) (VQ B U C R rows (.tuple [Z4 xs,YO ys]) s6 .no .no) ⟨[],[]⟩=some (.nx (VQ B U C R rows (.tuple [Z4 xs,YO ys]) s6 .no .no) ⟨[none,none,none,none,none,none,none,some (.lo 0),none],[.tp [.lo 1,.dt (YO ys)],.ls (Va xs)]⟩):=by
  unfold QG;show Option.bind (some [(⟨B,false,[]⟩:Yo),⟨C,false,[]⟩]) _=_;rw[qB,if_pos ⟨rfl,by show 7<9;decide⟩];show Option.bind (Ov [B,C]) _=_;rw[z,qB,if_pos (by unfold RL;unfold YJ;unfold YJ;unfold YJ;unfold RL;rw[M9,oH];rfl)];show some (LH.nx _ (LJ ⟨[],[]++(al (NT.tp [NT.ls (RU xs),NT.lf (YO ys)]) 0).2⟩ 9 7 (al (NT.tp [NT.ls (RU xs),NT.lf (YO ys)]) 0).1))=_;rw[xM];rfl
 have j:QG 8 2 N4 (Z7 (Z9 0) (Z7 (Z9 2) Z8)) (VQ B U C R rows (.tuple [Z4 xs,YO ys]) s6 .no .no) ⟨[none,none,none,none,none,none,none,some (.lo 0),none],[.tp [.lo 1,.dt (YO ys)],.ls (Va xs)]⟩=some (.nx (VQ B U C R rows (.tuple [Z4 xs,YO ys]) s6 .no .no) ⟨Ob,U1 (Va xs) (YO ys) rows⟩):=by
  unfold QG;show Option.bind (some [(⟨B,false,[]⟩:Yo),⟨C,false,[]⟩]) _=_;rw[qB,if_pos ⟨rfl,by show 8<9;decide⟩];show Option.bind (N4 [B,C]) _=_;rw[A,qB,if_pos (by unfold RL;exact FQ rows),sH];rfl
 have h:∀X,Tg (U1 X (YO ys) rows) (VQ B U C R rows (.tuple [Z4 xs,YO ys]) s6 .no .no) Ob=VQ B U C R rows (.tuple [Z4 xs,YO ys]) s6 (P0 (U1 X (YO ys) rows) .no (some (.lo 0))) (.pl (VZ rows)):=λX=>by
  show VQ B U C R rows (.tuple [Z4 xs,YO ys]) s6 _ (P0 (U1 X (YO ys) rows) .no (some (.lo 2)))=_;unfold P0;dsimp only;rw[nM]
 have f:P0 (U1 (Va xs) (YO ys) rows) .no (some (.lo 0))=.pl (.tuple [Z4 xs,YO ys]):=by
  unfold P0;dsimp only;rw[pO]
 have a:qm (.tuple [Z4 xs,YO ys])=true:=xE (k:=3) (MJ (So (k:=2) (xU (k:=1) (EA v)) (So (Ai w) K7))) (by decide);have b:qm (VZ rows)=true:=wC g
 have s:yT (WQ (Xk (Zt (Wz "tuple" (Z9 7)))) (WQ (Zk (Z2 X4 (Z9 7) (Z9 5))) (Xk (Zt (Wz "list" (ZZ 7 (eC (.int 0)))))))) (VQ B U C R rows (.tuple [Z4 xs,YO ys]) s6 .no .no) ⟨Ob,U1 (Va xs) (YO ys) rows⟩=some false:=by
  unfold yT;dsimp only;rw[h,f];unfold WQ;show Option.bind (some false) _=_;rw[qB,if_neg (by decide)];rw[Iz (d:=.tuple [Z4 xs,YO ys]) (f1:=false) (f2:=false) (b1:=[]) (b2:=[]) rfl rfl a];rfl
 have m:yT (WQ (Xk (Zt (Wz "list" (Z9 8)))) (Zk (Z2 X4 (Z9 8) (Z9 4)))) (VQ B U C R rows (.tuple [Z4 xs,YO ys]) s6 .no .no) ⟨Ob,U1 (Va xs) (YO ys) rows⟩=some false:=by
  unfold yT;dsimp only;rw[h];unfold WQ;show Option.bind (some false) _=_;rw[qB,if_neg (by decide)];exact Iz (d:=VZ rows) (f1:=false) (f2:=false) (b1:=[]) (b2:=[4]) rfl rfl b
 have q:Wr (Qa (Xq 7) (yE (eC (.int 0)))) (L9 (yE (eC (.str "a")))) (VQ B U C R rows (.tuple [Z4 xs,YO ys]) s6 .no .no) ⟨Ob,U1 (Va xs) (YO ys) rows⟩=some (.nx (VQ B U C R rows (.tuple [Z4 xs,YO ys]) s6 .no .no) ⟨Ob,U1 (Va xs++[.dt (.str "a")]) (YO ys) rows⟩):=
  zabe (n:=1) (xs:=Va xs) (y:=.dt (.str "a")) rfl rfl (by rw[qD,qD];omega) rfl
 have o:yT (Zk (Z2 Vj (Zy Zp (Z7 (Z9 8) Z8)) (eC (.int 0)))) (VQ B U C R rows (.tuple [Z4 xs,YO ys]) s6 .no .no) ⟨Ob,U1 (Va xs++[.dt (.str "a")]) (YO ys) rows⟩=some (!rows.isEmpty):=by
  unfold yT;dsimp only;rw[h];have l:Zy Zp (Z7 (Z9 8) Z8) (VQ B U C R rows (.tuple [Z4 xs,YO ys]) s6 (P0 (U1 (Va xs++[.dt (.str "a")]) (YO ys) rows) .no (some (.lo 0))) (.pl (VZ rows)))=some (vi ((rows.map Z4).length:Int)):=Q2 (fr:=false) (bs:=[]) rfl;refine zdv ?_;unfold Z2;rw[l];show some (vb (decide ((0:Int)<((rows.map Z4).length:Int))))=_;rw[qD]
  cases rows with
  | nil=>rfl
  | cons x R=>rw[decide_eq_true (by rw[qu];omega)];rfl
 have c:∃t,LC (VQ B U C R rows (.tuple [Z4 xs,YO ys]) s6 .no .no) ⟨[],[]⟩=some (.nx (VQ B U C R rows (.tuple [Z4 xs,YO ys]) s6 .no .no) t):=by
  cases rows with
  | nil=>
   refine⟨_,UQ p (UQ j (UQ (Rw s rfl) (UQ (Rw m rfl) (UQ q (UQ (Rw o rfl) (UQ (JJ (n:=2) (xs:=[]) rfl rfl) (zabe (n:=2) (xs:=[]) (y:=.dt (.list [])) rfl rfl (by decide) rfl)))))))⟩
  | cons r rest=>
   have D:=u r (.head _);refine⟨_,UQ p (UQ j (UQ (Rw s rfl) (UQ (Rw m rfl) (UQ q (UQ (BO o (zabe (n:=3) (xs:=Va r) (y:=.dt (.str "a")) xh rfl (by rw[qD,qD];omega) rfl)) (UQ (JJ (n:=2) (xs:=(List.range (r::rest).length).map λi=>.lo (3+i)) rfl rfl) (zabe (n:=2) (xs:=((List.range (r::rest).length).map λi=>SV.lo (3+i)).reverse) (y:=.dt (.list [])) rfl rfl (by rw[lc,qD,HD];omega) rfl)))))))⟩
 obtain⟨t,e⟩:=c;unfold Ss;rw[e];rfl
theorem Jf:∀(n:Nat)(S:List ZU),(∀r∈(X9 W n S).1,r∈S)/\∀r∈(X9 W n S).2,r∈S
 | 0,S=>⟨λr h=>(by cases h),λr h=>h⟩
 | n+1,S=>by
  unfold X9;split
  ·rename_i x b;have a:=Jf (W:=W) n (S.filter λy=>YV W x.2 y.2);refine⟨λr h=>?_,λr h=>(qj.mp (a.2 r h)).1⟩;rcases qN.mp h with rfl|h
   ·exact Cf b
   ·exact(qj.mp (a.1 r h)).1
  ·exact⟨λr h=>(by cases h),λr h=>h⟩
theorem M8:∀(n:Nat)(S:List ZU),∀l∈XY W n S,l.length<=S.length/\∀r∈l,r∈S
 | 0,S,l,h=>by cases h
 | n+1,S,l,h=>by
  unfold XY at h;split at h
  ·cases h
  ·rcases qN.mp h with rfl|h
   ·exact⟨PL _ _,λr a=>(Qu.mp a).1⟩
   ·obtain⟨b,c⟩:=M8 n _ l h;exact⟨WT b (PL _ _),λr a=>(qj.mp (c r a)).1⟩
theorem D6:∀(n:Nat)(S:List ZU),(X9 W n S).1.length<=n
 | 0,S=>qM _
 | n+1,S=>by
  unfold X9;split
  ·rename_i x _;exact Nat.succ_le_succ (D6 (W:=W) n (S.filter λy=>YV W x.2 y.2))
  ·exact V5 _
theorem AO(h:ZV W){p:Nat}{rs:List ZU}{c:List YZ}(o:ZD W rs)(s:Ye W c)(v:(rs.map (·.1)).Nodup)(ok:Y8 W c.length rs)(z:∀r∈rs,qz r.1=true) :
  Rz [Zs W c.length rs,.dict (dS Z4 (ZX W)),ZQ c]=some (.bool true,false):=by
 have w:=o.len;have f:ZD W (ZO W rs c):=o.filter _;have a:Y8 W c.length (ZO W rs c):=ok.filter _;have t:((ZO W rs c).map (·.1)).Nodup:=Fj v _;have H:=f.len;have fs:∀r∈ZO W rs c,qz r.1=true:=λr b=>z r (qj.mp b).1
 have F:X5 (gN 0) (Zt (ZG 3 VA (Z7 (Z9 1) (Z7 (ZZ 0 (eC (.int 1))) (Z7 (Z9 2) Z8))))) (Z9 0) [.no,.pl (.dict (dS Z4 (ZX W))),.pl (ZQ c)] (rs.map Zm)=some ((ZO W rs c).map Zm):=
  zcj (enc:=Zm) (out:=Zm) (λr=>W5 W r.2 c) λr L=>⟨[.pl (Zm r),.pl (.dict (dS Z4 (ZX W))),.pl (ZQ c)],rfl,En (n:=3) (rs:=[⟨.dict (dS Z4 (ZX W)),false,[]⟩,⟨ZI r.2,false,[]⟩,⟨ZQ c,false,[]⟩]) rfl rfl (lA h s (by rw[ok.size r L];exact qM _)),λ_=>⟨⟨Zm r,false,[]⟩,rfl,rfl⟩⟩
 have J:Z1 3 (YB ["_law_rule"] [1,2] (Zl (ZZ 0 (eC (.int 2)))) (gN 0) (Zt (ZG 3 VA (Z7 (Z9 1) (Z7 (ZZ 0 (eC (.int 1))) (Z7 (Z9 2) Z8))))) (Z9 0)) [.pl (Zs W c.length rs),.pl (.dict (dS Z4 (ZX W))),.pl (ZQ c),.no,.no,.no,.no,.no,.no]=some (.nx [.pl (Zs W c.length rs),.pl (.dict (dS Z4 (ZX W))),.pl (ZQ c),.ac (ZN (ZO W rs c)),.no,.no,.no,.no,.no]):=by
  refine zbe (r:=⟨ZN (ZO W rs c),true,[]⟩) ?_;rw[VU (own:=["_law_rule"]) (fr:=[1,2]) (fi:=Zl (ZZ 0 (eC (.int 2)))) (ds:=rs.map Zm) (bs:=[]) rfl (by rw[qD];omega) F];have:(if WS ((ZO W rs c).map Zm)=true then([]:List Nat)else[]++Yb [1,2] [.pl (Zs W c.length rs),.pl (.dict (dS Z4 (ZX W))),.pl (ZQ c),.no,.no,.no,.no,.no,.no])=[]:=by split<;>rfl
  rw[this];rfl
 have D:Z1 4 (ZG 2 GU (Z7 (Z9 1) (Z7 (Z9 3) Z8))) [.pl (Zs W c.length rs),.pl (.dict (dS Z4 (ZX W))),.pl (ZQ c),.ac (ZN (ZO W rs c)),.no,.no,.no,.no,.no]=some (.nx [.pl (Zs W c.length rs),.pl (.dict (dS Z4 (ZX W))),.pl (ZQ c),.pl (ZN (ZO W rs c)),.ac (VZ ((XY W 300 (ZO W rs c)).map Yu)),.no,.no,.no,.no]):=
  zbe (r:=⟨VZ ((XY W 300 (ZO W rs c)).map Yu),true,[3]⟩) (Yp (n:=2) (rs:=[⟨.dict (dS Z4 (ZX W)),false,[]⟩,⟨ZN (ZO W rs c),false,[3]⟩]) rfl rfl (yz h f a t))
 have E:Z1 5 (ZG 2 FY (Z7 (Z9 1) (Z7 (Z9 3) Z8))) [.pl (Zs W c.length rs),.pl (.dict (dS Z4 (ZX W))),.pl (ZQ c),.pl (ZN (ZO W rs c)),.ac (VZ ((XY W 300 (ZO W rs c)).map Yu)),.no,.no,.no,.no]=some (.nx (VQ (Zs W c.length rs) (.dict (dS Z4 (ZX W))) (ZQ c) (ZO W rs c) ((XY W 300 (ZO W rs c)).map Yu) (.tuple [Z4 (Yu (X9 W 300 (ZO W rs c)).1),YO (Yu (Zo W (X9 W 300 (ZO W rs c)).2))]) .no .no .no)):=
  zbe (r:=⟨.tuple [Z4 (Yu (X9 W 300 (ZO W rs c)).1),YO (Yu (Zo W (X9 W 300 (ZO W rs c)).2))],false,[]⟩) (Yp (n:=2) (rs:=[⟨.dict (dS Z4 (ZX W)),false,[]⟩,⟨ZN (ZO W rs c),false,[]⟩]) rfl rfl (zS h f a))
 have j:∀(l:List ZU),(∀r∈l,r∈ZO W rs c)->Yx (Yu l):=λl w x m=>by
  obtain⟨r,b,rfl⟩:=qo.mp m;exact fs r (w r b)
 have y:=Jf (W:=W) 300 (ZO W rs c)
 have G:=λk=>Bm (B:=Zs W c.length rs) (U:=.dict (dS Z4 (ZX W))) (C:=ZQ c) (R:=ZO W rs c) (rows:=(XY W 300 (ZO W rs c)).map Yu) (xs:=Yu (X9 W 300 (ZO W rs c)).1) (ys:=Yu (Zo W (X9 W 300 (ZO W rs c)).2)) (s6:=k)
  (j _ y.1) (j _ λr b=>y.2 r (Qu.mp b).1) (λx m=>by
   obtain⟨l,e,rfl⟩:=qo.mp m;exact j l (M8 300 _ l e).2) (by rw[qD];have:=D6 (W:=W) 300 (ZO W rs c);omega) (by rw[qD];have:=OR h 300 (ZO W rs c) a;omega) (λx m=>by
   obtain⟨l,e,rfl⟩:=qo.mp m;rw[qD];have:=(M8 300 _ l e).1;omega) (rn h o s v a) (vq h o s z a)
 obtain⟨u,I,k,rfl⟩:=Uv (enc:=λi:Nat=>PyData.int (i:Int)) (g:=gN 6) (l:=List.range 2) (env:=VQ (Zs W c.length rs) (.dict (dS Z4 (ZX W))) (ZQ c) (ZO W rs c) ((XY W 300 (ZO W rs c)).map Yu) (.tuple [Z4 (Yu (X9 W 300 (ZO W rs c)).1),YO (Yu (Zo W (X9 W 300 (ZO W rs c)).2))]) .no .no .no) (body:=Ss LC)
  (λq d=>∃k,d=VQ (Zs W c.length rs) (.dict (dS Z4 (ZX W))) (ZQ c) (ZO W rs c) ((XY W 300 (ZO W rs c)).map Yu) (.tuple [Z4 (Yu (X9 W 300 (ZO W rs c)).1),YO (Yu (Zo W (X9 W 300 (ZO W rs c)).2))]) k .no .no) ⟨_,rfl⟩ (by
   rintro q i A d M ⟨k,rfl⟩;exact⟨_,_,rfl,.inl (G (.pl (.int (i:Int)))),_,rfl⟩)
 exact zgd (env:=[.pl (Zs W c.length rs),.pl (.dict (dS Z4 (ZX W))),.pl (ZQ c),.no,.no,.no,.no,.no,.no]) rfl (Zh J (Zh D (Zh E (Zh (U5 (ds:=(List.range 2).map λi:Nat=>PyData.int (i:Int)) (bs:=[]) rfl I) rfl))))
theorem oM{rs:List Yo}(h:f env=some rs)(a:rs.length=n)(e:g (XX rs)=some (.rx c d)):Qw n k g f env=some (.rx c d):=by
 unfold Qw;rw[h,qB,if_pos a,e];rfl
section
variable{W:YD}{p:Nat}{rs:List ZU}{c:List YZ}{z:Str×PyData}
theorem Gg(h:ZV W)(a:Y1 W c)(b:Uh W p c=some z):EX [Zs W p rs,ZQ c]=some (.rx z.1 z.2):=by
 have g:=wO h (p:=p) a;rw[b]at g;exact zwr (env:=[.pl (Zs W p rs),.pl (ZQ c),.no,.no,.no,.no]) rfl (PN rfl (HM (Eh (n:=3) (rs:=[⟨ZT W,false,[]⟩,vi p,⟨ZQ c,false,[]⟩]) rfl rfl g)))
theorem zJ(h:ZV W)(a:Y1 W c)(b:Uh W p c=some z):C8 [Zs W p rs,ZQ c]=some (.rx z.1 z.2):=
 zwr (env:=[.pl (Zs W p rs),.pl (ZQ c),.no]) rfl (HM (MI (rs:=[⟨Zs W p rs,false,[]⟩,⟨ZQ c,false,[]⟩]) rfl rfl (Gg h a b)))
theorem vy(h:ZV W)(a:Y1 W c)(b:Uh W p c=some z):CI [Zs W p rs,ZQ c]=some (.rx z.1 z.2):=
 zwr (env:=[.pl (Zs W p rs),.pl (ZQ c)]) rfl (oM (rs:=[⟨Zs W p rs,false,[]⟩,⟨ZQ c,false,[]⟩]) rfl rfl (zJ h a b))
end
theorem x9{x:Str}(h:Xv x)(m:x.length<=20):(reprText x).length<=1000:=by
 have i:reprQuote x∈[34,39]:=by unfold reprQuote;split<;>simp
 have d:∀(l:List Nat)(a:Array Nat),(∀c∈l,c<128)->(l.foldl (λout c=>out++(Builtin.Str.reprChar (reprQuote x) c).toArray) a).size<=a.size+4 * l.length:=by
  intro l
  induction l with
  | nil=>intro a _;simp
  | cons c l g=>
   intro a b;rw[Lg];have f:=g (a++(Builtin.Str.reprChar (reprQuote x) c).toArray) λk e=>b k (qI _ e);have j:=AG c (b c (by simp)) _ i;rw[Array.size_append]at f;simp only[qO,qu]at f ⊢;omega
 show((x.cps.foldl (λout c=>out++(Builtin.Str.reprChar (reprQuote x) c).toArray) #[reprQuote x]).push (reprQuote x)).size<=1000;rw[Array.size_push,<- Array.foldl_toList];have f:=d x.cps.toList #[reprQuote x] λc b=>h c (by first|exact b|exact jw.mp b|exact Array.mem_toList.mp b);have j:x.cps.toList.length=x.length:=rfl;have n:(#[reprQuote x]:Array Nat).size=1:=rfl;omega
theorem wb{x:Str}(h:Xv x/\x.length<=20):Qt (.str x)=true:=decide_eq_true (x9 h.1 h.2)
structure Lw(xs:List Str)(c:List YZ):Prop where
 kinds:∀a∈c,∀n∈a.parts,n∈xs
 few:∀a∈c,a.parts.length<=12
 some:∀a∈c,a.parts≠[]
theorem MC(e:a env=some ⟨x,f1,b1⟩)(d:b env=some ⟨y,f2,b2⟩)(h:f x y=some (.bool c,false)):Z2 f a b env=some (vb c):=by
 unfold Z2;rw[e,d];simp only[qB];rw[h];rfl
theorem Fm{g:WX->Option PyData}{cs rs:List Yo}(h1:O2 b env=some cs)(h2:a ((XX cs).map .pl)=some rs)(e:rs.length=n)(h3:c (XX rs)=some r)(h4:g r=some d):QQ b n c a g env=some ⟨d,false,ZM d (Yj cs)⟩:=by
 unfold QQ;rw[h1,qB,h2,qB,if_pos e,h3,qB,h4];rfl
theorem zT{z:Str×PyData}(a:Uh W p c=some z):z.1∈(["NoCall","NoKind"]:List Str):=by
 unfold Uh at a;split at a
 ·obtain⟨x,_,rfl⟩:=qG.mp a;simp
 ·cases a;simp
theorem Iv(s:qm d=true):XT d d=some (.bool true,false):=by
 unfold XT TL;rw[s,wm,Sg,if_pos rfl,lr _ (Ox s)]
structure Js(W:YD)(p:Nat)(rs:List ZU):Prop where
 ok:ZD W rs
 ord:Y8 W p rs
 low:∀r∈rs,qz r.1=true
theorem BR{i k:Nat}{b a:EF}{env:ZY}{ds:List PyData}{r:Yo}(f:env[i]?=some (.ac (.list ds)))(g:a env=some r)(h:b env=some (vi (k:Int)))(c:k<ds.length)(e:i∉r.bs):Ud i b a env=some (.nx ((frzs env r.bs).set i (.ac (.list (ds.set k r.d))))):=by
 unfold Ud;rw[f];show(a env).bind _=_;rw[g,qB,h,qB];show((UM ds.length (k:Int)).bind _)=_;have:UM ds.length (k:Int)=some k:=by unfold UM;simp;omega
 rw[this,qB,if_pos e]
abbrev V2(R:List YZ):PyData:=.list (R.map ZP)
section
variable{W:YD}{c R:List YZ}{z0 z1:Int}{o0 o1:Str}{n at_:Nat}
theorem zW:(R.map ZP).set k (ZP a)=(R.set k a).map ZP:=by rw[List.map_set]
theorem BA{l:List YZ}(h:x∈l.set k a):x=a\/x∈l:=by
 rcases List.mem_or_eq_of_mem_set h with h|h
 ·exact .inr h
 ·exact .inl h
end
theorem vP{r:Yo}(h:f a=some r)(b:Vg r.d=some ds):Zl f a=some (ds,r.bs):=by unfold Zl;rw[h,qB,b];rfl
theorem jH(h:ZV W){l:List Int}(P:i<l.length)(J:∀z∈l,0<=z){c0:List YZ}(D:0<(nm W).length):∀(c:List YZ)(g:List Str)(r:Int)(u m:Sl),Lw (nm W) c->0<=r->(∀k∈g,k∈nm W)->g.length+c.length<1000->
  ∃(p:List Str)(M:Int)(o q:Sl),YH (gN 10) (Z0 (Z1 11 (Z9 1))
  (Z0 (YA (Zk (Z2 Vj (Z2 ZR (ZZ 0 (Z9 6)) (eC (.int 4))) (eC (.int 0)))) (Z1 11 (YB ["_law_name"] [2,10] (Zl (Z9 1)) (gN 0) (Zt (Zy (XJ λbs=>bs.any id) (Z7 (YB ["_law_one"] [0,1] (Zl (ZG 1 Wk (Z7 (Z9 2) Z8))) (gN 0) Yk (Z2 (X3 false) (Z9 1) (X8 2 (Z9 0)))) Z8))) (Z9 0))) Zj)
  (Z0 (Zc 9 (ZZ 11 (Z2 ZR (Z9 8) (Zy Zp (Z7 (Z9 11) Z8)))))
  (Z1 8 (Z2 Yn (Z9 8) (Zy Zp (Z7 (Z9 11) Z8))))))) (c.map ZP) [.pl (Yi l),.pl (Z4 (nm W)),.pl (.dict (dS Z4 (ZX W))),A3,A4,A5,.pl (.int (i:Int)),A7,.pl (.int r),.ac (Z4 g),u,m]=some (.nx [.pl (Yi l),.pl (Z4 (nm W)),.pl (.dict (dS Z4 (ZX W))),A3,A4,A5,.pl (.int (i:Int)),A7,.pl (.int M),.ac (Z4 p),o,q])/\(∀k∈p,k∈nm W)/\p.length=g.length+c.length
 | [],g,r,u,m,_,_,hk,_=>⟨g,r,u,m,rfl,hk,rfl⟩
 | a::c,g,r,u,m,hc,r0,hk,hl=>by
  have B:(nm W).length<=12:=Nn h;have v:=hc.kinds a qX;have G:Z1 11 (Z9 1) [.pl (Yi l),.pl (Z4 (nm W)),.pl (.dict (dS Z4 (ZX W))),A3,A4,A5,.pl (.int (i:Int)),A7,.pl (.int r),.ac (Z4 g),.pl (ZP a),m]=some (.nx [.pl (Yi l),.pl (Z4 (nm W)),.pl (.dict (dS Z4 (ZX W))),A3,A4,A5,.pl (.int (i:Int)),A7,.pl (.int r),.ac (Z4 g),.pl (ZP a),.pl (Z4 (nm W))]):=zbe (r:=⟨Z4 (nm W),false,[]⟩) rfl
  have C:∃(j:List Str)(s:Sl),Hd (Z4 j) s/\0<j.length/\j.length<=12/\(∀x∈j,x∈nm W)/\YA (Zk (Z2 Vj (Z2 ZR (ZZ 0 (Z9 6)) (eC (.int 4))) (eC (.int 0)))) (Z1 11 (YB ["_law_name"] [2,10] (Zl (Z9 1)) (gN 0) (Zt (Zy (XJ λbs=>bs.any id) (Z7 (YB ["_law_one"] [0,1] (Zl (ZG 1 Wk (Z7 (Z9 2) Z8))) (gN 0) Yk (Z2 (X3 false) (Z9 1) (X8 2 (Z9 0)))) Z8))) (Z9 0))) Zj [.pl (Yi l),.pl (Z4 (nm W)),.pl (.dict (dS Z4 (ZX W))),A3,A4,A5,.pl (.int (i:Int)),A7,.pl (.int r),.ac (Z4 g),.pl (ZP a),.pl (Z4 (nm W))]=some (.nx [.pl (Yi l),.pl (Z4 (nm W)),.pl (.dict (dS Z4 (ZX W))),A3,A4,A5,.pl (.int (i:Int)),A7,.pl (.int r),.ac (Z4 g),.pl (ZP a),s]):=by
   have t:Zk (Z2 Vj (Z2 ZR (ZZ 0 (Z9 6)) (eC (.int 4))) (eC (.int 0))) [.pl (Yi l),.pl (Z4 (nm W)),.pl (.dict (dS Z4 (ZX W))),A3,A4,A5,.pl (.int (i:Int)),A7,.pl (.int r),.ac (Z4 g),.pl (ZP a),.pl (Z4 (nm W))]=some (decide (0<l[i] % 4)):=
    zdv (FA (Wy (i:=l[i]) (zagf (n:=i) rfl rfl (by rw[qW,qH P];rfl)) rfl (by decide)) rfl)
   by_cases hz:0<l[i] % 4
   ·rw[decide_eq_true hz]at t
    have Z:X5 (gN 0) (Zt (Zy (XJ λbs=>bs.any id) (Z7 (YB ["_law_one"] [0,1] (Zl (ZG 1 Wk (Z7 (Z9 2) Z8))) (gN 0) Yk (Z2 (X3 false) (Z9 1) (X8 2 (Z9 0)))) Z8))) (Z9 0) [.no,.pl (.dict (dS Z4 (ZX W))),.pl (ZP a)] ((nm W).map .str)=some (((nm W).filter λx=>decide (x∈Xu W a)).map .str):=by
     refine zcj (λx=>decide (x∈Xu W a)) λx w=>⟨[.pl (.str x),.pl (.dict (dS Z4 (ZX W))),.pl (ZP a)],rfl,?_,λ_=>⟨vs x,rfl,rfl⟩⟩
     have N:Zl (ZG 1 Wk (Z7 (Z9 2) Z8)) [.pl (.str x),.pl (.dict (dS Z4 (ZX W))),.pl (ZP a)]=some (a.parts.map .str,[]):=by
      unfold Zl;rw[Yp (n:=1) (rs:=[⟨ZP a,false,[]⟩]) (XP rfl) rfl (HG a)];rfl
     have k2:X5 (gN 0) Yk (Z2 (X3 false) (Z9 1) (X8 2 (Z9 0))) [.no,.pl (.str x),.pl (.dict (dS Z4 (ZX W)))] (a.parts.map .str)=some (a.parts.map λn=>.bool (decide (x∈up W n))):=
      zdj λn y=>⟨[.pl (.str n),.pl (.str x),.pl (.dict (dS Z4 (ZX W)))],rfl,rfl,vb (decide (x∈up W n)),O8 (neg:=false) (fr:=false) (bs:=[]) rfl (KA (k:=2) (d:=Z4 (up W n)) (.inl rfl) rfl (by rw[Os,Dk (v n y)];rfl)),rfl⟩
     have O:=Py (f:=λn:Str=>decide (x∈up W n)) (VU (own:=["_law_one"]) (fr:=[0,1]) N (by rw[qD];have:=hc.few a qX;omega) k2)
     have ev:(a.parts.any λn=>decide (x∈up W n))=decide (x∈Xu W a):=by
      rw[TH,RF,decide_eq_true_iff,OX];exact⟨λ⟨n,h1,h2⟩=>⟨n,h1,of_decide_eq_true h2⟩,λ⟨n,h1,h2⟩=>⟨n,h1,decide_eq_true h2⟩⟩
     rw[ev]at O;unfold Zt;rw[O];rfl
    refine⟨(nm W).filter λx=>decide (x∈Xu W a),.ac (Z4 ((nm W).filter λx=>decide (x∈Xu W a))),.inr rfl,?_,WT (PL _ _) B,λx w=>(qj.mp w).1,WO t (zbe (r:=⟨Z4 ((nm W).filter λx=>decide (x∈Xu W a)),true,[]⟩) ?_)⟩
    ·obtain⟨n,y⟩:=lg _ (hc.some a qX);exact j9 (qj.mpr ⟨v n y,decide_eq_true (OX.mpr ⟨n,y,sd h (v n y)⟩)⟩)
    ·rw[VU (own:=["_law_name"]) (fr:=[2,10]) (ds:=(nm W).map .str) (bs:=[]) rfl (by rw[qD];omega) Z,Cy];rfl
   ·rw[decide_eq_false hz]at t;exact⟨nm W,.pl (Z4 (nm W)),.inl rfl,D,B,λx w=>w,if_f t rfl⟩
  obtain⟨j,s,T,p0,a0,E,Y⟩:=C;have U:=Ve r (show(j.length:Int)≠0 by omega);have q1:=Tc r (show(0:Int)<(j.length:Int) by omega);have hj:(r % (j.length:Int)).toNat<j.length:=by omega
  have len:∀(g:List Str),Zy Zp (Z7 (Z9 11) Z8) [.pl (Yi l),.pl (Z4 (nm W)),.pl (.dict (dS Z4 (ZX W))),A3,A4,A5,.pl (.int (i:Int)),A7,.pl (.int r),.ac (Z4 g),.pl (ZP a),s]=some (vi (j.length:Int)):=λg=>by
   obtain⟨bs,hv⟩:=Fp (env:=[.pl (Yi l),.pl (Z4 (nm W)),.pl (.dict (dS Z4 (ZX W))),A3,A4,A5,.pl (.int (i:Int)),A7,.pl (.int r),.ac (Z4 g),.pl (ZP a),s]) (i:=11) rfl T;have:=Q2 (ds:=j.map .str) hv;rw[qD]at this;exact this
  have S:ZZ 11 (Z2 ZR (Z9 8) (Zy Zp (Z7 (Z9 11) Z8))) [.pl (Yi l),.pl (Z4 (nm W)),.pl (.dict (dS Z4 (ZX W))),A3,A4,A5,.pl (.int (i:Int)),A7,.pl (.int r),.ac (Z4 g),.pl (ZP a),s]=some (vs j[(r % (j.length:Int)).toNat]):=by
   have R:Z2 ZR (Z9 8) (Zy Zp (Z7 (Z9 11) Z8)) [.pl (Yi l),.pl (Z4 (nm W)),.pl (.dict (dS Z4 (ZX W))),A3,A4,A5,.pl (.int (i:Int)),A7,.pl (.int r),.ac (Z4 g),.pl (ZP a),s]=some (vi (((r % (j.length:Int)).toNat:Nat):Int)):=by
    rw[Wy (i:=r) rfl (len g) (by omega),Int.toNat_of_nonneg U]
   have Q:(j.map PyData.str)[(r % (j.length:Int)).toNat]?=some (.str j[(r % (j.length:Int)).toNat]):=by rw[qW,qH hj];rfl
   rcases id T with e|e
   ·exact zagf (ds:=j.map .str) (by rw[e];rfl) R Q
   ·exact uj (ds:=j.map .str) (by rw[e];rfl) R Q
  generalize w:j[(r % (j.length:Int)).toNat]=x at S;have I:x∈nm W:=E x (by rw[<- w];exact SZ _)
  have ap:Zc 9 (ZZ 11 (Z2 ZR (Z9 8) (Zy Zp (Z7 (Z9 11) Z8)))) [.pl (Yi l),.pl (Z4 (nm W)),.pl (.dict (dS Z4 (ZX W))),A3,A4,A5,.pl (.int (i:Int)),A7,.pl (.int r),.ac (Z4 g),.pl (ZP a),s]=some (.nx [.pl (Yi l),.pl (Z4 (nm W)),.pl (.dict (dS Z4 (ZX W))),A3,A4,A5,.pl (.int (i:Int)),A7,.pl (.int r),.ac (Z4 (g++[x])),.pl (ZP a),s]):=by
   rw[OP (ds:=g.map .str) (d:=.str x) (fr:=false) rfl S (by rw[qD];omega)];congr 2;unfold Z4;simp
  have X:Z1 8 (Z2 Yn (Z9 8) (Zy Zp (Z7 (Z9 11) Z8))) [.pl (Yi l),.pl (Z4 (nm W)),.pl (.dict (dS Z4 (ZX W))),A3,A4,A5,.pl (.int (i:Int)),A7,.pl (.int r),.ac (Z4 (g++[x])),.pl (ZP a),s]=some (.nx [.pl (Yi l),.pl (Z4 (nm W)),.pl (.dict (dS Z4 (ZX W))),A3,A4,A5,.pl (.int (i:Int)),A7,.pl (.int (r / (j.length:Int))),.ac (Z4 (g++[x])),.pl (ZP a),s]):=zbe (Rv (i:=r) rfl (len _) (by omega) (by omega));obtain⟨p,M,o,q,lp,L,F⟩:=jH h P J (A3:=A3) (A4:=A4) (A5:=A5) (A7:=A7) (c0:=c0) D c (g++[x]) (r / (j.length:Int)) (.pl (ZP a)) s ⟨λb A=>hc.kinds b (qI _ A),λb A=>hc.few b (qI _ A),λb A=>hc.some b (qI _ A)⟩ (EK r0 (by omega)) (λk H=>(qk.mp H).elim (hk k) λz=>by rw[Tn.mp z];exact I) (by simp at hl ⊢;omega);refine⟨p,M,o,q,?_,L,by simp at F ⊢;omega⟩;rw[qL];unfold YH;show Option.bind (Z0 _ _ [.pl (Yi l),.pl (Z4 (nm W)),.pl (.dict (dS Z4 (ZX W))),A3,A4,A5,.pl (.int (i:Int)),A7,.pl (.int r),.ac (Z4 g),.pl (ZP a),m]) _=_;rw[Zh G (Zh Y (Zh ap X))];exact lp
theorem pJ(h:ZV W)(Q:∀x∈nm W,Xv x)(L:0<(nm W).length){cs:List Int}{c:List YZ}{ts:List Str}(C:∀z∈cs,0<=z)(a1:ts.length<=cs.length)(Z:ts.length<=16)(hc:Lw (nm W) c)(a2:c.length<=3) :
  ∃rs,K2 [Yi cs,Z4 (nm W),.dict (dS Z4 (ZX W)),ZQ c,Z4 ts]=some (ZN rs,true)/\RE W c.length ts rs:=by
 have it:Lm (Z7 (Z9 4) Z8) [.pl (Yi cs),.pl (Z4 (nm W)),.pl (.dict (dS Z4 (ZX W))),.pl (ZQ c),.pl (Z4 ts),.ac (.list []),.no,.no,.no,.no,.no,.no]=some (((List.range ts.length).zip ts).map λz=>PyData.tuple [.int (z.1:Nat),.str z.2],[]):=by
  show some (QS (ts.map .str),[])=_;rw[HJ]
 obtain⟨P,lp,rs,J,I,H,B,p,o,rfl,ok⟩:=Uv (enc:=λz:Nat×Str=>PyData.tuple [.int (z.1:Nat),.str z.2]) (g:=gT 2 (Zw 6 (Zw 7 YE))) (l:=(List.range ts.length).zip ts) (env:=[.pl (Yi cs),.pl (Z4 (nm W)),.pl (.dict (dS Z4 (ZX W))),.pl (ZQ c),.pl (Z4 ts),.ac (.list []),.no,.no,.no,.no,.no,.no])
  (body:=(Z0 (Z1 8 (Z2 Yn (ZZ 0 (Z9 6)) (eC (.int 4))))
  (Z0 (Z1 9 (Y3 Z8))
  (Z0 (Y2 (Zl (Z9 3)) (gN 10)
  (Z0 (Z1 11 (Z9 1))
  (Z0 (YA (Zk (Z2 Vj (Z2 ZR (ZZ 0 (Z9 6)) (eC (.int 4))) (eC (.int 0)))) (Z1 11 (YB ["_law_name"] [2,10] (Zl (Z9 1)) (gN 0) (Zt (Zy (XJ λbs=>bs.any id) (Z7 (YB ["_law_one"] [0,1] (Zl (ZG 1 Wk (Z7 (Z9 2) Z8))) (gN 0) Yk (Z2 (X3 false) (Z9 1) (X8 2 (Z9 0)))) Z8))) (Z9 0))) Zj)
  (Z0 (Zc 9 (ZZ 11 (Z2 ZR (Z9 8) (Zy Zp (Z7 (Z9 11) Z8)))))
  (Z1 8 (Z2 Yn (Z9 8) (Zy Zp (Z7 (Z9 11) Z8))))))))
  (YA (Zk (Z2 (Tv true) (Zy Xw (Z7 (Z9 9) Z8)) (YB ["_law_one","_law_row"] [] (Zl (Z9 5)) (gT 2 (Zw 0 (Zw 1 YE))) Yk (Z9 1)))) (Zc 5 (ZE (Z7 (Z9 7) (Z7 (Zy Xw (Z7 (Z9 9) Z8)) Z8)))) Zj)))))
  (λq s=>∃(rs:List (Str×List Str)) (J I H B p o:Sl),s=[.pl (Yi cs),.pl (Z4 (nm W)),.pl (.dict (dS Z4 (ZX W))),.pl (ZQ c),.pl (Z4 ts),.ac (ZN rs),J,I,H,B,p,o]/\RE W c.length (q.map (·.2)) rs)
  ⟨[],_,_,_,_,_,_,rfl,λr f=>(nomatch f),λr f=>(nomatch f),HV,mU _⟩ (by
   rintro q ⟨i,t⟩ R s O ⟨rs,J,I,H,B,p,o,rfl,ok⟩;have U:(i,t)∈(List.range ts.length).zip ts:=by rw[<- O];simp
   have N:i<cs.length:=by
    have:=TY.mp (Qh U).1;omega
   have a3:q.length<=16:=by
    have:=congrArg List.length O;simp at this;omega
   have a0:rs.length<=16:=by
    have:=ok.sub.length_le;simp at this;omega
   have M:Z1 8 (Z2 Yn (ZZ 0 (Z9 6)) (eC (.int 4))) [.pl (Yi cs),.pl (Z4 (nm W)),.pl (.dict (dS Z4 (ZX W))),.pl (ZQ c),.pl (Z4 ts),.ac (ZN rs),.pl (.int (i:Int)),.pl (.str t),H,B,p,o]=some (.nx [.pl (Yi cs),.pl (Z4 (nm W)),.pl (.dict (dS Z4 (ZX W))),.pl (ZQ c),.pl (Z4 ts),.ac (ZN rs),.pl (.int (i:Int)),.pl (.str t),.pl (.int (cs[i] / 4)),B,p,o]):=
    zbe (Rv (i:=cs[i]) (zagf (n:=i) rfl rfl (by rw[qW,qH N];rfl)) rfl (by decide) (by decide))
   obtain⟨m,D,d,j,w,G,v⟩:=jH h N C (A3:=.pl (ZQ c)) (A4:=.pl (Z4 ts)) (A5:=.ac (ZN rs)) (A7:=.pl (.str t)) (c0:=c) L c [] (cs[i] / 4) p o hc (EK (C _ (SZ _)) (by decide)) (λk G=>(nomatch G)) (by simp;omega);have v:m.length=c.length:=by simpa using v
   have S:Yx m:=NJ Q G
   have tup:∀(E:ZY),E[9]?=some (.ac (Z4 m))->Zy Xw (Z7 (Z9 9) Z8) E=some ⟨ZI m,false,[9]⟩:=λE Y=>by
    unfold Zy;rw[XP (r:=⟨Z4 m,false,[9]⟩) (by unfold Z9;rw[Y])];rfl
   have cm:X5 (gT 2 (Zw 0 (Zw 1 YE))) Yk (Z9 1) [.no,.no] (rs.map Zm)=some (rs.map λr=>ZI r.2):=zdj (enc:=Zm) (out:=λr=>ZI r.2) λr _=>⟨[.pl (.str r.1),.pl (ZI r.2)],rfl,rfl,⟨ZI r.2,false,[]⟩,rfl,rfl⟩;have y:=VU (own:=["_law_one","_law_row"]) (fr:=[]) (fi:=Zl (Z9 5)) (g:=gT 2 (Zw 0 (Zw 1 YE))) (t:=Yk) (e:=Z9 1) (env:=[.pl (Yi cs),.pl (Z4 (nm W)),.pl (.dict (dS Z4 (ZX W))),.pl (ZQ c),.pl (Z4 ts),.ac (ZN rs),.pl (.int (i:Int)),.pl (.str t),.pl (.int D),.ac (Z4 m),d,j]) (ds:=rs.map Zm) (bs:=[5]) rfl (by rw[qD];omega) cm;have X:(rs.map λr=>ZI r.2)=(rs.map (·.2)).map ZI:=by rw[TX];rfl
   rw[X]at y
   have u:Zk (Z2 (Tv true) (Zy Xw (Z7 (Z9 9) Z8)) (YB ["_law_one","_law_row"] [] (Zl (Z9 5)) (gT 2 (Zw 0 (Zw 1 YE))) Yk (Z9 1))) [.pl (Yi cs),.pl (Z4 (nm W)),.pl (.dict (dS Z4 (ZX W))),.pl (ZQ c),.pl (Z4 ts),.ac (ZN rs),.pl (.int (i:Int)),.pl (.str t),.pl (.int D),.ac (Z4 m),d,j]=some (!decide (m∈rs.map (·.2))):=by
    refine zdv ?_;unfold Z2;rw[tup _ rfl,y];simp only[qB]
    rw[BZ (neg:=true) (λx hx=>by
     obtain⟨r,f,rfl⟩:=qo.mp hx;exact NJ Q (ok.kinds r f)) S]
    rfl
   have F:Zl (Z9 3) [.pl (Yi cs),.pl (Z4 (nm W)),.pl (.dict (dS Z4 (ZX W))),.pl (ZQ c),.pl (Z4 ts),.ac (ZN rs),.pl (.int (i:Int)),.pl (.str t),.pl (.int (cs[i] / 4)),.ac (Z4 []),p,o]=some (c.map ZP,[]):=rfl;have A:(q++[(i,t)]).map (·.2)=q.map (·.2)++[t]:=by simp
   by_cases hin:m∈rs.map (·.2)
   ·rw[decide_eq_true hin]at u;exact⟨_,_,rfl,.inl (Zh M (Zh rfl (Zh (U5 F w) (if_f u rfl)))),rs,_,_,_,_,_,_,rfl,ok.kinds,ok.size,ok.unl,by rw[A];exact ok.sub.trans (List.sublist_append_left _ _)⟩
   ·rw[decide_eq_false hin]at u
    have et:ZE (Z7 (Z9 7) (Z7 (Zy Xw (Z7 (Z9 9) Z8)) Z8)) [.pl (Yi cs),.pl (Z4 (nm W)),.pl (.dict (dS Z4 (ZX W))),.pl (ZQ c),.pl (Z4 ts),.ac (ZN rs),.pl (.int (i:Int)),.pl (.str t),.pl (.int D),.ac (Z4 m),d,j]=some ⟨Zm (t,m),false,[9]⟩:=by
     unfold ZE;rw[UE (r:=vs t) rfl (XP (tup _ rfl))];rfl
    have ap:Zc 5 (ZE (Z7 (Z9 7) (Z7 (Zy Xw (Z7 (Z9 9) Z8)) Z8))) [.pl (Yi cs),.pl (Z4 (nm W)),.pl (.dict (dS Z4 (ZX W))),.pl (ZQ c),.pl (Z4 ts),.ac (ZN rs),.pl (.int (i:Int)),.pl (.str t),.pl (.int D),.ac (Z4 m),d,j]=some (.nx [.pl (Yi cs),.pl (Z4 (nm W)),.pl (.dict (dS Z4 (ZX W))),.pl (ZQ c),.pl (Z4 ts),.ac (ZN (rs++[(t,m)])),.pl (.int (i:Int)),.pl (.str t),.pl (.int D),.pl (Z4 m),d,j]):=by
     rw[Ls (i:=5) (ds:=rs.map Zm) rfl et (by rw[qD];omega) (by decide)];congr 2;unfold ZN;rw[qx];rfl
    refine⟨_,_,rfl,.inl (Zh M (Zh rfl (Zh (U5 F w) (WO u ap)))),rs++[(t,m)],_,_,_,_,_,_,rfl,λr f=>?_,λr f=>?_,?_,?_⟩
    ·rcases qk.mp f with f|f
     ·exact ok.kinds r f
     ·rw[Tn.mp f];exact G
    ·rcases qk.mp f with f|f
     ·exact ok.size r f
     ·rw[Tn.mp f];exact v
    ·rw[qx]
     exact R0.mpr ⟨ok.unl,by simp,λa T b hb e=>hin (by
      have:b=m:=by simpa using hb
      rw[<- this,<- e];exact T)⟩
    ·rw[A,qx];exact ok.sub.append (mU _))
 have hs:((List.range ts.length).zip ts).map (·.2)=ts:=by
  rw[show(λz:Nat×Str=>z.2)=Prod.snd from rfl,List.map_snd_zip (by rw[HD];exact qM _)]
 rw[hs]at ok;exact⟨rs,zgd rfl (Zh rfl (Zh (U5 it lp) rfl)),ok⟩
theorem vW{l:List α}(h:l.length=3):∃a b c,l=[a,b,c]:=by
 match l,h with
 | [a,b,c],_=>exact⟨a,b,c,rfl⟩
abbrev Xp(W:YD):PyData:=.dict (dS Z4 (ZX W))
structure R6(W:YD)(p:Nat)(c:List YZ):Prop where
 cl:Lw (nm W) c
 len:c.length=p
theorem vC{rs:List Yo}(h:f env=some rs)(a:rs.length<=100000):ZE f env=some ⟨.tuple (XX rs),false,Yj rs⟩:=by unfold ZE;rw[h,qB,if_pos a]
theorem oX{k n:Nat}{b:EF}{env:ZY}{ds:List PyData}{d:PyData}(a:env[k]?=some (.ac (.list ds)))(c:b env=some (vi (n:Int)))(e:ds[n]?=some d):ZZ k b env=some ⟨d,false,[]⟩:=by
 unfold ZZ;rw[a];show(b env).bind _=_;rw[c,qB];show(atI ds (n:Int)).map _=_;rw[XW e];rfl
section
variable{W:YD}{p:Nat}{rs:List ZU}{c:List YZ}{z:Str×PyData}
theorem yr(h:ZV W)(a:Y1 W c)(b:Uh W p c=some z):La [Zs W p rs,ZQ c]=some (.rx z.1 z.2):=
 zwr (env:=[.pl (Zs W p rs),.pl (ZQ c),.no,.no]) rfl (PN rfl (HM (MI (rs:=[⟨Zs W p rs,false,[]⟩,⟨ZQ c,false,[]⟩]) rfl rfl (vy h a b))))
theorem pC(h:ZV W)(a:Y1 W c)(b:Uh W p c=some z):Kr [Zs W p rs,ZQ c]=some (.rx z.1 z.2):=
 zwr (env:=[.pl (Zs W p rs),.pl (ZQ c),.no,.no,.no,.no]) rfl (HM (MI (rs:=[⟨Zs W p rs,false,[]⟩,⟨ZQ c,false,[]⟩]) rfl rfl (Gg h a b)))
def UG(z:Str×PyData):PyData:=.tuple [.bool (decide (z.1="NoCall")),.bool (decide (z.1="NoKind")),z.2]
theorem FX{c:Str}{d:PyData}(a:c∈(["NoCall","NoKind"]:List Str)):Ql (.rx c d)=some (UG (c,d)):=by
 have h:c="NoCall"\/c="NoKind":=by simpa using a
 rcases h with rfl|rfl<;>rfl
theorem Fq{z:Str×PyData}(h:z.2=.none\/∃x,z.2=.str x/\qz x=true):qm (UG z)=true:=by
 obtain⟨c,d⟩:=z;rcases h with h|⟨x,h,a⟩
 ·cases h;exact xE (k:=1) (MJ (So Qy (So Qy (So rZ K7)))) (by decide)
 ·cases h;exact xE (k:=1) (MJ (So Qy (So Qy (So (Kp a) K7)))) (by decide)
theorem oS(h:ZV W)(d:Y1 W c)(a:Uh W p c=some z)(s:qm (UG z)=true):QK [Zs W p rs,ZQ c,UG z]=some (.bool true,false):=by
 have b:=zT a;have f:QQ [0,1] 2 La (Z7 (Z9 0) (Z7 (Z9 1) Z8)) Ql [.pl (Zs W p rs),.pl (ZQ c),.pl (UG z)]=some _:=Fm (cs:=[⟨Zs W p rs,false,[]⟩,⟨ZQ c,false,[]⟩]) (rs:=[⟨Zs W p rs,false,[]⟩,⟨ZQ c,false,[]⟩]) rfl rfl rfl (yr h d a) (FX b);have i:QQ [0,1] 2 Kr (Z7 (Z9 0) (Z7 (Z9 1) Z8)) Ql [.pl (Zs W p rs),.pl (ZQ c),.pl (UG z)]=some _:=Fm (cs:=[⟨Zs W p rs,false,[]⟩,⟨ZQ c,false,[]⟩]) (rs:=[⟨Zs W p rs,false,[]⟩,⟨ZQ c,false,[]⟩]) rfl rfl rfl (pC h d a) (FX b);have g:Zk (Z2 X4 (QQ [0,1] 2 La (Z7 (Z9 0) (Z7 (Z9 1) Z8)) Ql) (Z9 2)) [.pl (Zs W p rs),.pl (ZQ c),.pl (UG z)]=some false:=zdv (MC (x:=UG z) (y:=UG z) (f2:=false) (b2:=[]) f rfl (FU s));have e:Z2 XT (QQ [0,1] 2 Kr (Z7 (Z9 0) (Z7 (Z9 1) Z8)) Ql) (Z9 2) [.pl (Zs W p rs),.pl (ZQ c),.pl (UG z)]=some (vb true):=MC (x:=UG z) (y:=UG z) (f2:=false) (b2:=[]) i rfl (Iv s);exact zgd (env:=[.pl (Zs W p rs),.pl (ZQ c),.pl (UG z)]) rfl (Zh (if_f g rfl) (Uy e))
end
abbrev QT(cs:List Int)(h k d e g j f i a b c:Sl):ZY:=[.no,.pl (Yi cs),h,k,d,e,g,j,f,i,a,b,c]
theorem Nv{cs:List Int}(i:cs.length=31)(a b:Nat)(x:EF)(y:EF)(env:ZY)(h:b<=31)(c:a<=b)(d:env[1]?=some (.pl (Yi cs)))(f:x env=some (vi (a:Int)))(g:y env=some (vi (b:Int))):Ys (Z9 1) (YC x) (YC y) env=some ⟨Yi ((cs.drop a).take (b - a)),true,[]⟩:=by
 unfold Ys;have e:Z9 1 env=some ⟨Yi cs,false,[]⟩:=by unfold Z9;rw[d]
 rw[e,RN f,RN g];show some (⟨.list (X1 (cs.map .int) (some (a:Int)) (some (b:Int))),true,[]⟩:Yo)=_;rw[rK cs a b (by omega) c];rfl
theorem xp(a:List Str)(y:Str):X1 ((a++[y]).map PyData.str) none (some (-1))=a.map .str:=by
 unfold X1;have c:HT.sIx ((a++[y]).map PyData.str).length 0 none=0:=rfl
 have b:HT.sIx ((a++[y]).map PyData.str).length ((a++[y]).map PyData.str).length (some (-1))=a.length:=by
  unfold HT.sIx;simp;omega
 rw[c,b];simp
theorem oN(a:List Str)(y:Str):atI ((a++[y]).map PyData.str) (-1)=some (.str y):=by
 have e:UM ((a++[y]).map PyData.str).length (-1)=some a.length:=by
  unfold UM;simp;omega
 unfold atI;rw[e];simp
theorem y3{xs:List Str}(h:1<=xs.length):∃b y,xs=b++[y]:=by
 cases e:xs.reverse with
 | nil=>rw[List.reverse_eq_nil_iff.mp e]at h;exact absurd h (by decide)
 | cons a l=>exact⟨l.reverse,a,by have:=congrArg List.reverse e;simpa using this⟩
abbrev zg(cs:List Int)(p:Nat)(d:List Str)(y:Str)(f h e g a b c:Sl):ZY:=QT cs (.pl (.int (p:Int))) (.pl (Z4 (d++[y]))) (.pl (Z4 d)) (.pl (.str y)) f h e g a b c
abbrev Xr(cs:List Int)(p:Nat)(f:List Str)(y:Str)(W:YD)(g d e a b c:Sl):ZY:=zg cs p f y (.pl (ZT W)) g d e a b c
structure KJ(W:YD)(p:Nat)(st:List Str)(y:Str):Prop where
 ok:ZV W
 nm_:nm W=st
 low:∀z∈st,Xv z
 len:1<=st.length/\st.length<=10
 p1:1<=p/\p<=3
 y0:y∉st/\Xv y/\y.length<=20
theorem ue{cs:List Int}(H:cs.length=31)(w:∀c∈cs,0<=c):∃p a y W,KJ W p a y/\∀rest:SF,
  (Z0 (Z1 2 (Z2 Zr (eC (.int 1)) (Z2 ZR (ZZ 1 (eC (.int 0))) (eC (.int 3)))))
  (Z0 (Z1 3 (ZG 2 Q8 (Z7 (Z2 Zr (eC (.int 2)) (Z2 ZR (Z2 Yn (ZZ 1 (eC (.int 0))) (eC (.int 3))) (Z2 Xb (ZE (Z7 (eC (.int 10)) (Z7 (eC (.int 10)) (Z7 (eC (.int 6)) Z8)))) (Z2 YL (Z9 2) (eC (.int 1)))))) (Z7 (ZZ 1 (eC (.int 1))) Z8))))
  (Z0 (Z1 4 (Ys (Z9 3) XC (YC (Vr (eC (.int 1))))))
  (Z0 (Z1 5 (ZZ 3 (Vr (eC (.int 1)))))
  (Z0 (Z1 6 (ZG 2 Kc (Z7 (Ys (Z9 1) (YC (eC (.int 8))) (YC (eC (.int 18)))) (Z7 (Z9 4) Z8))))
  (Z0 (Z1 7 (ZG 1 Ku (Z7 (Z9 6) Z8))) rest)))))) (UR 11 cs)=rest (Xr cs p a y W (.ac (Xp W)) .no .no .no .no .no):=by
 have D:0<=cs[1]'(by omega):=w _ (SZ _);have N:=Ve (cs[0]'(by omega)) (show(3:Int)≠0 by decide);have M:=Tc (cs[0]'(by omega)) (show(0:Int)<3 by decide);obtain⟨p,C⟩:=Int.eq_ofNat_of_zero_le (show 0<=1+cs[0]'(by omega) % 3 by omega);have j:1<=p/\p<=3:=by omega
 obtain⟨q,hq,hq8⟩:∃q:Int,(∀I J:Sl,Z2 Xb (ZE (Z7 (eC (.int 10)) (Z7 (eC (.int 10)) (Z7 (eC (.int 6)) Z8)))) (Z2 YL (Z9 2) (eC (.int 1))) (QT cs (.pl (.int (p:Int))) I J .no .no .no .no .no .no .no .no)=some (vi q))/\(q=10\/q=6):=by
  have:p=1\/p=2\/p=3:=by omega
  rcases this with rfl|rfl|rfl
  ·exact⟨10,λ_ _=>rfl,.inl rfl⟩
  ·exact⟨10,λ_ _=>rfl,.inl rfl⟩
  ·exact⟨6,λ_ _=>rfl,.inr rfl⟩
 have O:=Ve (cs[0]'(by omega) / 3) (show q≠0 by omega);have P:=Tc (cs[0]'(by omega) / 3) (show(0:Int)<q by omega);obtain⟨i,L,t,o,b⟩:=j2 (m:=2+cs[0]'(by omega) / 3 % q) (c:=cs[1]'(by omega)) (by omega) (by omega) D;obtain⟨a,y,rfl⟩:=y3 (xs:=i) (by omega)
 have k:1<=a.length/\a.length<=10:=by
  rw[qU]at t;simp only[qu,N8]at t;omega
 have g:a.Nodup:=(R0.mp o).1;have s:∀z∈a,Xv z:=λz h=>(b z (Uw _ h)).1;have d:=b y (qf _ (by simp));have l:y∉a:=λz=>(R0.mp o).2.2 y z y (by simp) rfl;obtain⟨W,E,e,ok⟩:=Am (cs:=(cs.drop 8).take 10) (xs:=a) (by rw[Pp,Sb];omega) (by omega) g
 have F:(Z1 2 (Z2 Zr (eC (.int 1)) (Z2 ZR (ZZ 1 (eC (.int 0))) (eC (.int 3))))) (UR 11 cs)=some (.nx (QT cs (.pl (.int (p:Int))) .no .no .no .no .no .no .no .no .no .no)):=by
  refine zbe (r:=vi (p:Int)) ?_;rw[QJ rfl (Wy (KF (n:=0) rfl rfl (by omega)) rfl (by decide))];exact congrArg (λz=>some (vi z)) C
 have G:(Z1 3 (ZG 2 Q8 (Z7 (Z2 Zr (eC (.int 2)) (Z2 ZR (Z2 Yn (ZZ 1 (eC (.int 0))) (eC (.int 3))) (Z2 Xb (ZE (Z7 (eC (.int 10)) (Z7 (eC (.int 10)) (Z7 (eC (.int 6)) Z8)))) (Z2 YL (Z9 2) (eC (.int 1)))))) (Z7 (ZZ 1 (eC (.int 1))) Z8)))) (QT cs (.pl (.int (p:Int))) .no .no .no .no .no .no .no .no .no .no)=some (.nx (QT cs (.pl (.int (p:Int))) (.ac (Z4 (a++[y]))) .no .no .no .no .no .no .no .no .no)):=
  zbe (r:=⟨Z4 (a++[y]),true,[]⟩) (Yp (n:=2) (rs:=[vi (2+cs[0]'(by omega) / 3 % q),vi (cs[1]'(by omega))]) (UE (QJ rfl (Wy (Rv (KF (n:=0) rfl rfl (by omega)) rfl (by decide) (by decide)) (hq _ _) (by omega))) (XP (KF (n:=1) rfl rfl (by omega)))) rfl L)
 have u:(Z1 4 (Ys (Z9 3) XC (YC (Vr (eC (.int 1)))))) (QT cs (.pl (.int (p:Int))) (.ac (Z4 (a++[y]))) .no .no .no .no .no .no .no .no .no)=some (.nx (QT cs (.pl (.int (p:Int))) (.pl (Z4 (a++[y]))) (.ac (Z4 a)) .no .no .no .no .no .no .no .no)):=
  zbe (r:=⟨Z4 a,true,[3]⟩) (S6 (x:=a++[y]) (f:=false) (bs:=[3]) (lo:=none) (hi:=some (-1)) rfl rfl rfl (xp a y))
 have v:(Z1 5 (ZZ 3 (Vr (eC (.int 1))))) (QT cs (.pl (.int (p:Int))) (.pl (Z4 (a++[y]))) (.ac (Z4 a)) .no .no .no .no .no .no .no .no)=some (.nx (QT cs (.pl (.int (p:Int))) (.pl (Z4 (a++[y]))) (.ac (Z4 a)) (.pl (.str y)) .no .no .no .no .no .no .no)):=by
  refine zbe (r:=vs y) ?_;show((Xb (.list ((a++[y]).map PyData.str)) (.int (-1))).bind λz=>some (⟨z.1,z.2,ZM z.1 ([]++[])⟩:Yo))=_;unfold Xb;simp only[oN,Ru,qB];rfl
 have B:(Z1 6 (ZG 2 Kc (Z7 (Ys (Z9 1) (YC (eC (.int 8))) (YC (eC (.int 18)))) (Z7 (Z9 4) Z8)))) (QT cs (.pl (.int (p:Int))) (.pl (Z4 (a++[y]))) (.ac (Z4 a)) (.pl (.str y)) .no .no .no .no .no .no .no)=some (.nx (zg cs p a y (.ac (ZT W)) .no .no .no .no .no .no)):=
  zbe (r:=⟨ZT W,true,[4]⟩) (Yp (n:=2) (rs:=[⟨Yi ((cs.drop 8).take 10),true,[]⟩,⟨Z4 a,false,[4]⟩]) (UE (Nv H 8 18 _ _ _ (by decide) (by decide) rfl rfl rfl) (XP rfl)) rfl E)
 have A:(Z1 7 (ZG 1 Ku (Z7 (Z9 6) Z8))) (zg cs p a y (.ac (ZT W)) .no .no .no .no .no .no)=some (.nx (Xr cs p a y W (.ac (Xp W)) .no .no .no .no .no)):=
  zbe (r:=⟨.dict (dS Z4 (ZX W)),true,[6]⟩) (Yp (n:=1) (rs:=[⟨ZT W,false,[6]⟩]) (XP rfl) rfl (ut ok))
 exact⟨p,a,y,W,⟨ok,e,s,k,j,⟨l,d⟩⟩,λrest=>Zh F (Zh G (Zh u (Zh v (Zh B (Zh A rfl)))))⟩
theorem vj{i:List Int}(I:i.length=31)(A:∀c∈i,0<=c)(t:KJ W p st y):∃v c1 c2,R6 W p v/\R6 W p c1/\R6 W p c2/\∀rest:SF,
  (Z0 (Z1 8 (YB ["_law_cell"] [2,4] (Zl (Ys (Z9 1) (YC (eC (.int 4))) (YC (eC (.int 7))))) (gN 0) Yk (ZG 3 Oi (Z7 (Z9 0) (Z7 (Z9 2) (Z7 (Z9 1) Z8)))))) rest) (Xr i p st y W (.ac (Xp W)) .no .no .no .no .no)=rest (Xr i p st y W (.ac (Xp W)) (.ac (.list ([v,c1,c2].map ZQ))) .no .no .no .no):=by
 have G:=t.len;have o:=t.p1
 have H:∀z:Int,∃j:List YZ,0<=z->(Oi [.int z,Z4 st,.int p]=some (ZQ j,false)/\j.length=p/\Xg st j):=λz=>by
  by_cases g:0<=z
  ·obtain⟨j,h⟩:=Bd (xs:=st) (c:=z) (p:=p) (by omega) g o.2;exact⟨j,λ_=>h⟩
  ·exact⟨[],λq=>absurd q g⟩
 obtain⟨f,r⟩:=Classical.axiomOfChoice H;obtain⟨b,e,d,w⟩:=vW (l:=(i.drop 4).take 3) (by rw[Pp,Sb];omega);have k:∀z∈[b,e,d],0<=z:=λz g=>by rw[<- w]at g;exact A z (Qr (MY g))
 have C:∀z∈[b,e,d],R6 W p (f z):=λz g=>by
  obtain⟨_,E,m⟩:=r z (k z g);exact⟨by rw[t.nm_];exact⟨m.kinds,λa x=>WT (m.few a x) (by decide),m.some⟩,E⟩
 have D:(Z1 8 (YB ["_law_cell"] [2,4] (Zl (Ys (Z9 1) (YC (eC (.int 4))) (YC (eC (.int 7))))) (gN 0) Yk (ZG 3 Oi (Z7 (Z9 0) (Z7 (Z9 2) (Z7 (Z9 1) Z8)))))) (Xr i p st y W (.ac (Xp W)) .no .no .no .no .no)=some (.nx (Xr i p st y W (.ac (Xp W)) (.ac (.list ([f b,f e,f d].map ZQ))) .no .no .no .no)):=by
  have s:=Nv I 4 7 (eC (.int 4)) (eC (.int 7)) (Xr i p st y W (.ac (Xp W)) .no .no .no .no .no) (by decide) (by decide) rfl rfl rfl;rw[w]at s;have B:=vP (ds:=[b,e,d].map .int) s rfl
  have F:X5 (gN 0) Yk (ZG 3 Oi (Z7 (Z9 0) (Z7 (Z9 2) (Z7 (Z9 1) Z8)))) [.no,.pl (.int (p:Int)),.pl (Z4 st)] ([b,e,d].map .int)=some ([b,e,d].map λz=>ZQ (f z)):=
   zdj λz g=>⟨[.pl (.int z),.pl (.int (p:Int)),.pl (Z4 st)],rfl,rfl,⟨ZQ (f z),false,ZM (ZQ (f z)) []⟩,Yp (n:=3) (rs:=[⟨.int z,false,[]⟩,⟨Z4 st,false,[]⟩,⟨.int (p:Int),false,[]⟩]) rfl rfl (r z (k z g)).1,rfl⟩
  have u:=VU (own:=["_law_cell"]) (fr:=[2,4]) B (show(3:Nat)<100000 by decide) F;have J:(if WS ([b,e,d].map λz=>ZQ (f z))=true then([]:List Nat)else[]++Yb [2,4] (Xr i p st y W (.ac (Xp W)) .no .no .no .no .no))=[]:=by split<;>rfl
  rw[show(if WS ([b,e,d].map λz=>ZQ (f z))=true then([]:List Nat)else _)=[]from J]at u;exact zbe u
 exact⟨f b,f e,f d,C b (by simp),C e (by simp),C d (by simp),λrest=>Zh D rfl⟩
structure NW(W:YD)(p:Nat)(rs:List ZU):Prop extends Js W p rs where
 nd:(rs.map (·.1)).Nodup
theorem vk{cs:List Int}(D:cs.length=31)(s:∀c∈cs,0<=c){p:Nat}{d:List Str}{y:Str}{W:YD}(t:KJ W p d y){b c1 c2:List YZ}(l:R6 W p b):∃rs,NW W p rs/\∀rest:SF,
  (Z0 (Z1 9 (ZG 5 K2 (Z7 (Ys (Z9 1) (YC (eC (.int 18))) (YC (eC (.int 30)))) (Z7 (Z9 4) (Z7 (Z9 7) (Z7 (ZZ 8 (eC (.int 0))) (Z7 (ZG 2 Q8 (Z7 (Z2 ZR (ZZ 1 (eC (.int 3))) (eC (.int 13))) (Z7 (ZZ 1 (eC (.int 2))) Z8))) Z8)))))))
  (Z0 (Z1 10 (ZE (Z7 (YB ["_law_name","_law_elders"] [] (Zl (Z9 6)) (gT 2 (Zw 0 (Zw 1 YE))) Yk (ZE (Z7 (Z9 0) (Z7 (Zy UO (Z7 (Z9 1) Z8)) Z8)))) (Z7 (Z9 2) (Z7 (Zy UO (Z7 (Z9 9) Z8)) Z8))))) rest)) (Xr cs p d y W (.ac (Xp W)) (.ac (.list ([b,c1,c2].map ZQ))) .no .no .no .no)=rest (Xr cs p d y W (.pl (Xp W)) (.ac (.list ([b,c1,c2].map ZQ))) (.pl (ZN rs)) (.pl (Zs W p rs)) .no .no):=by
 have A:=t.len;have j:=t.p1;have i:∀z∈nm W,Xv z:=by rw[t.nm_];exact t.low
 have o:W.length<100000:=by
  have:=congrArg List.length t.nm_;unfold nm at this;rw[qD]at this;omega
 have C:=Ve (cs[3]'(by omega)) (show(13:Int)≠0 by decide);have J:=Tc (cs[3]'(by omega)) (show(0:Int)<13 by decide);obtain⟨g,B,lt,nt,k⟩:=j2 (m:=cs[3]'(by omega) % 13) (c:=cs[2]'(by omega)) C (by omega) (s _ (SZ _));have H:g.length<=12:=by omega
 obtain⟨rs,u,e⟩:=pJ t.ok i (by rw[t.nm_];omega) (cs:=(cs.drop 18).take 12) (c:=b) (ts:=g) (λz w=>s z (Qr (MY w))) (by rw[Pp,Sb];omega) (by omega) l.cl (by rw[l.len];exact j.2);rw[t.nm_]at u;rw[l.len]at e;have I:rs.length<=12:=by have:=e.sub.length_le;rw[qD]at this;omega
 have h:∀r∈rs,qz r.1=true:=λr f=>HI (k r.1 (e.sub.subset (qo.mpr ⟨r,f,rfl⟩))).1;have b1:Js W p rs:=⟨⟨λr f=>NJ i (e.kinds r f),e.kinds,λr f=>by rw[e.size r f];omega,by omega⟩,⟨e.kinds,e.size⟩,h⟩
 have G:(Z1 9 (ZG 5 K2 (Z7 (Ys (Z9 1) (YC (eC (.int 18))) (YC (eC (.int 30)))) (Z7 (Z9 4) (Z7 (Z9 7) (Z7 (ZZ 8 (eC (.int 0))) (Z7 (ZG 2 Q8 (Z7 (Z2 ZR (ZZ 1 (eC (.int 3))) (eC (.int 13))) (Z7 (ZZ 1 (eC (.int 2))) Z8))) Z8))))))) (Xr cs p d y W (.ac (Xp W)) (.ac (.list ([b,c1,c2].map ZQ))) .no .no .no .no)=some (.nx (Xr cs p d y W (.pl (Xp W)) (.ac (.list ([b,c1,c2].map ZQ))) (.ac (ZN rs)) .no .no .no)):=by
  have F:ZZ 8 (eC (.int 0)) (Xr cs p d y W (.ac (Xp W)) (.ac (.list ([b,c1,c2].map ZQ))) .no .no .no .no)=some ⟨ZQ b,false,[]⟩:=oX (n:=0) (ds:=[b,c1,c2].map ZQ) rfl rfl rfl;have x:ZG 2 Q8 (Z7 (Z2 ZR (ZZ 1 (eC (.int 3))) (eC (.int 13))) (Z7 (ZZ 1 (eC (.int 2))) Z8)) (Xr cs p d y W (.ac (Xp W)) (.ac (.list ([b,c1,c2].map ZQ))) .no .no .no .no)=some ⟨Z4 g,true,[]⟩:=Yp (n:=2) (rs:=[vi (cs[3]'(by omega) % 13),vi (cs[2]'(by omega))]) (UE (Wy (KF (n:=3) rfl rfl (by omega)) rfl (by decide)) (XP (KF (n:=2) rfl rfl (by omega)))) rfl B;exact zbe (r:=⟨ZN rs,true,[7]⟩) (Yp (n:=5) (rs:=[⟨Yi ((cs.drop 18).take 12),true,[]⟩,⟨Z4 d,false,[]⟩,⟨.dict (dS Z4 (ZX W)),false,[7]⟩,⟨ZQ b,false,[]⟩,⟨Z4 g,true,[]⟩]) (UE (Nv D 18 30 _ _ _ (by decide) (by decide) rfl rfl rfl) (UE rfl (UE rfl (UE F (XP x))))) rfl u)
 have q:(Z1 10 (ZE (Z7 (YB ["_law_name","_law_elders"] [] (Zl (Z9 6)) (gT 2 (Zw 0 (Zw 1 YE))) Yk (ZE (Z7 (Z9 0) (Z7 (Zy UO (Z7 (Z9 1) Z8)) Z8)))) (Z7 (Z9 2) (Z7 (Zy UO (Z7 (Z9 9) Z8)) Z8))))) (Xr cs p d y W (.pl (Xp W)) (.ac (.list ([b,c1,c2].map ZQ))) (.ac (ZN rs)) .no .no .no)=some (.nx (Xr cs p d y W (.pl (Xp W)) (.ac (.list ([b,c1,c2].map ZQ))) (.pl (ZN rs)) (.pl (Zs W p rs)) .no .no)):=by
  have v:=VU (own:=["_law_name","_law_elders"]) (fr:=[]) (fi:=Zl (Z9 6)) (env:=(Xr cs p d y W (.pl (Xp W)) (.ac (.list ([b,c1,c2].map ZQ))) (.ac (ZN rs)) .no .no .no)) (ds:=W.map XH) (bs:=[]) rfl (by rw[qD];exact o) p6;have E:(if WS (W.map XH)=true then([]:List Nat)else[]++Yb [] (Xr cs p d y W (.pl (Xp W)) (.ac (.list ([b,c1,c2].map ZQ))) (.ac (ZN rs)) .no .no .no))=[]:=by split<;>rfl
  rw[show(if WS (W.map XH)=true then([]:List Nat)else _)=[]from E]at v;refine zbe (r:=⟨Zs W p rs,false,[9]⟩) ?_;exact vC (rs:=[⟨ZT W,true,[]⟩,⟨.int (p:Int),false,[]⟩,⟨ZN rs,true,[9]⟩]) (UE v (UE (a:=Z9 2) rfl (XP (a:=Zy UO (Z7 (Z9 9) Z8)) rfl))) (show(3:Nat)<=100000 by decide)
 exact⟨rs,⟨b1,e.sub.nodup nt⟩,λrest=>Zh G (Zh q rfl)⟩
def IH:SF:=(Z0 (Z1 2 (Z2 Zr (eC (.int 1)) (Z2 ZR (ZZ 1 (eC (.int 0))) (eC (.int 3)))))
  (Z0 (Z1 3 (ZG 2 Q8 (Z7 (Z2 Zr (eC (.int 2)) (Z2 ZR (Z2 Yn (ZZ 1 (eC (.int 0))) (eC (.int 3))) (Z2 Xb (ZE (Z7 (eC (.int 10)) (Z7 (eC (.int 10)) (Z7 (eC (.int 6)) Z8)))) (Z2 YL (Z9 2) (eC (.int 1)))))) (Z7 (ZZ 1 (eC (.int 1))) Z8))))
  (Z0 (Z1 4 (Ys (Z9 3) XC (YC (Vr (eC (.int 1))))))
  (Z0 (Z1 5 (ZZ 3 (Vr (eC (.int 1)))))
  (Z0 (Z1 6 (ZG 2 Kc (Z7 (Ys (Z9 1) (YC (eC (.int 8))) (YC (eC (.int 18)))) (Z7 (Z9 4) Z8))))
  (Z0 (Z1 7 (ZG 1 Ku (Z7 (Z9 6) Z8)))
  (Z0 (Z1 8 (YB ["_law_cell"] [2,4] (Zl (Ys (Z9 1) (YC (eC (.int 4))) (YC (eC (.int 7))))) (gN 0) Yk (ZG 3 Oi (Z7 (Z9 0) (Z7 (Z9 2) (Z7 (Z9 1) Z8))))))
  (Z0 (Z1 9 (ZG 5 K2 (Z7 (Ys (Z9 1) (YC (eC (.int 18))) (YC (eC (.int 30)))) (Z7 (Z9 4) (Z7 (Z9 7) (Z7 (ZZ 8 (eC (.int 0))) (Z7 (ZG 2 Q8 (Z7 (Z2 ZR (ZZ 1 (eC (.int 3))) (eC (.int 13))) (Z7 (ZZ 1 (eC (.int 2))) Z8))) Z8)))))))
  (Z0 (Z1 10 (ZE (Z7 (YB ["_law_name","_law_elders"] [] (Zl (Z9 6)) (gT 2 (Zw 0 (Zw 1 YE))) Yk (ZE (Z7 (Z9 0) (Z7 (Zy UO (Z7 (Z9 1) Z8)) Z8)))) (Z7 (Z9 2) (Z7 (Zy UO (Z7 (Z9 9) Z8)) Z8)))))
  (Z0 (Y2 (Zl (Z9 8)) (gN 11)
  (YA (Xk (Zt (ZG 3 Rz (Z7 (Z9 10) (Z7 (Z9 7) (Z7 (Z9 11) Z8)))))) (Ze (eC (.bool false))) Zj))
  (Z0 (Z1 12 (Zy UO (Z7 (ZZ 8 (eC (.int 1))) Z8)))
  (Z0 (Ud 12 (Z2 ZR (ZZ 1 (eC (.int 7))) (Z9 2)) (Zy Xw (Z7 (Z2 Zr (ZG 1 Wk (Z7 (Z2 Xb (ZZ 8 (eC (.int 1))) (Z2 ZR (ZZ 1 (eC (.int 7))) (Z9 2))) Z8)) (Y3 (Z7 (Z9 5) Z8))) Z8)))
  (Z0 (YA (Xk (Zt (ZG 3 QK (Z7 (Z9 10) (Z7 (Zy Xw (Z7 (Z9 12) Z8)) (Z7 (ZE (Z7 (eC (.bool false)) (Z7 (eC (.bool true)) (Z7 (Z9 5) Z8)))) Z8)))))) (Ze (eC (.bool false))) Zj)
  (Z0 (YA (Xk (Zt (ZG 3 QK (Z7 (Z9 10) (Z7 (Zy Xw (Z7 (Ys (Z9 12) (YC (eC (.int 1))) XC) Z8)) (Z7 (ZE (Z7 (eC (.bool true)) (Z7 (eC (.bool false)) (Z7 (eC .none) Z8)))) Z8)))))) (Ze (eC (.bool false))) Zj)
  (Z0 (YA (Xk (Zt (ZG 3 QK (Z7 (Z9 10) (Z7 (Zy Xw (Z7 (Z2 Zr (Z9 12) (Y3 (Z7 (Z9 5) Z8))) Z8)) (Z7 (ZE (Z7 (eC (.bool true)) (Z7 (eC (.bool false)) (Z7 (eC .none) Z8)))) Z8)))))) (Ze (eC (.bool false))) Zj)
  (Ze (WK (ZG 3 Rz (Z7 (Z9 10) (Z7 (Z9 7) (Z7 (ZZ 8 (eC (.int 1))) Z8)))) (Z2 XT (Z9 10) (ZE (Z7 (Z9 6) (Z7 (Z9 2) (Z7 (Z9 9) Z8))))))))))))))))))))))
theorem R6.okc(h:R6 W p c)(d:p<=3):Ye W c:=⟨by rw[h.len];omega,λa b=>by have:=h.cl.few a b;omega,h.cl.kinds⟩
theorem E5(t:KJ W p st y)(b:NW W p rs)(k:R6 W p c):Rz [Zs W p rs,.dict (dS Z4 (ZX W)),ZQ c]=some (.bool true,false):=by
 have e:=k.len;subst e;exact AO (p:=0) t.ok b.ok (k.okc t.p1.2) b.nd b.ord b.low
section
variable{cs:List Int}{p:Nat}{st:List Str}{y:Str}{W:YD}{c0 c1 c2:List YZ}{rs:List ZU}
theorem NP(t:KJ W p st y){d:List YZ}(g:d.length<300)(f:∀a∈d,a.parts.length<300)(e:∀a∈d,∀n∈a.parts,n=y\/n∈nm W):Y1 W d:=⟨g,f,λa b n c z=>by
 rcases e a b n c with rfl|h
 ·exact wb t.y0.2
 ·exact absurd h z⟩
theorem zK(hl:cs.length=31)(h0:∀c∈cs,0<=c)(t:KJ W p st y)(k0:R6 W p c0)(A:R6 W p c1)(k2:R6 W p c2)(b:NW W p rs) :
  (Z0 (Y2 (Zl (Z9 8)) (gN 11)
  (YA (Xk (Zt (ZG 3 Rz (Z7 (Z9 10) (Z7 (Z9 7) (Z7 (Z9 11) Z8)))))) (Ze (eC (.bool false))) Zj))
  (Z0 (Z1 12 (Zy UO (Z7 (ZZ 8 (eC (.int 1))) Z8)))
  (Z0 (Ud 12 (Z2 ZR (ZZ 1 (eC (.int 7))) (Z9 2)) (Zy Xw (Z7 (Z2 Zr (ZG 1 Wk (Z7 (Z2 Xb (ZZ 8 (eC (.int 1))) (Z2 ZR (ZZ 1 (eC (.int 7))) (Z9 2))) Z8)) (Y3 (Z7 (Z9 5) Z8))) Z8)))
  (Z0 (YA (Xk (Zt (ZG 3 QK (Z7 (Z9 10) (Z7 (Zy Xw (Z7 (Z9 12) Z8)) (Z7 (ZE (Z7 (eC (.bool false)) (Z7 (eC (.bool true)) (Z7 (Z9 5) Z8)))) Z8)))))) (Ze (eC (.bool false))) Zj)
  (Z0 (YA (Xk (Zt (ZG 3 QK (Z7 (Z9 10) (Z7 (Zy Xw (Z7 (Ys (Z9 12) (YC (eC (.int 1))) XC) Z8)) (Z7 (ZE (Z7 (eC (.bool true)) (Z7 (eC (.bool false)) (Z7 (eC .none) Z8)))) Z8)))))) (Ze (eC (.bool false))) Zj)
  (Z0 (YA (Xk (Zt (ZG 3 QK (Z7 (Z9 10) (Z7 (Zy Xw (Z7 (Z2 Zr (Z9 12) (Y3 (Z7 (Z9 5) Z8))) Z8)) (Z7 (ZE (Z7 (eC (.bool true)) (Z7 (eC (.bool false)) (Z7 (eC .none) Z8)))) Z8)))))) (Ze (eC (.bool false))) Zj)
  (Ze (WK (ZG 3 Rz (Z7 (Z9 10) (Z7 (Z9 7) (Z7 (ZZ 8 (eC (.int 1))) Z8)))) (Z2 XT (Z9 10) (ZE (Z7 (Z9 6) (Z7 (Z9 2) (Z7 (Z9 9) Z8))))))))))))) (Xr cs p st y W (.pl (Xp W)) (.ac (.list ([c0,c1,c2].map ZQ))) (.pl (ZN rs)) (.pl (Zs W p rs)) .no .no)=some (.rt (.bool true) false):=by
 have hp:=t.p1;have ny:y∉nm W:=by rw[t.nm_];exact t.y0.1
 have kk:∀c∈[c0,c1,c2],R6 W p c:=λc Q=>by
  have:c=c0\/c=c1\/c=c2:=by simpa using Q
  rcases this with rfl|rfl|rfl
  ·exact k0
  ·exact A
  ·exact k2
 obtain⟨a0,lp,e,rfl⟩:=Uv (enc:=ZQ) (g:=gN 11) (l:=[c0,c1,c2]) (env:=Xr cs p st y W (.pl (Xp W)) (.pl (.list ([c0,c1,c2].map ZQ))) (.pl (ZN rs)) (.pl (Zs W p rs)) .no .no) (body:=YA (Xk (Zt (ZG 3 Rz (Z7 (Z9 10) (Z7 (Z9 7) (Z7 (Z9 11) Z8)))))) (Ze (eC (.bool false))) Zj)
  (λN u=>∃e,u=Xr cs p st y W (.pl (Xp W)) (.pl (.list ([c0,c1,c2].map ZQ))) (.pl (ZN rs)) (.pl (Zs W p rs)) e .no) ⟨_,rfl⟩ (by
   rintro N c a1 u L ⟨e,rfl⟩;have Q:c∈[c0,c1,c2]:=by rw[<- L];simp
   exact⟨_,_,rfl,.inl (if_f (Rq (c:=true) (Yp (n:=3) (rs:=[⟨Zs W p rs,false,[]⟩,⟨.dict (dS Z4 (ZX W)),false,[]⟩,⟨ZQ c,false,[]⟩]) rfl rfl (E5 t b (kk c Q)))) rfl),_,rfl⟩)
 have e0:=U5 (f:=Zl (Z9 8)) (env:=Xr cs p st y W (.pl (Xp W)) (.ac (.list ([c0,c1,c2].map ZQ))) (.pl (ZN rs)) (.pl (Zs W p rs)) .no .no) (ds:=[c0,c1,c2].map ZQ) (bs:=[8]) rfl lp;have U:∀q,ZZ 8 (eC (.int 1)) (Xr cs p st y W (.pl (Xp W)) (.pl (.list ([c0,c1,c2].map ZQ))) (.pl (ZN rs)) (.pl (Zs W p rs)) e q)=some ⟨ZQ c1,false,[]⟩:=λq=>zagf (n:=1) (ds:=[c0,c1,c2].map ZQ) rfl rfl rfl
 have T:Z1 12 (Zy UO (Z7 (ZZ 8 (eC (.int 1))) Z8)) (Xr cs p st y W (.pl (Xp W)) (.pl (.list ([c0,c1,c2].map ZQ))) (.pl (ZN rs)) (.pl (Zs W p rs)) e .no)=some (.nx (Xr cs p st y W (.pl (Xp W)) (.pl (.list ([c0,c1,c2].map ZQ))) (.pl (ZN rs)) (.pl (Zs W p rs)) e (.ac (V2 c1)))):=
  zbe (r:=⟨V2 c1,true,[]⟩) (by
   rw[ON (g:=UO) (d:=V2 c1) (fr:=true) (Wh (U .no) rfl) rfl];have:ZM (V2 c1) (Yj [⟨ZQ c1,false,[]⟩])=[]:=by unfold ZM;split<;>rfl
   rw[this])
 obtain⟨k,R,hkp⟩:∃k:Nat,(k:Int)=cs[7]'(by omega) % (p:Int)/\k<p:=by
  have a:=Ve (cs[7]'(by omega)) (show(p:Int)≠0 by omega);have a2:=Tc (cs[7]'(by omega)) (show(0:Int)<p by omega);exact⟨(cs[7]'(by omega) % (p:Int)).toNat,by omega,by omega⟩
 have s:k<c1.length:=by rw[A.len];exact hkp
 have S:∀q,Z2 ZR (ZZ 1 (eC (.int 7))) (Z9 2) (Xr cs p st y W (.pl (Xp W)) (.pl (.list ([c0,c1,c2].map ZQ))) (.pl (ZN rs)) (.pl (Zs W p rs)) e q)=some (vi (k:Int)):=λq=>by
  rw[R];exact Wy (KF (n:=7) rfl rfl (by omega)) rfl (by omega)
 generalize hW:c1.set k (.many (c1[k].parts++[y]))=w;have M:w.length=p:=by rw[<- hW,Wd,A.len]
 have o:∀a∈w,a.parts.length<300/\∀n∈a.parts,n=y\/n∈nm W:=λa j=>by
  rw[<- hW]at j;have I:=SZ s;rcases BA j with rfl|j
  ·refine⟨?_,λn m=>?_⟩
   ·show(c1[k].parts++[y]).length<300;have:=A.cl.few _ I;rw[qU];show _+1<300;omega
   ·have m:n∈c1[k].parts++[y]:=m;rcases qk.mp m with m|m
    ·exact .inr (A.cl.kinds _ I n m)
    ·exact .inl (by simpa using m)
  ·exact⟨by have:=A.cl.few a j;omega,λn m=>.inr (A.cl.kinds a j n m)⟩
 have X:y∈w.flatMap YZ.parts:=by
  refine MG.mpr ⟨.many (c1[k].parts++[y]),?_,?_⟩
  ·rw[<- hW];exact Ub (i:=k) (by rw[Te s])
  ·show y∈c1[k].parts++[y];simp
 have H:Ud 12 (Z2 ZR (ZZ 1 (eC (.int 7))) (Z9 2)) (Zy Xw (Z7 (Z2 Zr (ZG 1 Wk (Z7 (Z2 Xb (ZZ 8 (eC (.int 1))) (Z2 ZR (ZZ 1 (eC (.int 7))) (Z9 2))) Z8)) (Y3 (Z7 (Z9 5) Z8))) Z8)) (Xr cs p st y W (.pl (Xp W)) (.pl (.list ([c0,c1,c2].map ZQ))) (.pl (ZN rs)) (.pl (Zs W p rs)) e (.ac (V2 c1)))=some (.nx (Xr cs p st y W (.pl (Xp W)) (.pl (.list ([c0,c1,c2].map ZQ))) (.pl (ZN rs)) (.pl (Zs W p rs)) e (.ac (V2 w)))):=by
  have i1:Z2 Xb (ZZ 8 (eC (.int 1))) (Z2 ZR (ZZ 1 (eC (.int 7))) (Z9 2)) (Xr cs p st y W (.pl (Xp W)) (.pl (.list ([c0,c1,c2].map ZQ))) (.pl (ZN rs)) (.pl (Zs W p rs)) e (.ac (V2 c1)))=some ⟨ZP c1[k],false,[]⟩:=by
   unfold Z2 at S ⊢;rw[U,qB,S,qB];show Option.bind (Option.map _ (atI (c1.map ZP) (k:Int))) _=_;rw[L2.XW (v:=ZP c1[k]) (by rw[qW,qH s];rfl)];show some (⟨ZP c1[k],false,ZM (ZP c1[k]) []⟩:Yo)=_;rw[Ma]
  have i2:ZG 1 Wk (Z7 (Z2 Xb (ZZ 8 (eC (.int 1))) (Z2 ZR (ZZ 1 (eC (.int 7))) (Z9 2))) Z8) (Xr cs p st y W (.pl (Xp W)) (.pl (.list ([c0,c1,c2].map ZQ))) (.pl (ZN rs)) (.pl (Zs W p rs)) e (.ac (V2 c1)))=some ⟨Z4 c1[k].parts,true,[]⟩:=by
   rw[Yp (n:=1) (XP i1) rfl (HG c1[k])];show some (⟨Z4 c1[k].parts,true,ZM _ []⟩:Yo)=_;rw[Ma]
  have Z:=A.cl.few _ (SZ s)
  have i3:=zajc i2 (show Y3 (Z7 (Z9 5) Z8) (Xr cs p st y W (.pl (Xp W)) (.pl (.list ([c0,c1,c2].map ZQ))) (.pl (ZN rs)) (.pl (Zs W p rs)) e (.ac (V2 c1)))=some ⟨Z4 [y],true,[]⟩from rfl) (by show _+1<=100000;omega)
  have i4:Zy Xw (Z7 (Z2 Zr (ZG 1 Wk (Z7 (Z2 Xb (ZZ 8 (eC (.int 1))) (Z2 ZR (ZZ 1 (eC (.int 7))) (Z9 2))) Z8)) (Y3 (Z7 (Z9 5) Z8))) Z8) (Xr cs p st y W (.pl (Xp W)) (.pl (.list ([c0,c1,c2].map ZQ))) (.pl (ZN rs)) (.pl (Zs W p rs)) e (.ac (V2 c1)))=some ⟨ZP (.many (c1[k].parts++[y])),false,[]⟩:=by
   rw[ON (g:=Xw) (d:=ZI (c1[k].parts++[y])) (fr:=false) (XP i3) rfl];show some (⟨ZI (c1[k].parts++[y]),false,ZM _ ([]++[]++[])⟩:Yo)=_;rw[show([]++[]++[]:List Nat)=[]from rfl,Ma];rfl
  rw[BR (i:=12) (k:=k) (ds:=c1.map ZP) rfl i4 (S _) (by rw[qD];exact s) (by show 12∉([]:List Nat);simp),zW,hW];rfl
 have fw:Sd W (w.flatMap YZ.parts)=some y:=by
  cases G:Sd W (w.flatMap YZ.parts)with
  | some x0=>
   obtain⟨a,j,hh⟩:=MG.mp (List.mem_of_find?_eq_some G);rcases(o a j).2 x0 hh with rfl|m
   ·rfl
   ·have:=List.find?_some G;rw[decide_eq_true m]at this;cases this
  | none=>
   have:=List.find?_eq_none.mp G y X;rw[decide_eq_false ny]at this;exact absurd rfl this
 have bw:Uh W p w=some (("NoKind":Str),PyData.str y):=by unfold Uh;rw[if_pos M,fw];rfl
 have s1:qm (UG ("NoKind",.str y))=true:=Fq (.inr ⟨y,rfl,HI t.y0.2.1⟩);have s2:qm (UG ("NoCall",.none))=true:=Fq (.inl rfl);have wk:Y1 W w:=NP t (by omega) (λa j=>(o a j).1) λa j=>(o a j).2;have nc:∀{c:List YZ},c.length≠p->Uh W p c=some (("NoCall":Str),PyData.none):=λh=>by unfold Uh;rw[if_neg h]
 have P:Y1 W (w.drop 1):=NP t (by rw[Sb];omega) (λa j=>(o a (Qr j)).1) λa j=>(o a (Qr j)).2
 have J:Y1 W (w++[.one y]):=NP t (by rw[qU];show _+1<300;omega) (λa j=>by
  rcases qk.mp j with h|h
  ·exact(o a h).1
  ·rw[Tn.mp h];show 1<300;decide) λa j n m=>by
  rcases qk.mp j with h|h
  ·exact(o a h).2 n m
  ·rw[Tn.mp h]at m;exact .inl (by simpa [YZ.parts]using m)
 generalize hE:Xr cs p st y W (.pl (Xp W)) (.pl (.list ([c0,c1,c2].map ZQ))) (.pl (ZN rs)) (.pl (Zs W p rs)) e (.ac (V2 w))=E at H;have v5:Z9 5 E=some (vs y):=by rw[<- hE];rfl
 have D:Z9 10 E=some ⟨Zs W p rs,false,[]⟩:=by rw[<- hE];rfl
 have B:Z9 12 E=some ⟨V2 w,false,[12]⟩:=by rw[<- hE];rfl
 have v7:Z9 7 E=some ⟨.dict (dS Z4 (ZX W)),false,[]⟩:=by rw[<- hE];rfl
 have F:Z8 E=some []:=rfl;have O:∀(f:EF)(l:List YZ)(fr:Bool)(bs:List Nat),f E=some ⟨V2 l,fr,bs⟩->Zy Xw (Z7 f Z8) E=some ⟨ZQ l,false,ZM (ZQ l) (Yj [⟨V2 l,fr,bs⟩])⟩:=λf l fr bs h=>ON (g:=Xw) (d:=ZQ l) (fr:=false) (XP h) rfl
 have C:∀(f g:EF)(l:List YZ)(z:Str×PyData)(b1 b2:List Nat),f E=some ⟨ZQ l,false,b1⟩->g E=some ⟨UG z,false,b2⟩->Y1 W l->Uh W p l=some z->qm (UG z)=true->YA (Xk (Zt (ZG 3 QK (Z7 (Z9 10) (Z7 f (Z7 g Z8)))))) (Ze (eC (.bool false))) Zj E=some (.nx E):=λf g l z b1 b2 G hg R hb hs=>
  if_f (Rq (c:=true) (Yp (n:=3) (Wh D (Wh G (Wh hg F))) rfl (oS t.ok R hb hs))) rfl
 have r1:=C _ (ZE (Z7 (eC (.bool false)) (Z7 (eC (.bool true)) (Z7 (Z9 5) Z8)))) w ("NoKind",.str y) _ _ (O _ w _ _ B) (G7 (Wh (show eC (.bool false) E=some (vb false)from rfl) (Wh (show eC (.bool true) E=some (vb true)from rfl) (Wh v5 F))) (show 3<=100000 by decide)) wk bw s1
 have v2:Ys (Z9 12) (YC (eC (.int 1))) XC E=some ⟨V2 (w.drop 1),true,ZM (V2 (w.drop 1)) [12]⟩:=by
  unfold Ys;rw[B,RN (i:=1) (show eC (.int 1) E=some (vi 1)from rfl)];show some (⟨.list (X1 (w.map ZP) (some ((1:Nat):Int)) none),true,ZM (.list (X1 (w.map ZP) (some ((1:Nat):Int)) none)) [12]⟩:Yo)=_;rw[P3,<- J8]
 have r2:=C _ (ZE (Z7 (eC (.bool true)) (Z7 (eC (.bool false)) (Z7 (eC .none) Z8)))) (w.drop 1) ("NoCall",.none) _ _ (O _ _ _ _ v2) (G7 (Wh (show eC (.bool true) E=some (vb true)from rfl) (Wh (show eC (.bool false) E=some (vb false)from rfl) (Wh (show eC .none E=some ⟨.none,false,[]⟩from rfl) F))) (show 3<=100000 by decide)) P (nc (by rw[Sb];omega)) s2;have l3:Y3 (Z7 (Z9 5) Z8) E=some ⟨.list [.str y],true,[]⟩:=by rw[<- hE];rfl
 have v3:Z2 Zr (Z9 12) (Y3 (Z7 (Z9 5) Z8)) E=some ⟨V2 (w++[.one y]),true,ZM (V2 (w++[.one y])) ([12]++[])⟩:=by
  have a:Zr (V2 w) (.list [.str y])=some (V2 (w++[.one y]),true):=by
   show(if(w.map ZP).length+1<=100000 then some (PyData.list (w.map ZP++[.str y]),true)else none)=_;rw[if_pos (by rw[qD];omega)];show some (PyData.list (w.map ZP++[.str y]),true)=some (PyData.list ((w++[YZ.one y]).map ZP),true);rw[qx];rfl
  unfold Z2;rw[B,qB,l3,qB];show Option.bind (Zr (V2 w) (.list [.str y])) _=_;rw[a];rfl
 have r3:=C _ (ZE (Z7 (eC (.bool true)) (Z7 (eC (.bool false)) (Z7 (eC .none) Z8)))) (w++[.one y]) ("NoCall",.none) _ _ (O _ _ _ _ v3) (G7 (Wh (show eC (.bool true) E=some (vb true)from rfl) (Wh (show eC (.bool false) E=some (vb false)from rfl) (Wh (show eC .none E=some ⟨.none,false,[]⟩from rfl) F))) (show 3<=100000 by decide)) J (nc (by rw[qU];show _+1≠p;omega)) s2;have Y:∀z∈nm W,Xv z:=by rw[t.nm_];exact t.low
 have sb:qm (Zs W p rs)=true:=yK t.ok Y λr hr=>⟨b.low r hr,b.ok.low r hr⟩
 have er:(WK (ZG 3 Rz (Z7 (Z9 10) (Z7 (Z9 7) (Z7 (ZZ 8 (eC (.int 1))) Z8)))) (Z2 XT (Z9 10) (ZE (Z7 (Z9 6) (Z7 (Z9 2) (Z7 (Z9 9) Z8)))))) E=some (vb true):=by
  have ie:ZZ 8 (eC (.int 1)) E=some ⟨ZQ c1,false,[]⟩:=by rw[<- hE];exact U _
  have f1:=Yp (n:=3) (g:=Rz) (Wh D (Wh v7 (Wh ie F))) rfl (E5 t b A)
  have f2:Z2 XT (Z9 10) (ZE (Z7 (Z9 6) (Z7 (Z9 2) (Z7 (Z9 9) Z8)))) E=some (vb true):=by
   rw[<- hE];exact MC (x:=Zs W p rs) (y:=Zs W p rs) (f1:=false) (f2:=false) (b1:=[]) (b2:=[]) rfl rfl (Iv sb)
  unfold WK;rw[f1,f2];rfl
 exact Zh e0 (Zh T (Zh H (Zh r1 (Zh r2 (Zh r3 (Uy er))))))
end
theorem w1{e:List Int}(a:e.length=31)(d:∀c∈e,0<=c):IH (UR 11 e)=some (.rt (.bool true) false):=by
 obtain⟨p,n,y,W,t,j⟩:=ue a d;obtain⟨o,f,g,h,k,i,m⟩:=vj a d t;obtain⟨q,b,l⟩:=vk (c1:=f) (c2:=g) a d t h;exact(j _).trans ((m _).trans ((l _).trans (zK a d t h k i b)))
section
variable{P:Program}{w:World}{K:qC}{mg:Str->Option Value}{base:Heap}
theorem rQ{s k:Int}(h1:0<=s)(h2:s<2147483647)(h3:0<=k)(h4:k<=64):0<=s * (k+2)+7919 * k * k+11/\s * (k+2)+7919 * k * k+11<200000000000:=by
 have c:0<=s * (k+2):=t8 h1 (by omega);have b:s * (k+2)<=2147483647 * 66:=Int.mul_le_mul (by omega) (by omega) (by omega) (by omega);have a:0<=7919 * k * k:=t8 (by omega) h3;have d:7919 * k * k<=7919 * 64 * 64:=Int.mul_le_mul (by omega) h4 h3 (by omega);omega
def LO(K:qC):Sp:=λvs H Q _=>∃(a:Addr)(e:List Int)(m:Int),vs=[.ref a,.int m]/\YK K H a (e.map .int)/\0<=m/\m<=64/\
 ∀p b (d:List Int),H p=none->Z3 H b->b p=some (.lst (d.map .int))->d.length=m.toNat->(∀c∈d,0<=c/\c<1000000000000)->Q (.ref p) b
theorem pN{f:Addr}{U:Xl}(F:Yw K "_law_draws" "_law_draws" wo f U)(T:Txt mg):Zu P w K mg base Yz 1 f U ["_law_script","_law_many"] (LO K):=by
 refine F.ok mh (λvs H Q E h=>?_) (λZ A G s H vs Q E hr h=>?_)
 ·obtain⟨a,b,m,rfl,_⟩:=h;rfl
 ·obtain⟨a,b,m,rfl,I,h0,a0,k⟩:=h;apply Exists.intro;apply And.intro
  ·refine'(K9 (QC (i:=2) (hf:=Or.inl rfl) Hw rfl (Or.inl rfl) Tq)
 (K9 (Mg qh rfl (tT (K:=K) rfl (Ef (T9 (K:=K) rfl) (pv 0) Hh (Hx Tq))) (Mc (i:=3) (hf:=Or.inl rfl) Hw rfl (Or.inl rfl))
  (Mf (QC (i:=2) (hf:=Or.inl rfl) Hw rfl (Or.inl rfl) (Uu Xm (Uu (V8 (K:=K) rfl) (Uu QX (pv 2) Tq) (Uu Xm (pv 3) Tq)) Tq))))
 (K9 (QC (i:=4) (hf:=Or.inl rfl) Hw rfl (Or.inl rfl) (Hv Oe))
 (K9 (Mg qh rfl (Ip rfl T.range (Oy (pv 1) Oe)) (Mc (i:=5) (hf:=Or.inl rfl) Hw rfl (Or.inl rfl))
  (Mf (Ey (Hc Bg (pv 5) (Jt (UK (K:=K) rfl) (by rfl) T.len U6 (Oy (pv 0) Oe)) (WN _)) (Mf (B1 (NF (K:=K) rfl qP qS qR Wa (pv 4) (Oy (Uu Xm (D8 (Ym (K:=K) rfl) (pv 0) (pv 5) (λ_ _=>rfl)) (Uu Jv Tq Tq)) Oe)))) (Mf (B1 (NF (K:=K) rfl qP qS qR Wa (pv 4) (Oy (Uu UT (Uu Xm (Uu Jv (Uu (V8 (K:=K) rfl) (Uu (V8 (K:=K) rfl) (Uu QX (pv 2) (Uu (V8 (K:=K) rfl) (pv 5) Tq)) (Uu QX (Uu QX Tq (pv 5)) (pv 5))) Tq) Tq) Tq) Tq) Oe)))))))
 (Mf (GS (pv 4)))))))
  refine⟨_,rfl,_,rfl,a,_,rfl,I,λp R=>⟨p,rfl,⟨_,YK.of Yr⟩,L2.for_list (xs:=WL (b.map V.int) none (some 63)) (λi σ C=>∃(d:Int)(r:Option V),σ=[some (.ref a),some (.int m),some (.int d),r,none,none]/\C=upd H p (.lst (WL (b.map V.int) none (some 63)))/\0<=d/\d<2147483647)
   ⟨7,none,rfl,rfl,by decide,by decide⟩ (λi σ C _ ⟨_,_,_,e,_⟩=>e▸YK.of Yr) ?_ ?_⟩⟩
  ·rintro i x σ C S ⟨d,r,rfl,rfl,O,b1⟩
   obtain⟨z,rfl⟩:∃z,x=V.int z:=by
    have W:=Ub S;unfold WL at W;obtain⟨z,_,e⟩:=qo.mp (Qr (MY W));exact⟨z,e.symm⟩
   refine⟨_,rfl,.inl ⟨by omega,by omega⟩,_,rfl,_,_,rfl,rfl,(by show(0:Int)<2147483629;decide),_,_,rfl,rfl,(by show(0:Int)<2147483647;decide),?_⟩;exact⟨_,_,rfl,rfl,Ve _ (by decide),Tc _ (by decide)⟩
  ·rintro σ C ⟨d,r,rfl,rfl,O,b1⟩;refine⟨V5 _,λq hq=>?_⟩;have t:H q=none:=(Z3.new R).free hq;have L:∀o,Z3 H (upd (upd H p (.lst (WL (b.map V.int) none (some 63)))) q o):=λo=>(Z3.new R).upd t
   refine⟨_,rfl,m,rfl,by omega,by omega,L2.S2 (n:=m.toNat) (λi σ D=>∃(g:List Int)(y:Option V),σ=[some (.ref a),some (.int m),some (.int d),r,some (.ref q),y]/\D=upd (upd H p (.lst (WL (b.map V.int) none (some 63)))) q (.lst (g.map .int))/\g.length=i/\∀c∈g,0<=c/\c<1000000000000)
    ⟨[],none,rfl,rfl,rfl,λ_ h=>nomatch h⟩ ?_ ?_⟩
   ·rintro i σ D S ⟨g,y,rfl,rfl,B,j⟩;have N:(i:Int)<=64:=by omega
    refine⟨_,rfl,_,rfl,_,_,rfl,.inl ⟨_,(L _).seq I,rfl⟩,_,_,rfl,rfl,_,rfl,?_⟩;have X:(g.map V.int).length<qa:=by rw[qD,B];exact LM (show i<=64 by omega) (by decide)
    have u:∀v:Int,0<=v->v<1000000000000->∃(l:List Int)(y:Option V),[some (.ref a),some (.int m),some (.int d),r,some (.ref q),some (.int (0+(i:Int)))]=[some (.ref a),some (.int m),some (.int d),r,some (.ref q),y]/\
      upd (upd (upd H p (.lst (WL (b.map V.int) none (some 63)))) q (.lst (g.map .int))) q (.lst (g.map V.int++[.int v]))=upd (upd H p (.lst (WL (b.map V.int) none (some 63)))) q (.lst (l.map .int))/\l.length=i+1/\∀c∈l,0<=c/\c<1000000000000:=λv hv J=>by
     refine⟨g++[v],_,rfl,?_,by simp[B],λc h=>?_⟩
     ·rw[zf,qx];rfl
     ·rcases qk.mp h with h|h
      ·exact j c h
      ·rw[Tn.mp h];exact⟨hv,J⟩
    refine vv (λh=>?_) (λh=>?_)
    ·have h:(0:Int)+i<((b.map V.int).length:Nat):=of_decide_eq_true h;rw[qD]at h;have M:i<b.length:=by omega
     have ga:atI (b.map V.int) (0+(i:Int))=some (.int b[i]):=by
      rw[Int.zero_add];exact XW (by rw[qW,qH M];rfl)
     refine⟨_,rfl,.inl ⟨rfl,_,YK.of Yr⟩,_,rfl,_,rfl,_,_,.inl ((L _).seq I),ga,_,_,rfl,rfl,⟨by decide,by decide,by decide⟩,_,_,rfl,rfl,(by show(0:Int)<10 ^ 12;decide),q,_,_,rfl,rfl,Yr,X,?_⟩;exact u _ (Ve _ (by decide)) (Tc _ (by decide))
    ·obtain⟨d1,d2⟩:=rQ (s:=d) (k:=0+(i:Int)) O b1 (by omega) (by omega);refine⟨_,rfl,.inl ⟨rfl,_,YK.of Yr⟩,_,rfl,_,rfl,.inl ⟨by omega,by omega⟩,_,rfl,.inl ⟨by decide,by decide⟩,_,rfl,.inr ⟨by omega,by omega⟩,?_⟩;refine⟨_,_,rfl,rfl,⟨by decide,by decide,?_⟩,_,_,rfl,rfl,(by show(0:Int)<2147483647;decide),_,_,rfl,rfl,⟨by decide,by decide⟩,q,_,_,rfl,rfl,Yr,X,?_⟩
     ·show(d * (0+(i:Int)+2)+7919 * (0+(i:Int)) * (0+(i:Int))+11).natAbs<2 ^ 64;omega
     ·refine u _ (EK (Ve _ (by decide)) (by decide)) ?_;have Y:∀z:Int,z % 2147483647 / 7<1000000000000:=λz=>by have:=Tc z (show(0:Int)<2147483647 by decide);omega
      exact Y _
   ·rintro σ D ⟨g,y,rfl,rfl,B,j⟩;exact⟨_,rfl,k q _ g t (L _) Yr B j⟩
end
section
variable{P:Program}{w:World}{K:qC}{mg:Str->Option Value}{base:Heap}
def iO(K:qC):Sp:=λvs H Q _=>∃(a:Addr)(c:List Int),vs=[.ref a]/\YK K H a (c.map V.int)/\∀b,Q (.bl true) b
theorem yD{f PT:Addr}{j:Xl}(F:Yw K "law" "law" S3 f j)(T:Txt mg)(D_law_call:km P w K mg base)(D_law_draws:Dn P w K mg base "_law_draws" ["_law_script","_law_many"] 1 (LO K))(D_law_names:m9 P w K mg base)(D_law_parts:De P w K mg base)(D_law_refused:kO P w K mg base PT)(D_law_right:kz P w K mg base)(D_law_rules:kF P w K mg base)(D_law_up:Fo P w K mg base)(D_law_web:Hi P w K mg base):Zu P w K mg base Yz 12 f j ["_law_script"] (PD K PT (("_law_refused":Str)++".<locals>."++"<lambda>")):=by
 refine F.ok IV (λvs H Q E h=>?_) (λy A d s H vs Q E b h=>?_)
 ·obtain⟨a,l,rfl,_⟩:=h;rfl
 ·obtain⟨a,l,rfl,u,e,k⟩:=h;have z:=RP b;apply Exists.intro;apply And.intro
  ·refine' Bx.out (Zx (XS (i:=1) Sf rfl (Or.inl rfl) (Zv D_law_draws b (Z5 (bv 0) (Z5 Zn ZS))))
 (Zx (XS (i:=2) Sf rfl (Or.inr rfl) (YX (V8 (K:=K) rfl) Zn (YX Xm (Zg (Ym (K:=K) rfl) (bv 1) Zn) Zn)))
 (Zx (XS (i:=3) Sf rfl (Or.inl rfl) (Zv D_law_names b (Z5 (YX (V8 (K:=K) rfl) Zn (YX Xm (YX UT (Zg (Ym (K:=K) rfl) (bv 1) Zn) Zn) (Zg (Ym (K:=K) rfl) (Wl (Z5 Zn (Z5 Zn (Z5 Zn ZS)))) (YX MN (bv 2) Zn)))) (Z5 (Zg (Ym (K:=K) rfl) (bv 1) Zn) ZS))))
 (Zx (XS (i:=4) Sf rfl (Or.inr rfl) (Ti (T9 (K:=K) rfl) (bv 3) Rn (U7 (IP G5 Zn))))
 (Zx (XS (i:=5) Sf rfl (Or.inl rfl) (Zg (Ym (K:=K) rfl) (bv 3) (IP G5 Zn)))
 (Zx (XS (i:=6) Sf rfl (Or.inl rfl) (Zv D_law_web b (Z5 (Ti (T9 (K:=K) rfl) (bv 1) (U7 Zn) (U7 Zn)) (Z5 (bv 4) ZS))))
 (Zx (XS (i:=7) Sf rfl (Or.inl rfl) (Zv D_law_up b (Z5 (bv 6) ZS)))
 (Zx (Mu (i:=8) (Wm (N':=["_law_cell","_law_places","_law_names_here"]) (own:=["_law_cell"]) (fr:=[2,4]) (by kernel_rfl)) rfl (XA (K:=K) rfl (Ti (T9 (K:=K) rfl) (bv 1) (U7 Zn) (U7 Zn))) ?hb1 (by rfl) Sf rfl rfl (by intro _;rfl))
 (Zx (XS (i:=9) Sf rfl (Or.inl rfl) (Zv D_law_rules b (Z5 (Ti (T9 (K:=K) rfl) (bv 1) (U7 Zn) (U7 Zn)) (Z5 (bv 4) (Z5 (bv 7) (Z5 (Zg (Ym (K:=K) rfl) (bv 8) Zn) (Z5 (Zv D_law_names b (Z5 (YX Xm (Zg (Ym (K:=K) rfl) (bv 1) Zn) Zn) (Z5 (Zg (Ym (K:=K) rfl) (bv 1) Zn) ZS))) ZS)))))))
 (Zx (XS (i:=10) Sf rfl (Or.inl rfl) (Wl (Z5 (T1 (Wm (N':=["_law_name","_law_elders"]) (own:=["_law_name","_law_elders"]) (fr:=[]) (by kernel_rfl)) rfl (XA (K:=K) rfl (bv 6)) ?hb2 (by intro _;rfl)) (Z5 (bv 2) (Z5 (Xx (Kb (K:=K) rfl) T.list N0 (Z5 (bv 9) ZS)) ZS)))))
 (Zx (Wp qh rfl (XA (K:=K) rfl (bv 8)) (Wn (i:=11) Sf rfl (Or.inl rfl))
  (Zf (Xh (RA (VO (K:=K) rfl (Zv D_law_right b (Z5 (bv 10) (Z5 (bv 7) (Z5 (bv 11) ZS)))) (λ_=>rfl))) (Zf (Yf UJ)) WW)) (by intro _;rfl))
 (Zx (XS (i:=12) Sf rfl (Or.inl rfl) (Xx (Kb (K:=K) rfl) T.list N0 (Z5 (Zg (Ym (K:=K) rfl) (bv 8) Zn) ZS)))
 (Zx (wL (bv 12) (YX Xm (Zg (Ym (K:=K) rfl) (bv 1) Zn) (bv 2)) (Xx (Rc (K:=K) rfl) T.tuple SJ (Z5 (YX (V8 (K:=K) rfl) (Zv D_law_parts b (Z5 (Zg (Ym (K:=K) rfl) (Zg (Ym (K:=K) rfl) (bv 8) Zn) (YX Xm (Zg (Ym (K:=K) rfl) (bv 1) Zn) (bv 2))) ZS)) (VM (Z5 (bv 5) ZS))) ZS)) (by intro _;rfl) (by rfl) (by rfl) (by rfl))
 (Zx (Xh (RA (VO (K:=K) rfl (Zv D_law_refused b (Z5 (bv 10) (Z5 (Xx (Rc (K:=K) rfl) T.tuple SJ (Z5 (bv 12) ZS)) (Z5 (Wl (Z5 UJ (Z5 UJ (Z5 (bv 5) ZS)))) ZS)))) (λ_=>rfl))) (Zf (Yf UJ)) WW)
 (Zx (Xh (RA (VO (K:=K) rfl (Zv D_law_refused b (Z5 (bv 10) (Z5 (Xx (Rc (K:=K) rfl) T.tuple SJ (Z5 (Ti (T9 (K:=K) rfl) (bv 12) (U7 Zn) Rn) ZS)) (Z5 (Wl (Z5 UJ (Z5 UJ (Z5 NY ZS)))) ZS)))) (λ_=>rfl))) (Zf (Yf UJ)) WW)
 (Zx (Xh (RA (VO (K:=K) rfl (Zv D_law_refused b (Z5 (bv 10) (Z5 (Xx (Rc (K:=K) rfl) T.tuple SJ (Z5 (YX (V8 (K:=K) rfl) (bv 12) (VM (Z5 (bv 5) ZS))) ZS)) (Z5 (Wl (Z5 UJ (Z5 UJ (Z5 NY ZS)))) ZS)))) (λ_=>rfl))) (Zf (Yf UJ)) WW)
 (Zf (Yf (MV (Zv D_law_right b (Z5 (bv 10) (Z5 (bv 7) (Z5 (Zg (Ym (K:=K) rfl) (bv 8) Zn) ZS)))) (M2 (Le (Sa (K:=K) rfl b.units) (bv 10) (Wl (Z5 (bv 6) (Z5 (bv 2) (Z5 (bv 9) ZS)))) (WN _))))))))))))))))))))))
   case hb1=>(intro m C s H x;refine'⟨Bx.out (Wn (i:=0) oo rfl (Or.inl rfl)),Bx.out T2,Bx.out (Zv D_law_call b (Z5 (bv 0) (Z5 (bv 2) (Z5 (bv 1) ZS))))⟩)
   case hb2=>(intro m C s H x;refine'⟨Bx.out (We (K:=K) (n:=2) rfl rfl (Yd (Wn (i:=0) J9 rfl (Or.inl rfl)) (Yd (Wn (i:=1) J9 rfl (Or.inl rfl)) Wb (by rfl)) (by rfl)) (by rfl) (by rfl)),Bx.out T2,Bx.out (Wl (Z5 (bv 0) (Z5 (Xx (Kb (K:=K) rfl) T.list N0 (Z5 (bv 1) ZS)) ZS)))⟩)
  refine⟨_,rfl,a,l,31,rfl,u,by decide,by decide,λB D G q g r v t=>?_⟩;exact v9 (hT:=g _ _ e) (F:=IH) ((UA (V0 (T8 (UP GE (WV λ_=>VX) (UP Fx (Ld (WV λ_=>VX)) (WV λ_=>VX))))) (UA (V0 Y9) (UA (V0 Y9) (UA (V0 Y9) (UA (V0 Y9) (UA (V0 Y9) (UA (V0 Y9) (UA (V0 Y9) (UA (V0 Y9) (UA (V0 (VY W0 Wj (Vz (Of (UX YS)) Y9 V1))) (UA (V0 Y9) (UA (V0 (qs YS YS)) (UA (OC (LN (LI (LV TQ))) (V0 Y9) (V0 V1)) (UA (OC (LN (LI (LV TQ))) (V0 Y9) (V0 V1)) (UA (OC (LN (LI (LV TQ))) (V0 Y9) (V0 V1)) (V0 Y9))))))))))))))))) (so (n:=11) r) (w1 v (λc h=>(t c h).1)) (λo p=>k o (g.trans p))
end
theorem Md{l:PySem.W.OpenLaw}{w:World}{K:qC}{h:Heap}{a:Str->Option Value}{fa f1 f2 f3 f4 f5 f6 f7 f8 f9 i1 a8 c0 b7 g8 c8 g2 i6 h0 c4 a7 i4 h6 g5 b4 i7 b0 h9 c5 a2 g1 a3 h3 h7 i0 i3 j0:Addr}{e1 e2 e3 e4 e5 e6 e7 e8 e9 g4 h8 d0 c7 i9 h4 g9 i8 c3 a5 c2 h2 i5 b6 a9 g6 g3 c1 b9 i2 c6 h5 a4 c9 g7 j1 h1:Xl}(X:K.In h)(G:h.Ns qy a)(a6:a "law"=some (.ref fa))
  (d1:ZK K "names_of" Aw f1 e1)
  (d2:ZK K "names_in" nG f2 e2)
  (S:ZK K "check_kinds" C4 f3 e3)
  (d4:ZK K "roofs_of" vr f4 e4)
  (d5:ZK K "roof_of" vw f5 e5)
  (d6:ZK K "names_in_call" pW f6 e6)
  (Y:ZK K "check_call" Dy f7 e7)
  (d8:ZK K "roofs_in_call" vf f8 e8)
  (d9:ZK K "fits_under" zt f9 e9)
  (J:ZK K "is_nearer" uU i1 g4)
  (i:ZK K "rules_that_fit" CT a8 h8)
  (A:ZK K "nearest_of" uB c0 d0)
  (t:ZK K "rule_names" uR b7 c7)
  (q:ZK K "answer_by" xr g8 i9)
  (E:ZK K "answer_among" sD c8 h4)
  (f:ZK K "nearest" CO g2 g9)
  (k:ZK K "answer_of" Dp i6 i8)
  (F:ZK K "onward" M3 h0 c3)
  (g:ZK K "chain" Pi c4 a5)
  (j:ZK K "layers" DK a7 c2)
  (N:ZK K "_law_draws" wo i4 h2)
  (B:ZK K "_law_names" wX h6 i5)
  (M:ZK K "_law_web" u7 g5 b6)
  (y:ZK K "_law_up" LF b4 a9)
  (O:ZK K "_law_parts" yu i7 g6)
  (R:ZK K "_law_call" vn b0 g3)
  (I:ZK K "_law_rules" vL h9 c1)
  (z:ZK K "_law_fits" w4 c5 b9)
  (P:ZK K "_law_near" uv a2 i2)
  (r:ZK K "_law_depths" zy g1 c6)
  (u:ZK K "_law_layers" A1 a3 h5)
  (L:ZK K "_law_chain" zp h3 a4)
  (H:ZK K "_law_right" za h7 c9)
  (C:ZK K "_law_told" AE i0 g7)
  (n:ZK K "_law_refused" AA i3 j1)
  (D:ZK K "law" S3 j0 h1)
  {x Q U Z:Addr}{eI:Xl}
  (c:Tp K "NoCall" x)
  (d:Tp K "NoKind" Q)
  (m:Tp K "CallError" U)
  (xz:UW K qy "ValueError"=some none)
  (p:wW K x Z)
  (o:wW K Q Z)
  (xF:Yw K "__init__" "CallError.__init__" (sI (XM 1) 0) Z eI)
  (xs0_B:subIn K (.ref x) (.ref U)=some true)
  (xs0_1:subIn K (.ref x) (.ref Q)=some false)
  (xs1_B:subIn K (.ref Q) (.ref U)=some true)
  (xs1_0:subIn K (.ref Q) (.ref x)=some false)
  (a0:subIn K (.ref U) (.type "BaseException")=some true)
  {cT PT:Addr}(hti:tabIn K "_law_refused"=some (cT,PT))
  (z1:UW K qy "all"=some none)(z2:UW K qy "any"=some none)(z3:UW K qy "dict"=some none)(z4:UW K qy "enumerate"=some none)(z5:UW K qy "isinstance"=some none)(z6:UW K qy "len"=some none)(z7:UW K qy "list"=some none)(z8:UW K qy "min"=some none)(z9:UW K qy "range"=some none)(b8:UW K qy "tuple"=some none)(g0:UW K qy "zip"=some none) :
  ∃fd:Xl,(∀(s:Shared)(v:Value),BindsTo s fd ⟨[v],[]⟩ [("_law_script",v)])/\∀base:Heap,K.In base->base.Ns qy a->BM a base->CodeHd base cT PT->Zu l.prog w K a base Yz 12 fa fd ["_law_script"] (PD K PT (("_law_refused":Str)++".<locals>."++"<lambda>")):=by
 have e:=a6.symm.trans (Ra X G D.ns);cases e;have T:Txt a:=⟨R5 X G z1,R5 X G z2,R5 X G z3,R5 X G z4,R5 X G z5,R5 X G z6,R5 X G z7,R5 X G z8,R5 X G z9,R5 X G b8,R5 X G g0⟩;obtain⟨_,_,q1,q2,q3,q4,q5,q6,_,rfl,_,_⟩:=D.fn.ex;refine⟨Ur "law" "law" (Sn S3) (Vi S3) (YU S3) .none q1 q2 q3 q4 q5 q6,λs v=>.of_eq rfl,λbase _ _ a1 HC=>?_⟩;have xv:=R5 X G xz;obtain⟨b,cl0,cl1,cl2⟩:∃b:Str->Addr,b "NoCall"=x/\b "NoKind"=Q/\b "CallError"=U:=⟨λs=>if s="NoCall"then x else if s="NoKind"then Q else if s="CallError"then U else 0,rfl,rfl,rfl⟩;have X_NoCall:S8 l.prog w K a base "NoCall" (b "NoCall"):=by rw[cl0];exact⟨Z,_,p.mx,Gd xF p.mx xv rfl rfl (by decide) (λ_=>⟨_,rfl⟩),xF.binds (ps:=["self","at"]) (λ_ _ _ _ _ _ us hl=>match us,hl with|[_,_],_=>rfl),Ra X G c.ns,p.cl,JX p.be c.cl c.ty p.se⟩
 have X_NoKind:S8 l.prog w K a base "NoKind" (b "NoKind"):=by rw[cl1];exact⟨Z,_,o.mx,Gd xF o.mx xv rfl rfl (by decide) (λ_=>⟨_,rfl⟩),xF.binds (ps:=["self","at"]) (λ_ _ _ _ _ _ us hl=>match us,hl with|[_,_],_=>rfl),Ra X G d.ns,o.cl,JX o.be d.cl d.ty o.se⟩
 have XK_law_told:L5 l.prog w K a base b ["NoCall","NoKind"] ["NoCall","NoKind"] "CallError":=by
  refine⟨(Ts X_NoCall (Ts X_NoKind Mw)),?_,?_,?_,?_,?_,xv⟩
  ·rw[cl2];exact(Ts (by rw[cl0];exact Hr a0 m.cl m.ty xs0_B) (Ts (by rw[cl1];exact Hr a0 m.cl m.ty xs1_B) Mw))
  ·exact(Ts (Ts (by rw[cl0];exact F7 (IR c.cl c.ty p.se) rfl) (Ts (by rw[cl0,cl1];exact HK (Fh p.se d.cl d.ty xs0_1) (by decide)) Mw)) (Ts (Ts (by rw[cl1,cl0];exact HK (Fh o.se c.cl c.ty xs1_0) (by decide)) (Ts (by rw[cl1];exact F7 (IR d.cl d.ty o.se) rfl) Mw)) Mw))
  ·exact(Ts (by rw[cl0];exact HS p.ve) (Ts (by rw[cl1];exact HS o.ve) Mw))
  ·exact(Ts (by rw[cl0];exact Ra X G c.ns) (Ts (by rw[cl1];exact Ra X G d.ns) Mw))
  ·rw[cl2];exact Ra X G m.ns
 have D_names_of:yC l.prog w K a base:=d1.dn X G (rl d1.fn T ) (d1.b1 λ_ _ _ _ _ _ _=>rfl);have D_names_in:zk l.prog w K a base:=d2.dn X G (nU d2.fn T ) (d2.b1 λ_ _ _ _ _ _ _=>rfl);have D_check_kinds:mC l.prog w K a base:=S.dn X G (hH S.fn T D_names_of) (S.b2 λ_ _ _ _ _ _ _ _=>rfl);have D_roofs_of:FI l.prog w K a base:=d4.dn X G (oa d4.fn T ) (d4.b1 λ_ _ _ _ _ _ _=>rfl);have D_roof_of:Jy l.prog w K a base:=d5.dn X G (pR d5.fn T D_names_in) (d5.b2 λ_ _ _ _ _ _ _ _=>rfl);have D_names_in_call:AC l.prog w K a base:=d6.dn X G (iQ d6.fn T D_names_in) (d6.b1 λ_ _ _ _ _ _ _=>rfl);have D_check_call:lH l.prog w K a base:=Y.dn X G (pG Y.fn T D_check_kinds D_names_in_call) (Y.b3 λ_ _ _ _ _ _ _ _ _=>rfl);have D_roofs_in_call:mm l.prog w K a base:=d8.dn X G (je d8.fn T D_roof_of) (d8.b2 λ_ _ _ _ _ _ _ _=>rfl);have D_fits_under:lC l.prog w K a base:=d9.dn X G (uG d9.fn T ) (d9.b2 λ_ _ _ _ _ _ _ _=>rfl);have D_is_nearer:tV l.prog w K a base:=J.dn X G (pU J.fn T ) (J.b3 λ_ _ _ _ _ _ _ _ _=>rfl);have D_rules_that_fit:Dt l.prog w K a base:=i.dn X G (iG i.fn T D_check_call D_fits_under D_roofs_in_call D_roofs_of) (i.b2 λ_ _ _ _ _ _ _ _=>rfl);have D_nearest_of:C3 l.prog w K a base:=A.dn X G (rL A.fn T D_is_nearer) (A.b2 λ_ _ _ _ _ _ _ _=>rfl);have D_rule_names:Ez l.prog w K a base:=t.dn X G (Ax t.fn T ) (t.b1 λ_ _ _ _ _ _ _=>rfl);have D_answer_by:B5 l.prog w K a base:=q.dn X G (rO q.fn T ) (q.b1 λ_ _ _ _ _ _ _=>rfl);have D_answer_among:k6 l.prog w K a base:=E.dn X G (hU E.fn T D_answer_by D_nearest_of D_rule_names) (E.b2 λ_ _ _ _ _ _ _ _=>rfl);have D_nearest:IX l.prog w K a base:=f.dn X G (va f.fn T D_nearest_of D_roofs_of D_rule_names D_rules_that_fit) (f.b2 λ_ _ _ _ _ _ _ _=>rfl);have D_answer_of:me l.prog w K a base:=k.dn X G (sY k.fn T D_answer_by D_nearest) (k.b2 λ_ _ _ _ _ _ _ _=>rfl);have D_onward:IK l.prog w K a base:=F.dn X G (xR F.fn T D_answer_among D_is_nearer D_roofs_of D_rule_names D_rules_that_fit) (F.b3 λ_ _ _ _ _ _ _ _ _=>rfl);have DT_chain:Jk l.prog w K a base:=g.dn X G (vF g.fn T D_answer_of D_onward) (g.b2 λ_ _ _ _ _ _ _ _=>rfl);have DT_layers:Eo l.prog w K a base:=j.dn X G (uF j.fn T D_nearest_of D_roofs_of D_rule_names D_rules_that_fit) (j.b2 λ_ _ _ _ _ _ _ _=>rfl);have D_law_draws:Dn l.prog w K a base "_law_draws" ["_law_script","_law_many"] 1 (LO K):=N.dn X G (pN N.fn T ) (N.b2 λ_ _ _ _ _ _ _ _=>rfl);have D_law_names:m9 l.prog w K a base:=B.dn X G (uf B.fn T ) (B.b2 λ_ _ _ _ _ _ _ _=>rfl);have D_law_web:Hi l.prog w K a base:=M.dn X G (vR M.fn T ) (M.b2 λ_ _ _ _ _ _ _ _=>rfl);have D_law_up:Fo l.prog w K a base:=y.dn X G (wx y.fn T ) (y.b1 λ_ _ _ _ _ _ _=>rfl);have D_law_parts:De l.prog w K a base:=O.dn X G (zV O.fn T ) (O.b1 λ_ _ _ _ _ _ _=>rfl);have D_law_call:km l.prog w K a base:=R.dn X G (xc R.fn T ) (R.b3 λ_ _ _ _ _ _ _ _ _=>rfl);have D_law_rules:kF l.prog w K a base:=I.dn X G (AM I.fn T D_law_parts) (I.b5 λ_ _ _ _ _ _ _ _ _ _ _=>rfl);have D_law_fits:F3 l.prog w K a base:=z.dn X G (tH z.fn T D_law_parts) (z.b3 λ_ _ _ _ _ _ _ _ _=>rfl);have D_law_near:jV l.prog w K a base:=P.dn X G (y4 P.fn T D_law_fits) (P.b2 λ_ _ _ _ _ _ _ _=>rfl);have D_law_depths:kU l.prog w K a base:=r.dn X G (ou r.fn T D_law_fits) (r.b2 λ_ _ _ _ _ _ _ _=>rfl);have D_law_layers:lw l.prog w K a base:=u.dn X G (ph u.fn T D_law_depths) (u.b2 λ_ _ _ _ _ _ _ _=>rfl);have D_law_chain:kJ l.prog w K a base:=L.dn X G (yJ L.fn T D_law_fits D_law_near) (L.b2 λ_ _ _ _ _ _ _ _=>rfl);have D_law_right:kz l.prog w K a base:=H.dn X G (wB H.fn T D_law_chain D_law_fits D_law_layers DT_chain DT_layers) (H.b3 λ_ _ _ _ _ _ _ _ _=>rfl);have D_law_told:lm l.prog w K a base b:=C.dt X G (oE (cl:=b) C.fn T XK_law_told) (C.b1 λ_ _ _ _ _ _ _=>rfl);have D_check_kinds__X:jK l.prog w K a base b:=S.dx X G (ib (cl:=b) S.fn T D_names_of X_NoKind) (S.b2 λ_ _ _ _ _ _ _ _=>rfl);have D_check_call__X:ly l.prog w K a base b:=Y.dx X G (iz (cl:=b) Y.fn T D_check_kinds__X D_names_in_call X_NoCall) (Y.b3 λ_ _ _ _ _ _ _ _ _=>rfl);have D_rules_that_fit__X:zd l.prog w K a base b:=i.dx X G (ja (cl:=b) i.fn T D_check_call__X) (i.b2 λ_ _ _ _ _ _ _ _=>rfl);have D_nearest__X:nw l.prog w K a base b:=f.dx X G (vU (cl:=b) f.fn T D_rules_that_fit__X) (f.b2 λ_ _ _ _ _ _ _ _=>rfl);have D_answer_of__X:jP l.prog w K a base b:=k.dx X G (ir (cl:=b) k.fn T D_answer_by D_nearest__X) (k.b2 λ_ _ _ _ _ _ _ _=>rfl);have D_chain__X:j8 l.prog w K a base b:=g.dx X G (uh (cl:=b) g.fn T D_answer_of__X) (g.b2 λ_ _ _ _ _ _ _ _=>rfl);have D_layers__X:lK l.prog w K a base b:=j.dx X G (AD (cl:=b) j.fn T D_rules_that_fit__X) (j.b2 λ_ _ _ _ _ _ _ _=>rfl);have D_law_refused:kO l.prog w K a base PT:=n.dn X G (iB (cl:=b) n.fn T D_law_told D_chain__X D_layers__X (n.code X G hti) HC a1) (n.b3 λ_ _ _ _ _ _ _ _ _=>rfl);exact yD D.fn T D_law_call D_law_draws D_law_names D_law_parts D_law_refused D_law_right D_law_rules D_law_up D_law_web
theorem Rx{K:qC}{x:Str}{f c P:Addr}{o e:Value}{d h:Option Addr}{b:Xl}{g a:Array (Option Value)}{vs:Array Value}(h1:UW K qy x=some (some (.ref f)))(h2:K.lookup f=some ⟨o,d,.func b,g⟩)(h3:b.code=.ref c)(h4:K.lookup c=some ⟨e,h,.fields vs,a⟩)(h5:(vs[11]?:Option Value)=some (.ref P)):tabIn K x=some (c,P):=by
 unfold tabIn;simp only[h1,h2,h3,h4,h5]
theorem uH{l:PySem.W.OpenLaw}{q:Program}{a:List Str}{o:(Str->Option Value)->Heap->Prop}{j:World->Heap->Prop}{d dt:DefRec}{K:Params->qC}{g PT:Addr}(p:l.most=some 63)(c:d.params.defaults=[])
  (m:∀(w:World) (h:Heap),j w h->(K w.params).In h)
  (hrec:L2.RO q "_law_refused" dt)(hti:∀w:World,tabIn (K w.params) "_law_refused"=some (g,PT))(hnt:∀w:World,noTabs (K w.params)=true)
  (F:∀(w:World)(b:Str->Option Value)(i:Addr)(h:Heap),(K w.params).In h->h.Ns qy b->b d.name=some (.ref i)->
   ∃e:Xl,(∀(s:Shared)(u:Value),BindsTo s e ⟨[u],[]⟩ [("_law_script",u)])/\∀base:Heap,(K w.params).In base->base.Ns qy b->BM b base->CodeHd base g PT->Zu l.prog w (K w.params) b base Yz 12 i e ["_law_script"] (PD (K w.params) PT (("_law_refused":Str)++".<locals>."++"<lambda>"))) :
  PySem.W.WalkO q a o j l.row.toRowW d [] (λf vs=>PySem.call f vs):=
 L2.RZ (n:=63) (k:=12) (x:="_law_script") p (by decide) c ⟨rfl,by decide,by decide,rfl⟩ m hrec hti hnt F
end Bc
theorem PySem.W.Fast.tw2597084504836104999:True:=trivial
theorem PySem.W.Fast.tw14656962534203740028:True:=trivial
theorem PySem.W.Fast.tw15070038908368245662:True:=trivial
theorem PySem.W.Fast.tw12340053858569264729:True:=trivial
theorem PySem.W.Fast.tw6909859349036985571:True:=trivial
theorem PySem.W.Fast.tw8496020599574987187:True:=trivial
theorem PySem.W.Fast.tw14293339804926905346:True:=trivial
theorem PySem.W.Fast.tw16910979162355305634:True:=trivial
theorem PySem.W.Fast.tw15377761682405375729:True:=trivial
theorem PySem.W.Fast.tw14484221281363565036:True:=trivial
theorem PySem.W.Fast.tw211353701835722122:True:=trivial
open PySem PySem.W PyProof.Rows
set_option maxRecDepth 100000 in
set_option maxHeartbeats 0 in
theorem PySem.Challenge.cw_bestcalls_k20_chains_and_layers_holds : PySem.Challenge.rw_bestcalls_k20_chains_and_layers.Holds := by
 w_on;o_law;k_head;(case hw=>w_witness2)
 k_fill
 refine' Bc.uH (l:=PySem.Challenge.rw_bestcalls_k20_chains_and_layers) rfl rfl (λw h Y=>PySem.W.km_in_of Y) ?hrec ?hti ?hnt ?F
 case hrec=>rfl
 case hti=>intro w;refine' Bc.Rx ?h1 ?h2 ?h3 ?h4 ?h5;(case h1=>k_is);(case h2=>k_is);(case h3=>rfl);(case h4=>k_is);(case h5=>rfl)
 case hnt=>intro w;kernel_rfl
 case F=>
  intro w d c h b G a;refine' Bc.Md b G a ?_ ?_ ?_ ?_ ?_ ?_ ?_ ?_ ?_ ?_ ?_ ?_ ?_ ?_ ?_ ?_ ?_ ?_ ?_ ?_ ?_ ?_ ?_ ?_ ?_ ?_ ?_ ?_ ?_ ?_ ?_ ?_ ?_ ?_ ?_ ?_ ?_ ?_ ?_ ?_ ?_ ?_ ?_ ?_ ?_ ?_ ?_ ?_ ?hti ?_ ?_ ?_ ?_ ?_ ?_ ?_ ?_ ?_ ?_ ?_
  (case hti=>refine' Bc.Rx ?h1 ?h2 ?h3 ?h4 ?h5;(case h1=>k_is);(case h2=>k_is);(case h3=>rfl);(case h4=>k_is);(case h5=>rfl))
  any_goals (first|refine' L2.NG ?_ ?_ ?_ ?_|refine' L2.Np ?_ ?_ ?_|refine' L2.Ni ?_ ?_ ?_ ?_ ?_ ?_ ?_ ?_ ?_ ?_ ?_ ?_ ?_|refine' L2.PV ?_ ?_ ?_)
  any_goals (first|k_is|rfl)
