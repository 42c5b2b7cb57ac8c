import PyProof.Rows.All
import Wide.All
import OpenK.AllK
import Wide.FinOn
import Lean
import PyProof.EqAt
import PyProof.EqKinds
import PyProof.TupleCall
import KE.KRevSl
import PyProof.MeetsStr
import PyProof.Rows.MinMaxN
import PyProof.ListStr
import PyProof.CallStr
import PyProof.StrCalls
import PyProof.Rows.FStr
import PyProof.ReprRoads
import PyProof.FString
import PyProof.FString2
import PyProof.ListRange
import KE.KTryOn
import PyProof.ExcInit
import PyProof.ExcClass3
import PyProof.ExcBaseAll.ValueError
import PyProof.InstStoreFacts
import ObjForm.Fk.InstStore
import PyProof.ExcArgsOwn
import PyProof.ExcAttrAll.ValueError
import PyProof.PureStr
import PyProof.Rows.FactsFmt
import PyProof.FactsAll.NoneType_2
import PyProof.NsDelKeeps
import PyProof.IsiBase
import PyProof.AutoListH
import PyProof.AutoSeq1
import PyProof.DictWalks
import PySem.Challenge.RW_bestcalls_k80_programs_written
set_option genSizeOf false
set_option Elab.async false
set_option linter.all false
set_option maxRecDepth 100000
noncomputable section
open Option renaming bind_eq_some_iff→qA,map_eq_some_iff→qE,bind_some→qQ
open List renaming length_map→qC,length_append→qF,getElem?_set_ne→qG,size_toArray→qJ,mem_cons_of_mem→qL,getElem?_eq_getElem→qN,mem_singleton→qR,mem_cons→qW,length_range→qX,getElem?_map→qa,getElem?_eq_some_iff→qb,length_set→qe,mem_map→ql,map_cons→qm,mem_append_right→qq,map_append→qr,length_cons→qs,getElem?_set_self→qt,getD_eq_getElem?_getD→qx,mem_append→qz,append_nil→q9,getElem?_append_right→qAA,append_assoc→qAD,mem_cons_self→qAE,getElem?_append_left→qAI,mem_append_left→qAK,drop_eq_getElem_cons→qAL,map_map→qAM,all_eq_true→qAO,lookup_cons→qAS,flatten_cons→qAU,length_eq_zero_iff→qAV,getElem?_eq_none_iff→qAZ,drop_length→qAa,not_mem_nil→qAh,mem_of_getElem?→qAj,all_cons→qAk,sum_cons→qAo,getElem?_replicate→qAp,mem_flatMap→qAq,length_take→qAr,nodup_cons→qAt,length_replicate→qAu,map_congr_left→qAx,length_pos_iff→qAy,filterMap_cons→qAz,any_cons→qA3,length_drop→qBA,getElem_mem→qBB,of_mem_zip→qBH,mem_filter→qBI,foldl_cons→qBJ,map_nil→qBY,length_singleton→qBZ,getElem?_eq_none→qBa
open PySem.W renaming Frag→qD,keepIn→qU,nsIn→qV,codeIn→qZ,fnOf→qd,mg_of→qk,mg_none_of→qAF,kia_one→qAJ,cellsFrom_some→qBO,kitx_list→qBc,kitx_dict→qBd
open Nat renaming lt_of_lt_of_le→qH,le_refl→qI,le_trans→qf,zero_le→qAR,ne_of_lt→qAT,lt_irrefl→qAW,mul_le_mul_right→qAv,eq_zero_or_pos→qA5,le_succ_of_le→qA7,le_of_succ_le→qA8,succ_le_succ→qBD,add_sub_cancel_left→qBV,le_of_lt→qBe
open Bool renaming false_ne_true→qK,and_eq_true→qy,eq_iff_iff→qAl,false_eq_true→qA4,or_eq_true_iff→qBj
open PySem.F renaming plainAttrs_list→qM,type_list_append→qS,slot_list_append→qT,plainAttrs_str→qY,type_str_join→qi,slot_str_join→qj,type_list_extend→qBE,slot_list_extend→qBF,args_tuple_add_2→qBG,entry_tuple_add→qBN,slot_tuple_add→qBP
open PySem renaming mainGlobals→qO,Expr→qP,sizeLine→qc,wpAny_bind→qo,Pos→qp,FuncData→qw,mem_of_lookup→q4,starEach→qAB,wpAny_pure→qAG,wpAny_Call_Name_kw→qAY,wpAny_standAt→qAd,wpAny_getItem_str_slice→qAe,strLen_append→qAf,sizeLine_eq→qAi,wpAny_passesOwn→qAm,codeAny_mono→qAn,post_val_or_str→qA0,wpAny_holding→qBC,wpAny_truthy_bool→qBL,typeIs_str→qBM,wpAny_execs_nil→qBT,seqIndex_of→qBU,wpAny_mono→qBf,wpAny_comprehension_free→qBg,call_meets→qBh
open PySem.Heap renaming get?_push_of_some→qg,lt_size→qh,get?_push_size→qAQ,size_push→qBQ,get?_update_other→qBW
open Option.some renaming inj→qu
open PySem.PassesOwn renaming never→qv
open PySem.Str renaming ofString→qAC,ofString_eq_toList→qAs
open Int renaming emod_lt_of_pos→qAH,emod_nonneg→qAN
open PySem.PyData renaming eqv→qAP,canLayAll0→qAX,depthAll→qA9
open Array renaming length_toList→qAb,getElem?_toList→qBX,mem_toList_iff→qBb
open PySem.SeqAt renaming canLay_of_shaped→qAc,shaped→qAg
open PyProof.Rows renaming callWith_type1→qAw
open PySem.Calls renaming spliced_cons→qA1,spliced_nil→qA6,Name_function_global→qBK,Constant_str→qBi
open Ne renaming symm→qA2
open PySem.SeqAt.EqAt renaming str_int→qBR,int_str→qBS
namespace L2
open PySem PySem.Spec PyProof.Rows
noncomputable abbrev Key:=Sum Int Str
noncomputable def zagt:Key->Value->Bool
 | .inl k,v=>Value.isInt k v
 | .inr x,v=>Value.isStrOf x v
noncomputable def keyH(w:World):Key->Int
 | .inl k=>hashInt k
 | .inr x=>hashStr w x
theorem zcu:∀{k:Key}{v:Value},zagt k v=true->(∃i t,k=Sum.inl i/\v=Value.int i t)\/(∃x t,k=Sum.inr x/\v=Value.str x t)
 | .inl i,v,h=>by
  obtain⟨t,e⟩:=Value.isInt_shape (k:=i) (v:=v) h
  exact .inl ⟨i,t,rfl,e⟩
 | .inr x,v,h=>by
  obtain⟨t,e⟩:=Value.isStrOf_shape (x:=x) (v:=v) h
  exact .inr ⟨x,t,rfl,e⟩
theorem zagu(a b:Int):decide ((Sum.inl a:Key)=Sum.inl b)=(a==b):=by
 by_cases e:a=b
 ·subst e;simp
 ·have h:¬(Sum.inl a:Key)=Sum.inl b:=λq=>e (Sum.inl.inj q)
  rw[decide_eq_false h]
  exact(beq_eq_false_iff_ne.mpr e).symm
theorem zagv(a b:Str):decide ((Sum.inr a:Key)=Sum.inr b)=decide (a=b):=by
 by_cases e:a=b
 ·subst e;simp
 ·have h:¬(Sum.inr a:Key)=Sum.inr b:=λq=>e (Sum.inr.inj q)
  rw[decide_eq_false h,decide_eq_false e]
theorem zagw(a:Int)(b:Str):decide ((Sum.inl a:Key)=Sum.inr b)=false:=decide_eq_false (λq=>nomatch q)
theorem zagx(a:Str)(b:Int):decide ((Sum.inr a:Key)=Sum.inl b)=false:=decide_eq_false (λq=>nomatch q)
noncomputable def ztz(prog:Program)(w:World):PySem.KeyKind prog w Key where
 is:=zagt
 hash:=keyH w
 inj:=λv a b ha hb=>by
  rcases zcu ha with⟨i,t,rfl,rfl⟩|⟨x,t,rfl,rfl⟩
  ·rcases zcu hb with⟨j,u,rfl,e⟩|⟨y,u,rfl,e⟩
   ·injection e with e1 _;rw[e1]
   ·exact nomatch e
  ·rcases zcu hb with⟨j,u,rfl,e⟩|⟨y,u,rfl,e⟩
   ·exact nomatch e
   ·injection e with e1 _;rw[e1]
 byValue:=λk v h=>by
  rcases zcu h with⟨i,t,rfl,rfl⟩|⟨x,t,rfl,rfl⟩<;>rfl
 pyHash:=λhv h=>by
  rcases zcu hv with⟨i,t,rfl,rfl⟩|⟨x,t,rfl,rfl⟩
  ·exact wpAny_pyHash_int h
  ·exact wpAny_pyHash_str h
 eqBool:=λhu hv h=>by
  rcases zcu hu with⟨i,t,rfl,rfl⟩|⟨x,t,rfl,rfl⟩
  ·rcases zcu hv with⟨j,u,rfl,rfl⟩|⟨y,u,rfl,rfl⟩
   ·rw[zagu]at h;exact wpAny_eqBool_int h
   ·rw[zagw]at h;exact qBS i t y u _ _ _ _ h
  ·rcases zcu hv with⟨j,u,rfl,rfl⟩|⟨y,u,rfl,rfl⟩
   ·rw[zagx]at h;exact qBR x t j u _ _ _ _ h
   ·rw[zagv]at h;exact wpAny_eqBool_str h
 «strs»:=λk x t v h=>by
  rcases zcu h with⟨i,u,rfl,e⟩|⟨y,u,rfl,e⟩
  ·exact nomatch e
  ·injection e with e1 _
   subst e1
   cases v<;>rfl
inductive V where
 | non|bl (b:Bool)|int (i:Int)|str (x:Str)|byt (b:Array UInt8)|flt (b:UInt64)|ref (a:Addr)|ty (n:String)
 deriving DecidableEq
noncomputable def RelV:V->Value->Prop
 | .non,u=>u=Value.none
 | .bl b,u=>u=Value.bool b
 | .int i,u=>∃t,u=Value.int i t
 | .str x,u=>∃t,u=Value.str x t
 | .byt b,u=>∃t,u=Value.bytes b t
 | .flt b,u=>∃t,u=Value.float b t
 | .ref a,u=>u=Value.ref a
 | .ty n,u=>u=Value.type n
noncomputable abbrev Vals:List V->List Value->Prop:=Paired RelV
theorem Vals.length{xs:List V}{us:List Value}(r:Vals xs us):xs.length=us.length:=Paired.length r
theorem Vals.get:∀{xs:List V}{us:List Value}{i:Nat}{x:V},Vals xs us->xs[i]?=some x->∃u,us[i]?=some u/\RelV x u
 | _,_,_,_,.nil,e=>by simp at e
 | _,_,0,_,.cons r _,e=>by simp at e;subst e;exact⟨_,rfl,r⟩
 | _,_,i+1,x,.cons _ t,e=>by
  obtain⟨u,h1,h2⟩:=Vals.get (i:=i) (x:=x) t (by simpa using e)
  exact⟨u,by simpa using h1,h2⟩
theorem Vals.set{x:V}{u:Value}(r:RelV x u):∀{xs:List V}{us:List Value}(i:Nat),Vals xs us->Vals (xs.set i x) (us.set i u)
 | _,_,_,.nil=>.nil
 | _,_,0,.cons _ t=>.cons r t
 | _,_,i+1,.cons q t=>.cons q (Vals.set r i t)
theorem Vals.append:∀{xs ys:List V}{us ws:List Value},Vals xs us->Vals ys ws->Vals (xs++ys) (us++ws)
 | _,_,_,_,.nil,s=>s
 | _,_,_,_,.cons r t,s=>.cons r (Vals.append t s)
theorem Vals.take:∀{xs:List V}{us:List Value}(n:Nat),Vals xs us->Vals (xs.take n) (us.take n)
 | _,_,0,_=>.nil
 | _,_,_+1,.nil=>.nil
 | _,_,n+1,.cons r t=>.cons r (Vals.take n t)
theorem Vals.drop:∀{xs:List V}{us:List Value}(n:Nat),Vals xs us->Vals (xs.drop n) (us.drop n)
 | _,_,0,r=>r
 | _,_,_+1,.nil=>.nil
 | _,_,n+1,.cons _ t=>Vals.drop n t
theorem Vals.none_of:∀{xs:List V}{us:List Value}{i:Nat},Vals xs us->xs[i]?=none->us[i]?=none:=λ{xs us i} r e=>by
 have h1:=r.length
 have h2:xs.length<=i:=qAZ.mp e
 exact qAZ.mpr (by omega)
noncomputable def RelO:Option V->Option Value->Prop
 | some v,some u=>RelV v u
 | none,none=>True
 | _,_=>False
noncomputable def KV{κ:Type}:List (κ×V)->List (κ×Value)->Prop:=Paired λ(p:κ×V)(q:κ×Value)=>p.1=q.1/\RelV p.2 q.2
noncomputable def kV:Key->V
 | .inl i=>.int i
 | .inr x=>.str x
inductive HO where
  | lst (xs:List V)
  | tup (xs:List V)
  | dK (kvs:List (Key×V))|dT (kvs:List (List Key×V))
  | set (S:Int->Bool) (n:Nat)
  | ins (C dx:Addr) (fs:List (Str×V))
  | own (x:Addr)
  | xd (fs:List (Str×V))
  | met (f x:Addr)
  | rng (lo hi:Int)
  | frz (o:Obj) (u:HO)
  | tbl (ps:Array Value)
  | ext (φ:Heap->Prop)
noncomputable abbrev Hp:=Addr->Option HO
noncomputable def upd(H:Hp)(a:Addr)(o:HO):Hp:=λb=>if b=a then some o else H b
theorem zbk{H:Hp}{a:Addr}{o:HO}:upd H a o a=some o:=by unfold upd;rw[if_pos rfl]
theorem zbs{H:Hp}{a b:Addr}{o:HO}(h:b≠a):upd H a o b=H b:=by unfold upd;rw[if_neg h]
theorem zek{H:Hp}{a b:Addr}{o:HO}(h:H a=some o)(h':H b=none):a≠b:=by
 intro e;subst e;rw[h]at h';cases h'
section
variable(P:Program)(w:World)
noncomputable def zhj(H:Hp)(h:Heap)(a:Addr):HO->Prop
 | .lst xs=>xs.length<=qc/\∃(its:List Value)(n:Nat),Vals xs its/\h.get? a=some {cls:=.type "list",data:=.seq its.toArray n}
 | .tup xs=>xs.length<=qc/\∃its:List Value,Vals xs its/\IsTup h a its.toArray
 | .dK kvs=>kvs.length<=qc/\(a==sysModules)=false/\∃vs,KV kvs vs/\h.DictOf (ztz P w) a vs
 | .dT kvs=>kvs.length<=qc/\(a==sysModules)=false/\∃xs:List (List Key×Addr×Value),
   Paired (λ(p:List Key×V)(q:List Key×Addr×Value)=>p.1=q.1/\H q.2.1=some (.tup (p.1.map kV))/\RelV p.2 q.2.2) kvs xs/\
   ∃o es ep,h.get? a=some o/\o.ExactDict/\o.data=.dict es ep/\es.toList=xs.map (entryOfKey (tupleKind (ztz P w)))/\(xs.map (·.1)).Nodup
 | .set S n=>h.SetOf (intKind P w) a S n
 | .ins C dx fs=>H dx=some (.own a)/\fs.length<=1000/\dx≠a/\h.get? a=some (PySem.W.instObj C dx)/\
   ∃mA,h.Ns1 dx mA/\(∀f,RelO (fs.lookup f) (mA f))/\PySem.Within mA (fs.map (·.1))
 | .own _=>∃o,h.get? a=some o
 | .xd fs=>∃mA,h.Ns1 a mA/\∀f,RelO (fs.lookup f) (mA f)
 | .rng lo hi=>∃t u v,h.get? a=some {cls:=.type "range",data:=.fields #[.int lo t,.int hi u,.int 1 v]}
 | .frz o u=>h.get? a=some o/\zhj H h a u
 | .tbl ps=>h.get? a=some {cls:=.none,data:=.fields ps}
 | .met f x=>h.get? a=some (PySem.W.methodObj (.ref f) (.ref x))
 | .ext φ=>φ h/\(∃o,h.get? a=some o)/\∀h1 h2:Heap,φ h1->(∀o,h1.get? a=some o->h2.get? a=some o)->φ h2
noncomputable def HOk(H:Hp)(h:Heap):Prop:=∀a o,H a=some o->zhj P w H h a o
end
section
variable{P:Program}{w:World}{H H':Hp}{h h':Heap}{a:Addr}{o:HO}
theorem zhj.lt(x:zhj P w H h a o):a<h.objs.size:=by
 cases o with
 | lst xs=>obtain⟨_,_,_,_,e⟩:=x;exact qh e
 | tup xs=>obtain⟨_,_,_,p⟩:=x;exact p.lt
 | dK kvs=>obtain⟨_,_,_,_,o,_,_,e,_⟩:=x;exact qh e
 | dT kvs=>obtain⟨_,_,_,_,o,_,_,e,_⟩:=x;exact qh e
 | set S n=>obtain⟨o,_,_,_,e,_⟩:=x;exact qh e
 | ins C dx fs=>obtain⟨_,_,_,e,_⟩:=x;exact qh e
 | own y=>obtain⟨_,e⟩:=x;exact qh e
 | xd fs=>obtain⟨_,⟨_,_,_,e,_⟩,_⟩:=x;exact qh e
 | rng lo hi=>obtain⟨_,_,_,e⟩:=x;exact qh e
 | frz ob u=>obtain⟨e,_⟩:=x;exact qh e
 | tbl ps=>exact qh (show h.get? a=some _ from x)
 | met f y=>exact qh (show h.get? a=some _ from x)
 | ext φ=>obtain⟨_,⟨_,e⟩,_⟩:=x;exact qh e
theorem Paired.mapP{α β:Type}{F G:α->β->Prop}:∀{l₁:List α}{l₂:List β},Paired F l₁ l₂->(∀a b,F a b->G a b)->Paired G l₁ l₂
 | _,_,.nil,_=>.nil
 | _,_,.cons r t,f=>.cons (f _ _ r) (Paired.mapP t f)
theorem zhj.stay(x:zhj P w H h a o)(k:∀b u,(b=a\/H b=some (.own a))->h.get? b=some u->h'.get? b=some u)
  (ho:∀b,H b=some (.own a)->H' b=some (.own a))(ht:∀b xs,H b=some (.tup xs)->H' b=some (.tup xs)):zhj P w H' h' a o:=by
 induction o with
 | lst xs=>obtain⟨z,its,n,r,e⟩:=x;exact⟨z,its,n,r,k _ _ (.inl rfl) e⟩
 | tup xs=>obtain⟨z,its,r,ob,e,c⟩:=x;exact⟨z,its,r,ob,k _ _ (.inl rfl) e,c⟩
 | dK kvs=>obtain⟨z,y,vs,r,ob,es,ep,e,c⟩:=x;exact⟨z,y,vs,r,ob,es,ep,k _ _ (.inl rfl) e,c⟩
 | dT kvs=>
  obtain⟨z,y,xs,r,ob,es,ep,e,c⟩:=x
  exact⟨z,y,xs,Paired.mapP r λp q z=>⟨z.1,ht _ _ z.2.1,z.2.2⟩,ob,es,ep,k _ _ (.inl rfl) e,c⟩
 | set S n=>obtain⟨ob,es,ep,t,e,c⟩:=x;exact⟨ob,es,ep,t,k _ _ (.inl rfl) e,c⟩
 | ins C dx fs=>
  obtain⟨d,z,ne,e,mA,⟨od,es,ep,e2,c⟩,r⟩:=x
  exact⟨ho _ d,z,ne,k _ _ (.inl rfl) e,mA,⟨od,es,ep,k _ _ (.inr d) e2,c⟩,r⟩
 | own y=>obtain⟨ob,e⟩:=x;exact⟨ob,k _ _ (.inl rfl) e⟩
 | xd fs=>obtain⟨mA,⟨od,es,ep,e,c⟩,r⟩:=x;exact⟨mA,⟨od,es,ep,k _ _ (.inl rfl) e,c⟩,r⟩
 | rng lo hi=>obtain⟨t,u,v,e⟩:=x;exact⟨t,u,v,k _ _ (.inl rfl) e⟩
 | frz ob u ih=>obtain⟨e,q⟩:=x;exact⟨k _ _ (.inl rfl) e,ih q⟩
 | tbl ps=>
  have e:h.get? a=some {cls:=.none,data:=.fields ps}:=x
  show h'.get? a=some {cls:=.none,data:=.fields ps}
  exact k a _ (.inl rfl) e
 | met f y=>
  have e:h.get? a=some (PySem.W.methodObj (.ref f) (.ref y)):=x
  show h'.get? a=some (PySem.W.methodObj (.ref f) (.ref y))
  exact k a _ (.inl rfl) e
 | ext φ=>obtain⟨p,⟨o,e⟩,st⟩:=x;exact⟨st _ _ p λo q=>k _ _ (.inl rfl) q,⟨o,k _ _ (.inl rfl) e⟩,st⟩
theorem HOk.lt(x:HOk P w H h)(e:H a=some o):a<h.objs.size:=(x a o e).lt
theorem HOk.fresh(x:HOk P w H h)(e:h.objs.size<=a):H a=none:=by
 cases q:H a with
 | none=>rfl
 | some u=>exact absurd (qH (x.lt q) e) (qAW _)
theorem HOk.kept(x:HOk P w H h)(k:∀b u,h.get? b=some u->h'.get? b=some u):HOk P w H h':=λa o e=>
 (x a o e).stay (λb u _ q=>k b u q) (λ_ q=>q) λ_ _ q=>q
theorem HOk.laid(x:HOk P w H h)(k:∀b u,h.get? b=some u->h'.get? b=some u)(hp:h.objs.size<=a)(new:zhj P w (upd H a o) h' a o):HOk P w (upd H a o) h':=λb u e=>by
 have hn:=x.fresh hp
 by_cases hb:b=a
 ·subst hb;rw[zbk]at e;cases e;exact new
 ·rw[zbs hb]at e
  exact(x b u e).stay (λc v _ q=>k c v q) (λc q=>by rw[zbs (zek q hn)];exact q) λc xs q=>by rw[zbs (zek q hn)];exact q
end
noncomputable def Rd(H:Hp)(a:Addr)(u:HO):Prop:=H a=some u\/∃o,H a=some (.frz o u)
theorem Rd.ok{P:Program}{w:World}{H:Hp}{h:Heap}{a:Addr}{u:HO}(r:Rd H a u)(x:HOk P w H h):zhj P w H h a u:=by
 rcases r with r|⟨o,r⟩
 ·exact x a u r
 ·obtain⟨_,q⟩:=x a _ r
  exact q
noncomputable def Mut:Option HO->Prop
 | some (.lst _)=>True
 | some (.dK _)=>True
 | some (.dT _)=>True
 | some (.set _ _)=>True
 | some (.ins _ _ _)=>True
 | some (.ext _)=>True
 | _=>False
section
variable{P:Program}{w:World}{H:Hp}{h h':Heap}{x e:Addr}{o':HO}
theorem HOk.write(ok:HOk P w H h)(mu:Mut (H x))(he:e=x\/H e=some (.own x))(k:∀b u,b≠e->h.get? b=some u->h'.get? b=some u)(heo:∃u,h'.get? e=some u)
  (new:zhj P w (upd H x o') h' x o'):HOk P w (upd H x o') h':=λb u q=>by
 have nown:∀c y,H c=some (.own y)->c≠x:=λc y r z=>by subst z;rw[r]at mu;exact mu
 have ntup:∀c xs,H c=some (.tup xs)->c≠x:=λc xs r z=>by subst z;rw[r]at mu;exact mu
 by_cases hb:b=x
 ·subst hb;rw[zbk]at q;cases q;exact new
 ·rw[zbs hb]at q
  by_cases hbe:b=e
  ·have q':H b=some (.own x):=by
    rcases he with z|z
    ·exact absurd (hbe.trans z) hb
    ·rw[hbe];exact z
   rw[q]at q';cases q'
   obtain⟨v,hv⟩:=heo
   exact⟨v,by rw[hbe];exact hv⟩
  ·refine(ok b u q).stay (λc v hc r=>k c v ?_ r) (λc r=>by rw[zbs (nown c b r)];exact r) λc xs r=>by rw[zbs (ntup c xs r)];exact r
   rcases hc with rfl|hc
   ·exact hbe
   ·rintro rfl
    rcases he with z|z
    ·exact nown c b hc z
    ·rw[hc]at z;cases z;exact hb rfl
end
set_option genInjectivity false in
structure Un(fs ex:List Addr)(H H':Hp)(h h':Heap):Prop where
 keep:∀b o,h.get? b=some o->H b=none->b∉fs->b∉ex->h'.get? b=some o
 slot:∀b o,h.get? b=some o->H b=none->b∈fs->b∉ex->∃sl,h'.get? b=some {o with slots:=sl}
 free:∀b o,h.get? b=some o->H b=none->b∉ex->H' b=none
 there:∀b o,h.get? b=some o->b∉ex->∃o',h'.get? b=some o'
 tups:∀b xs,H b=some (.tup xs)->H' b=some (.tup xs)
 frzs:∀b o u,H b=some (.frz o u)->H' b=some (.frz o u)
 tbls:∀b ps,H b=some (.tbl ps)->∃more,H' b=some (.tbl (ps++more))
section
variable{fs fs' ex ex':List Addr}{H H1 H2:Hp}{h h1 h2 h':Heap}{a x e:Addr}{o:HO}
theorem Un.any(u:Un fs ex H H1 h h1){b:Addr}{ob:Obj}(q:h.get? b=some ob)(n:H b=none)(hx:b∉ex):∃sl,h1.get? b=some {ob with slots:=sl}:=by
 by_cases hb:b∈fs
 ·exact u.slot b ob q n hb hx
 ·exact⟨ob.slots,u.keep b ob q n hb hx⟩
theorem Un.kept(k:∀b u,h.get? b=some u->h'.get? b=some u):Un fs ex H H h h':=
 ⟨λb ob q _ _ _=>k b ob q,λb ob q _ _ _=>⟨ob.slots,k b ob q⟩,λ_ _ _ n _=>n,λb ob q _=>⟨ob,k b ob q⟩,λ_ _ q=>q,λ_ _ _ q=>q,λ_ ps q=>⟨#[],by rw[q];simp⟩⟩
theorem Un.refl:Un fs ex H H h h:=Un.kept λ_ _ q=>q
theorem Un.laid(k:∀b u,h.get? b=some u->h'.get? b=some u)(hp:h.objs.size<=a)(hn:H a=none):Un fs ex H (upd H a o) h h' where
 keep:=λb u q _ _ _=>k b u q
 slot:=λb u q _ _ _=>⟨u.slots,k b u q⟩
 free:=λb u q n _=>by rw[zbs (qAT (qH (qh q) hp))];exact n
 there:=λb u q _=>⟨u,k b u q⟩
 tups:=λb xs q=>by rw[zbs (zek q hn)];exact q
 frzs:=λb u xs q=>by rw[zbs (zek q hn)];exact q
 tbls:=λb ps q=>⟨#[],by rw[zbs (zek q hn),q];simp⟩
theorem Un.write(mu:Mut (H x))(he:e=x\/H e=some (.own x))(k:∀b u,b≠e->h.get? b=some u->h'.get? b=some u)(heo:∃u,h'.get? e=some u):Un fs ex H (upd H x o) h h':=by
 have hx:∀b,H b=none->b≠x:=λb n z=>by subst z;rw[n]at mu;exact mu
 have hb:∀b,H b=none->b≠e:=λb n z=>by
  subst z
  rcases he with r|r
  ·exact hx b n r
  ·rw[n]at r;cases r
 have hm:∀b u,H b=some u->¬Mut (some u)->b≠x:=λb u q nm z=>by subst z;rw[q]at mu;exact nm mu
 refine⟨λb u q n _ _=>k b u (hb b n) q,λb u q n _ _=>⟨u.slots,k b u (hb b n) q⟩,λb u q n _=>by rw[zbs (hx b n)];exact n,λb u q _=>?_,
  λb xs q=>by rw[zbs (hm b _ q λz=>z)];exact q,λb u xs q=>by rw[zbs (hm b _ q λz=>z)];exact q,λb ps q=>⟨#[],by rw[zbs (hm b _ q λz=>z),q];simp⟩⟩
 by_cases hbe:b=e
 ·subst hbe;exact heo
 ·exact⟨u,k b u hbe q⟩
end
noncomputable def trk(h:Heap)(H:Hp):List Addr:=(List.range h.objs.size).filter λa=>(H a).isSome
noncomputable def hidT(h:Heap)(H:Hp):Heap:=PySem.W.hideAll h (trk h H)
theorem zxv(h:Heap)(H:Hp):(hidT h H).objs.size=h.objs.size:=PySem.W.hideAll_size _ _
theorem zaav{h:Heap}{H:Hp}{b:Addr}{o:Obj}(e:h.get? b=some o)(n:H b=none):(hidT h H).get? b=some o:=
 PySem.W.hideAll_get _ e λhm=>by
  have q:(H b).isSome=true:=(qBI.mp hm).2
  rw[n]at q;simp at q
theorem zadu{h:Heap}{H:Hp}{b:Addr}{o:Obj}(e:(hidT h H).get? b=some o):h.get? b=some o/\H b=none:=by
 have e':h.get? b=some o:=PySem.W.of_hideAll (trk h H) e
 refine⟨e',?_⟩
 cases q:H b with
 | none=>rfl
 | some x=>
  have hm:b∈trk h H:=qBI.mpr ⟨List.mem_range.mpr (qh e'),by simp[q]⟩
  have z:(hidT h H).get? b=none:=PySem.W.hideAll_none (trk h H) hm
  rw[z]at e;cases e
set_option genInjectivity false in
structure Mod(K:qD)(mg:Str->Option Value)(base:Heap):Prop where
 kin:K.In base
 glob:base.Ns qO mg
 blt:∃mb,base.Ns builtinsNs mb/\∀x:Str,x≠"__name__"->mb x=bootBuiltins x
 nolimit:base.NoLimit
set_option genInjectivity false in
structure Cx where
 prog:Program
 w:World
 K:qD
 mg:Str->Option Value
 base:Heap
 A:Around
 N:List Str
 s₀:Shared
 H₀:Hp
 env:Env
 outer:List Env
 stack:List Env
 ex:List Addr
 fn:Str->Bool
 calm:Bool
 pn:List (Addr×Obj)
 xe:Value->Shared->Prop
noncomputable def frs(l:List Env):List Addr:=l.filterMap (·.frame)
noncomputable abbrev Cx.fs(X:Cx):List Addr:=frs X.outer
noncomputable def Vis(sc:Scope)(x:Str):Prop:=sc.names.lookup x=some .local\/sc.names.lookup x=some .cell\/sc.names.lookup x=some .free
noncomputable def visB(sc:Scope)(x:Str):Bool:=match sc.names.lookup x with
 | some .local=>true
 | some .cell=>true
 | some .free=>true
 | _=>false
theorem visB.of{sc:Scope}{x:Str}(h:visB sc x=true):Vis sc x:=by
 unfold visB at h
 cases e:sc.names.lookup x with
 | none=>rw[e]at h;cases h
 | some k=>rw[e]at h;cases k<;>first|exact .inl e|exact .inr (.inl e)|exact .inr (.inr e)|cases h
noncomputable def Loc(sc:Scope)(x:Str):Prop:=sc.names.lookup x=some .local\/sc.names.lookup x=some .cell
noncomputable def Look(env:Env)(h:Heap)(m:Str->Option Value)(x:Str)(u:Value):Prop:=
 (env.kindOf x=some .local/\m x=some u)\/((env.kindOf x=some .cell\/env.kindOf x=some .free)/\∃c,env.cells.lookup x=some c/\h.IsCell c (some u))
set_option genInjectivity false in
structure Cx.Ok(X:Cx):Prop where
 mod:Mod X.K X.mg X.base
 kind:X.env.scope.kind=.function
 glob:X.env.globals=qO
 blt:X.env.builtins=builtinsNs
 above:X.s₀.heap.objs.size<=X.env.locals
 inj:∀x y c,X.env.cells.lookup x=some c->X.env.cells.lookup y=some c->x=y
 has:∀x,(X.env.kindOf x=some .cell\/X.env.kindOf x=some .free)->∃c,X.env.cells.lookup x=some c
 cab:∀x c,X.fn x=true->X.env.cells.lookup x=some c->X.s₀.heap.objs.size<=c
 hd:X.calm=true->X.A.handled=none
 frames:X.A.frames=some X.stack
 stk:X.stack=X.outer\/(X.stack=X.env::X.outer/\X.env.frame=some X.env.locals)
 exf:∀b∈X.ex,b≠X.env.locals/\∀x c,X.env.cells.lookup x=some c->c≠b
 bs:∀b o,X.base.get? b=some o->X.s₀.heap.get? b=some o/\X.H₀ b=none
 bsz:X.base.objs.size<=X.s₀.heap.objs.size
 noex:∀b o,X.base.get? b=some o->b∉X.ex
 exfs:∀b∈X.ex,b∉X.fs
 funs:X.s₀.heap.FunFrames X.base X.outer
 frf:∀b∈X.fs,X.H₀ b=none
set_option genInjectivity false in
structure Inv(X:Cx)(pins:List (Addr×Obj))(σ:List (Option V))(H:Hp)(s:Shared):Prop where
 ok:X.Ok
 os:s.os=X.s₀.os
 bare:AllBare s.gens
 base:Un X.fs X.ex X.H₀ H X.s₀.heap s.heap
 loc:∃m,s.heap.Ns X.env.locals m/\∀(i:Nat)(x:Str)(v:V),X.N[i]?=some x->σ[i]?=some (some v)->Vis X.env.scope x->∃u,RelV v u/\Look X.env s.heap m x u
 cell:∀x c,X.env.cells.lookup x=some c->∃v,s.heap.IsCell c v
 free:H X.env.locals=none
 freeC:∀x c,X.env.cells.lookup x=some c->H c=none
 pin:∀p∈X.pn++pins,s.heap.get? p.1=some p.2/\H p.1=none/\p.1≠X.env.locals/\p.1∉X.fs/\∀v,p.2.data≠.cell v
 hok:HOk X.prog X.w H s.heap
 len:σ.length=X.N.length
section
variable{X:Cx}{pins:List (Addr×Obj)}{σ:List (Option V)}{H H':Hp}{s:Shared}{h':Heap}
theorem Cx.Ok.nofr(ok:X.Ok){b:Addr}{o:Obj}(e:X.base.get? b=some o):b∉X.fs:=λhb=>by
 have:=(ok.funs.mem hb).1
 rw[e]at this;cases this
theorem Inv.bs(I:Inv X pins σ H s):∀b o,X.base.get? b=some o->s.heap.get? b=some o/\H b=none:=λb o e=>
 ⟨I.base.keep b o (I.ok.bs b o e).1 (I.ok.bs b o e).2 (I.ok.nofr e) (I.ok.noex b o e),I.base.free b o (I.ok.bs b o e).1 (I.ok.bs b o e).2 (I.ok.noex b o e)⟩
theorem Inv.bk(I:Inv X pins σ H s):∀b o,X.base.get? b=some o->s.heap.get? b=some o:=λb o e=>(I.bs b o e).1
theorem Inv.mod(I:Inv X pins σ H s):Mod X.K X.mg X.base:=I.ok.mod
theorem Inv.kIn(I:Inv X pins σ H s):X.K.In s.heap:=I.ok.mod.kin.keeps I.bk
theorem Inv.lt(I:Inv X pins σ H s):X.env.locals<s.heap.objs.size:=let⟨_,hn,_⟩:=I.loc;hn.lt
theorem Inv.sz(I:Inv X pins σ H s):X.s₀.heap.objs.size<=s.heap.objs.size:=qf I.ok.above (qBe I.lt)
theorem Inv.nofs(I:Inv X pins σ H s){a:Addr}(h:s.heap.objs.size<=a):a∉X.fs:=λhb=>by
 obtain⟨_,o,ho,_⟩:=I.ok.funs.mem hb
 exact absurd (qH (qh ho) (qf I.sz h)) (qAW _)
theorem Inv.cne(I:Inv X pins σ H s):∀x c,X.env.cells.lookup x=some c->c≠X.env.locals:=λx c e z=>by
 obtain⟨v,o,ho,hd⟩:=I.cell x c e
 obtain⟨m,⟨o',es,ep,ho',hd',_⟩,_⟩:=I.loc
 rw[z,ho']at ho;cases ho;rw[hd']at hd;cases hd
theorem Inv.funs(I:Inv X pins σ H s):s.heap.FunFrames X.base X.outer:=by
 have all:∀(l:List Env),(∀b∈frs l,b∈X.fs)->X.s₀.heap.FunFrames X.base l->s.heap.FunFrames X.base l:=by
  intro l
  induction l with
  | nil=>intro _ _;trivial
  | cons env r ih=>
   intro hs hl
   obtain⟨hk,⟨L,o,hf,hn,ho,hd⟩,hr⟩:=hl
   have hL:L∈X.fs:=hs L (by unfold frs;rw[qAz,hf];exact qAE)
   obtain⟨sl,e⟩:=I.base.slot L o ho (I.ok.frf L hL) hL λz=>I.ok.exfs L z hL
   exact⟨hk,⟨L,_,hf,hn,e,hd⟩,ih (λb hb=>hs b (by unfold frs;rw[qAz,hf];exact qL _ hb)) hr⟩
 exact all X.outer (λ_ hb=>hb) I.ok.funs
theorem Inv.stack(I:Inv X pins σ H s):s.heap.FunFrames X.base X.stack:=by
 rcases I.ok.stk with e|⟨e,hf⟩
 ·rw[e];exact I.funs
 ·rw[e]
  obtain⟨m,hn,_⟩:=I.loc
  refine .cons (by rw[I.ok.kind];decide) hf hn ?_ I.funs
  exact Heap.get?_none_of_le (qf I.ok.bsz I.ok.above)
theorem Inv.stkSub(I:Inv X pins σ H s):∀b∈frs X.stack,b∈X.env.locals::X.fs:=λb hb=>by
 rcases I.ok.stk with e|⟨e,hf⟩
 ·rw[e]at hb;exact qL _ hb
 ·rw[e]at hb
  unfold frs at hb
  rw[qAz,hf]at hb
  exact hb
theorem Inv.stkFree(I:Inv X pins σ H s):∀b∈frs X.stack,H b=none:=λb hb=>by
 rcases qW.mp (I.stkSub b hb)with e|hb
 ·rw[e];exact I.free
 ·obtain⟨_,o,ho,_⟩:=I.ok.funs.mem hb
  exact I.base.free b o ho (I.ok.frf b hb) λz=>I.ok.exfs b z hb
theorem Inv.step{g':Array GenState}{t':Nat}{d':Drawn}{ch:List Addr}(I:Inv X pins σ H s)
  (hch:∀b∈ch,(b∈X.ex\/X.s₀.heap.objs.size<=b)/\b≠X.env.locals/\(∀x c,X.env.cells.lookup x=some c->c≠b)/\∀p∈X.pn++pins,p.1≠b)
  (keep:∀b o,b≠X.env.locals->b∉X.fs->b∉ch->s.heap.get? b=some o->H b=none->h'.get? b=some o)
  (slot:∀b o,b≠X.env.locals->b∈X.fs->b∉ch->s.heap.get? b=some o->H b=none->∃sl,h'.get? b=some {o with slots:=sl}) (free:∀b o,b∉ch->s.heap.get? b=some o->H b=none->H' b=none)
  (there:∀b o,b∉ch->s.heap.get? b=some o->∃o',h'.get? b=some o')
  (tups:∀b xs,H b=some (.tup xs)->H' b=some (.tup xs))(frzs:∀b o u,H b=some (.frz o u)->H' b=some (.frz o u))(tbls:∀b ps,H b=some (.tbl ps)->∃more,H' b=some (.tbl (ps++more)))
  (ns:∀m,s.heap.Ns X.env.locals m->h'.Ns X.env.locals m)(hok:HOk X.prog X.w H' h')(hg:AllBare g') :
  Inv X pins σ H' {s with heap:=h',gens:=g',drawn:=d',toks:=t'}:=by
 have neL:∀b o,X.s₀.heap.get? b=some o->b≠X.env.locals:=λb o e=>qAT (qH (qh e) I.ok.above)
 have neC:∀b o,X.s₀.heap.get? b=some o->b∉X.ex->b∉ch:=λb o e hx hb=>by
  rcases(hch b hb).1 with z|z
  ·exact hx z
  ·exact absurd (qH (qh e) z) (qAW _)
 have cellK:∀x c,X.env.cells.lookup x=some c->∀v,s.heap.IsCell c v->h'.IsCell c v:=λx c e v ⟨o,ho,hd⟩=>by
  have nch:c∉ch:=λz=>(hch c z).2.2.1 x c e rfl
  by_cases hc:c∈X.fs
  ·obtain⟨sl,q⟩:=slot c o (I.cne x c e) hc nch ho (I.freeC x c e)
   exact⟨_,q,hd⟩
  ·exact⟨o,keep c o (I.cne x c e) hc nch ho (I.freeC x c e),hd⟩
 refine⟨I.ok,I.os,hg,⟨λb o e n hb hx=>?_,λb o e n hb hx=>?_,λb o e n hx=>?_,λb o e hx=>?_,λb xs e=>tups b xs (I.base.tups b xs e),λb o xs e=>frzs b o xs (I.base.frzs b o xs e),λb ps e=>?_⟩,?_,λx c e=>?_,?_,λx c e=>?_,λp hp=>?_,hok,I.len⟩
 ·exact keep b o (neL b o e) hb (neC b o e hx) (I.base.keep b o e n hb hx) (I.base.free b o e n hx)
 ·obtain⟨sl,e1⟩:=I.base.slot b o e n hb hx
  obtain⟨sl',e2⟩:=slot b _ (neL b o e) hb (neC b o e hx) e1 (I.base.free b o e n hx)
  exact⟨sl',e2⟩
 ·obtain⟨o',e1⟩:=I.base.there b o e hx
  exact free b o' (neC b o e hx) e1 (I.base.free b o e n hx)
 ·obtain⟨o',e1⟩:=I.base.there b o e hx
  exact there b o' (neC b o e hx) e1
 ·obtain⟨m1,e1⟩:=I.base.tbls b ps e
  obtain⟨m2,e2⟩:=tbls b _ e1
  exact⟨m1++m2,by rw[e2,Array.append_assoc]⟩
 ·obtain⟨m,hn,hl⟩:=I.loc
  refine⟨m,ns m hn,λi x v e1 e2 e3=>?_⟩
  obtain⟨u,r,l⟩:=hl i x v e1 e2 e3
  refine⟨u,r,?_⟩
  rcases l with l|⟨k,c,e,z⟩
  ·exact .inl l
  ·exact .inr ⟨k,c,e,cellK x c e _ z⟩
 ·obtain⟨v,z⟩:=I.cell x c e
  exact⟨v,cellK x c e v z⟩
 ·obtain⟨m,⟨o,_,_,ho,_⟩,_⟩:=I.loc
  exact free _ o (λz=>(hch _ z).2.1 rfl) ho I.free
 ·obtain⟨v,o,ho,hd⟩:=I.cell x c e
  exact free c o (λz=>(hch c z).2.2.1 x c e rfl) ho (I.freeC x c e)
 ·obtain⟨e,n,ne,nf,d⟩:=I.pin p hp
  have nch:p.1∉ch:=λz=>(hch p.1 z).2.2.2 p hp rfl
  exact⟨keep p.1 p.2 ne nf nch e n,free p.1 p.2 nch e n,ne,nf,d⟩
theorem Inv.un{t':Nat}(I:Inv X pins σ H s)(u:Un X.fs [] H H' s.heap h')(hok:HOk X.prog X.w H' h'):Inv X pins σ H' {s with heap:=h',toks:=t'}:=by
 obtain⟨m,⟨o,es,ep,ho,r⟩,_⟩:=id I.loc
 obtain⟨sl,hL⟩:=u.any ho I.free (by simp)
 exact I.step (g':=s.gens) (d':=s.drawn) (ch:=[]) (λ_ z=>nomatch z) (λb o _ hb _ e n=>u.keep b o e n hb (by simp)) (λb o _ hb _ e n=>u.slot b o e n hb (by simp)) (λb o _ e n=>u.free b o e n (by simp)) (λb o _ e=>u.there b o e (by simp)) u.tups u.frzs u.tbls (λm' hm=>by
  obtain⟨o',es',ep',ho',r'⟩:=hm
  rw[ho]at ho';cases ho'
  exact⟨_,es',ep',hL,r'⟩) hok I.bare
theorem Inv.call{g':Array GenState}{t':Nat}{d':Drawn}{ch:List Addr}(I:Inv X pins σ H s)(u:Un (frs X.stack) ch H H' s.heap h')(hok:HOk X.prog X.w H' h')(hg:AllBare g')
  (hch:∀b∈ch,(b∈X.ex\/X.s₀.heap.objs.size<=b)/\b≠X.env.locals/\(∀x c,X.env.cells.lookup x=some c->c≠b)/\∀p∈X.pn++pins,p.1≠b) :
  Inv X pins σ H' {s with heap:=h',gens:=g',drawn:=d',toks:=t'}:=by
 obtain⟨m,⟨o,es,ep,ho,r⟩,_⟩:=id I.loc
 obtain⟨sl,hL⟩:=u.any ho I.free λz=>(hch _ z).2.1 rfl
 exact I.step (ch:=ch) hch (λb o hL hb hc e n=>u.keep b o e n (λz=>(qW.mp (I.stkSub b z)).elim hL hb) hc) (λb o _ _ hc e n=>u.any e n hc) (λb o hc e n=>u.free b o e n hc) (λb o hc e=>u.there b o e hc) u.tups u.frzs u.tbls (λm' hm=>by
  obtain⟨o',es',ep',ho',r'⟩:=hm
  rw[ho]at ho';cases ho'
  exact⟨_,es',ep',hL,r'⟩) hok hg
theorem Inv.turned{t':Nat}{it:Addr}(I:Inv X pins σ H s)(k:∀b o,b≠it->s.heap.get? b=some o->h'.get? b=some o)(hn:H it=none)(hL:it≠X.env.locals)
  (h1:it∈X.ex\/X.s₀.heap.objs.size<=it) (h2:∀x c,X.env.cells.lookup x=some c->c≠it) (h3:∀p∈X.pn++pins,p.1≠it):Inv X pins σ H {s with heap:=h',toks:=t'}:=by
 have nit:∀b u,H b=some u->b≠it:=λb u e z=>by rw[z,hn]at e;cases e
 refine I.step (g':=s.gens) (d':=s.drawn) (ch:=[it]) (λb hb=>?_) (λb o _ _ hc e _=>k b o (λz=>hc (by simp[z])) e) (λb o _ _ hc e _=>⟨o.slots,k b o (λz=>hc (by simp[z])) e⟩) (λ_ _ _ _ n=>n)
  (λb o hc e=>⟨o,k b o (λz=>hc (by simp[z])) e⟩) (λ_ _ e=>e) (λ_ _ _ e=>e) (λb ps e=>⟨#[],by rw[e];simp⟩) (λm hm=>?_) (λb u e=>?_) I.bare
 ·have e:b=it:=by simpa using hb
  subst e
  exact⟨h1,hL,h2,h3⟩
 ·obtain⟨o,es,ep,ho,r⟩:=hm
  exact⟨o,es,ep,k _ o (qA2 hL) ho,r⟩
 ·refine(I.hok b u e).stay (λc v hc q=>k c v ?_ q) (λ_ q=>q) λ_ _ q=>q
  rcases hc with z|z
  ·rw[z];exact nit b u e
  ·exact nit c _ z
theorem Inv.tok(I:Inv X pins σ H s)(t:Nat):Inv X pins σ H {s with toks:=t}:=I.un (h':=s.heap) (t':=t) Un.refl I.hok
theorem Inv.kept{t':Nat}(I:Inv X pins σ H s)(k:∀b u,s.heap.get? b=some u->h'.get? b=some u):Inv X pins σ H {s with heap:=h',toks:=t'}:=I.un (Un.kept k) (I.hok.kept k)
theorem Inv.laid{a:Addr}{o:HO}{t':Nat}(I:Inv X pins σ H s)(k:∀b u,s.heap.get? b=some u->h'.get? b=some u)(hp:s.heap.objs.size<=a)(new:zhj X.prog X.w (upd H a o) h' a o) :
  Inv X pins σ (upd H a o) {s with heap:=h',toks:=t'}:=I.un (Un.laid k hp (I.hok.fresh hp)) (I.hok.laid k hp new)
theorem Inv.write{x e:Addr}{o:HO}{t':Nat}(I:Inv X pins σ H s)(mu:Mut (H x))(he:e=x\/H e=some (.own x))(k:∀b u,b≠e->s.heap.get? b=some u->h'.get? b=some u)(heo:∃u,h'.get? e=some u)
  (new:zhj X.prog X.w (upd H x o) h' x o):Inv X pins σ (upd H x o) {s with heap:=h',toks:=t'}:=I.un (Un.write mu he k heo) (I.hok.write mu he k heo new)
theorem Inv.pins_of{pins':List (Addr×Obj)}(I:Inv X pins σ H s)(h:∀p∈pins',s.heap.get? p.1=some p.2/\H p.1=none/\p.1≠X.env.locals/\p.1∉X.fs/\∀v,p.2.data≠.cell v):Inv X pins' σ H s:=
 ⟨I.ok,I.os,I.bare,I.base,I.loc,I.cell,I.free,I.freeC,λp hp=>(qz.mp hp).elim (λz=>I.pin p (qAK _ z)) (h p),I.hok,I.len⟩
theorem zvr{N:List Str}(hN:N.Nodup){i j:Nat}{x:Str}(a:N[i]?=some x)(b:N[j]?=some x):i=j:=by
 obtain⟨h1,e1⟩:=qb.mp a
 obtain⟨h2,e2⟩:=qb.mp b
 exact(List.getElem_inj hN).mp (e1.trans e2.symm)
theorem zrw{M:Model}{A:Around}{E:Value->Shared->Prop}{i:Nat}{x:Str}{v:V}{u:Value}{Q:Unit->Shared->Prop}(I:Inv X pins σ H s)(hN:X.N.Nodup)(hi:X.N[i]?=some x)(hx:Loc X.env.scope x)(r:RelV v u)
  (h:∀s',Inv X pins (σ.set i (some v)) H s'->(∃a,Heap.SameBut a s.heap s'.heap/\(a=X.env.locals\/X.env.cells.lookup x=some a))->Q () s') (hf:X.fn x=true\/X.env.scope.names.lookup x=some .local:=by assumption):wpAny M A (storeName X.env x u) Q E s:=by
 obtain⟨m,hn,hl⟩:=id I.loc
 have hcls:(X.env.scope.kind==.class||(X.env.scope.kind==.module&&X.env.locals != X.env.globals))=false:=by rw[I.ok.kind];rfl
 have hiσ:i<σ.length:=by rw[I.len];exact(qb.mp hi).1
 have cne:=I.cne
 have tracked:∀{a:Addr}{h':Heap},(∃o,s.heap.get? a=some o/\H a=none)->Heap.SameBut a s.heap h'->HOk X.prog X.w H h':=λ{a h'} ha hs b ob e=>by
  obtain⟨_,_,hfree⟩:=ha
  refine(I.hok b ob e).stay (λc w' hc q=>(hs.2 c ?_).trans q) (λ_ q=>q) λ_ _ q=>q
  rintro rfl
  rcases hc with rfl|hc
  ·rw[hfree]at e;cases e
  ·rw[hfree]at hc;cases hc
 rcases hx with hk|hk
 ·refine wpAny_storeName_local hk hn (λh' hn' hs=>?_) hcls
  obtain⟨oL,_,_,hoL,_⟩:=id hn
  refine h _ ⟨I.ok,I.os,I.bare,⟨λb o e n hb hx=>?_,λb o e n hb hx=>?_,I.base.free,λb o e hx=>?_,I.base.tups,I.base.frzs,I.base.tbls⟩,⟨_,hn',λj y v' e1 e2 e3=>?_⟩,λy c e=>?_,I.free,I.freeC,λp hp=>?_,tracked ⟨oL,hoL,I.free⟩ hs,by simpa using I.len⟩ ⟨_,hs,.inl rfl⟩
  ·exact(hs.2 b (qAT (qH (qh e) I.ok.above))).trans (I.base.keep b o e n hb hx)
  ·obtain⟨sl,e1⟩:=I.base.slot b o e n hb hx
   exact⟨sl,(hs.2 b (qAT (qH (qh e) I.ok.above))).trans e1⟩
  ·obtain⟨o',e1⟩:=I.base.there b o e hx
   exact⟨o',(hs.2 b (qAT (qH (qh e) I.ok.above))).trans e1⟩
  ·by_cases hj:j=i
   ·subst hj
    rw[hi]at e1;cases e1
    rw[qt hiσ]at e2
    cases e2
    exact⟨u,r,.inl ⟨hk,by simp⟩⟩
   ·rw[qG (qA2 hj)]at e2
    obtain⟨u',r',q⟩:=hl j y v' e1 e2 e3
    refine⟨u',r',?_⟩
    rcases q with⟨k,e⟩|⟨k,c,e,z⟩
    ·refine .inl ⟨k,?_⟩
     have:y≠x:=λe=>hj (zvr hN e1 (e▸hi))
     simp[this,e]
    ·exact .inr ⟨k,c,e,z.sameBut hs (cne y c e)⟩
  ·obtain⟨w',z⟩:=I.cell y c e
   exact⟨w',z.sameBut hs (cne y c e)⟩
  ·obtain⟨e,n,ne,nf,d⟩:=I.pin p hp
   exact⟨(hs.2 p.1 ne).trans e,n,ne,nf,d⟩
 ·have hfn:X.fn x=true:=by
   rcases hf with z|z
   ·exact z
   ·rw[z]at hk;cases hk
  obtain⟨c,hc⟩:=I.ok.has x (.inl hk)
  obtain⟨w',z⟩:=I.cell x c hc
  refine wpAny_storeName_cell I.ok.kind hk hc z (λh' hc' hs=>?_)
  obtain⟨oc,hoc,hocd⟩:=id z
  refine h {s with heap:=h'} ⟨I.ok,I.os,I.bare,⟨λb o e n hb hx=>?_,λb o e n hb hx=>?_,I.base.free,λb o e hx=>?_,I.base.tups,I.base.frzs,I.base.tbls⟩,⟨m,hn.sameBut hs (qA2 (cne x c hc)),λj y v' e1 e2 e3=>?_⟩,λy c' e=>?_,I.free,I.freeC,λp hp=>?_,tracked ⟨oc,hoc,I.freeC x c hc⟩ hs,by simpa using I.len⟩ ⟨c,hs,.inr hc⟩
  ·exact(hs.2 b (qAT (qH (qh e) (I.ok.cab x c hfn hc)))).trans (I.base.keep b o e n hb hx)
  ·obtain⟨sl,e1⟩:=I.base.slot b o e n hb hx
   exact⟨sl,(hs.2 b (qAT (qH (qh e) (I.ok.cab x c hfn hc)))).trans e1⟩
  ·obtain⟨o',e1⟩:=I.base.there b o e hx
   exact⟨o',(hs.2 b (qAT (qH (qh e) (I.ok.cab x c hfn hc)))).trans e1⟩
  ·by_cases hj:j=i
   ·subst hj
    rw[hi]at e1;cases e1
    rw[qt hiσ]at e2
    cases e2
    exact⟨u,r,.inr ⟨.inl hk,c,hc,hc'⟩⟩
   ·rw[qG (qA2 hj)]at e2
    obtain⟨u',r',q⟩:=hl j y v' e1 e2 e3
    refine⟨u',r',?_⟩
    rcases q with q|⟨k,c',e,z'⟩
    ·exact .inl q
    ·refine .inr ⟨k,c',e,z'.sameBut hs ?_⟩
     rintro rfl
     exact hj (zvr hN e1 (I.ok.inj _ _ _ e hc▸hi))
  ·by_cases hcc:c'=c
   ·subst hcc;exact⟨_,hc'⟩
   ·obtain⟨w2,z2⟩:=I.cell y c' e
    exact⟨w2,z2.sameBut hs hcc⟩
  ·obtain⟨e,n,ne,nf,d⟩:=I.pin p hp
   refine⟨(hs.2 p.1 ?_).trans e,n,ne,nf,d⟩
   intro q
   rw[q,hoc]at e
   have q':oc=p.2:=qu e
   exact d w' (by rw[<- q'];exact hocd)
theorem zvs{M:Model}{A:Around}{E:Value->Shared->Prop}{i:Nat}{x:Str}{v:V}{u:Value}{Q:Unit->Shared->Prop}(I:Inv X pins σ H s)(hN:X.N.Nodup)(hi:X.N[i]?=some x)(hx:Loc X.env.scope x)(r:RelV v u)
  (h:∀s',Inv X pins (σ.set i (some v)) H s'->Q () s') (hf:X.fn x=true\/X.env.scope.names.lookup x=some .local:=by assumption):wpAny M A (storeName X.env x u) Q E s:=
 zrw I hN hi hx r (λs' I' _=>h s' I') hf
end
noncomputable abbrev XK:=Value->Option Addr->Hp->Prop
noncomputable abbrev St:=List (Option V)
noncomputable abbrev VK:=V->Hp->Prop
noncomputable abbrev TE:=St->Hp->VK->Prop
noncomputable abbrev TT:=St->Hp->(Bool->Hp->Prop)->Prop
noncomputable abbrev TA:=St->Hp->(List V->Hp->Prop)->Prop
set_option genInjectivity false in
structure Ends where
 nx:St->Hp->Prop
 rt:VK
 bk:St->Hp->Prop:=λ_ _=>False
 ct:St->Hp->Prop:=λ_ _=>False
noncomputable abbrev TS:=Ends->St->Hp->Prop
noncomputable def EP(X:Cx)(pins:List (Addr×Obj))(σ:St)(Q:VK)(u:Value)(s':Shared):Prop:=∃v H',Inv X pins σ H' s'/\RelV v u/\Q v H'
noncomputable def TP(X:Cx)(pins:List (Addr×Obj))(σ:St)(Q:Bool->Hp->Prop)(b:Bool)(s':Shared):Prop:=∃H',Inv X pins σ H' s'/\Q b H'
noncomputable def AP(X:Cx)(pins:List (Addr×Obj))(σ:St)(Q:List V->Hp->Prop)(us:List Value)(s':Shared):Prop:=∃vs H',Inv X pins σ H' s'/\Vals vs us/\Q vs H'
noncomputable def SP(X:Cx)(pins:List (Addr×Obj))(D:Ends)(f:Flow)(s':Shared):Prop:=
 match f with
 | .next=>∃σ' H',Inv X pins σ' H' s'/\D.nx σ' H'
 | .brk=>∃σ' H',Inv X pins σ' H' s'/\D.bk σ' H'
 | .cont=>∃σ' H',Inv X pins σ' H' s'/\D.ct σ' H'
 | .ret u=>∃v σ' H',Inv X pins σ' H' s'/\RelV v u/\D.rt v H'
noncomputable def PE(X:Cx)(e:Expr)(t:TE):Prop:=
 ∀(pins:List (Addr×Obj))(s:Shared)(σ:St)(H:Hp)(Q:VK),Inv X pins σ H s->t σ H Q->wpAny (model X.prog X.w) X.A (eval e X.env) (EP X pins σ Q) X.xe s
noncomputable def PT(X:Cx)(e:Expr)(t:TT):Prop:=
 ∀(pins:List (Addr×Obj))(s:Shared)(σ:St)(H:Hp)(Q:Bool->Hp->Prop),Inv X pins σ H s->t σ H Q->wpAny (model X.prog X.w) X.A (isTrue e X.env (eval e X.env)) (TP X pins σ Q) X.xe s
noncomputable def PW(X:Cx)(e:Expr)(t:TT):Prop:=
 ∀(whole:Sem Value)(pins:List (Addr×Obj))(s:Shared)(σ:St)(H:Hp)(Q:Bool->Hp->Prop),Inv X pins σ H s->t σ H Q->wpAny (model X.prog X.w) X.A (isTrue e X.env whole) (TP X pins σ Q) X.xe s
theorem PW.pt{X:Cx}{e:Expr}{t:TT}(h:PW X e t):PT X e t:=h _
noncomputable def PA(X:Cx)(es:List Expr)(t:TA):Prop:=
 ∀(pos:Pos)(pins:List (Addr×Obj))(s:Shared)(σ:St)(H:Hp)(Q:List V->Hp->Prop),Inv X pins σ H s->t σ H Q->wpAny (model X.prog X.w) X.A (spliced (backTo pos (starEach es X.env))) (AP X pins σ Q) X.xe s
noncomputable def PS(X:Cx)(st:Stmt)(t:TS):Prop:=
 ∀(pins:List (Addr×Obj))(s:Shared)(σ:St)(H:Hp)(D:Ends),Inv X pins σ H s->t D σ H->wpAny (model X.prog X.w) X.A (exec st X.env) (SP X pins D) X.xe s
noncomputable def PSs(X:Cx)(st:List Stmt)(t:TS):Prop:=
 ∀(pins:List (Addr×Obj))(s:Shared)(σ:St)(H:Hp)(D:Ends),Inv X pins σ H s->t D σ H->wpAny (model X.prog X.w) X.A (execs st X.env) (SP X pins D) X.xe s
theorem thn{α:Type}{t:Sem α}{Q Q':α->Shared->Prop}{M:Model}{A:Around}{E:Value->Shared->Prop}{s:Shared}(h:wpAny M A t Q E s)(hQ:∀a s,Q a s->Q' a s):wpAny M A t Q' E s:=qBf h hQ λ_ _ x=>x
section
variable{X:Cx}
theorem bin{a b:Expr}{ta tb:TE}(ha:PE X a ta)(hb:PE X b tb){pins:List (Addr×Obj)}{s:Shared}{σ:St}{H:Hp}{R:V->V->Hp->Prop}(I:Inv X pins σ H s)(h:ta σ H λx H1=>tb σ H1 λy H2=>R x y H2)
  {α:Type}{Q:α->Shared->Prop}{f:Value->Value->Sem α}
  (hf:∀v u s2 x y H2,Inv X pins σ H2 s2->RelV x v->RelV y u->R x y H2->wpAny (model X.prog X.w) X.A (f v u) Q X.xe s2) :
  wpAny (model X.prog X.w) X.A (eval a X.env) (λv s₁=>wpAny (model X.prog X.w) X.A (eval b X.env) (λu s₂=>wpAny (model X.prog X.w) X.A (f v u) Q X.xe s₂) X.xe s₁) X.xe s:=by
 refine thn (ha pins s σ H _ I h) λv s1 ⟨x,H1,I1,r1,q1⟩=>?_
 refine thn (hb pins s1 σ H1 _ I1 q1) λu s2 ⟨y,H2,I2,r2,q2⟩=>?_
 exact hf v u s2 x y H2 I2 r1 r2 q2
noncomputable def tVar(i:Nat):TE:=λσ H Q=>∃v,σ[i]?=some (some v)/\Q v H
noncomputable def tC(v:V):TE:=λ_ H Q=>Q v H
theorem zagy{i:Nat}{x:Str}{pos:Pos}(hN:X.N[i]?=some x)(hv:Vis X.env.scope x)(hd:(x==("__debug__":Str))=false:=by decide)(hcd:(x==("__classdict__":Str))=false:=by decide):PE X (.Name x pos) (tVar i):=by
 intro pins s σ H Q I h
 obtain⟨v,e,h⟩:=h
 obtain⟨m,hn,hl⟩:=I.loc
 obtain⟨u,r,l⟩:=hl i x v hN e hv
 have fin:EP X pins σ Q u s:=⟨v,H,I,r,h⟩
 rcases l with⟨hk,hm⟩|⟨hk,c,hc,hcell⟩
 ·exact wpAny_Name (wpAny_loadName_local I.ok.kind hk hn hm fin) hd
 ·rcases hk with hk|hk
  ·exact wpAny_Name (wpAny_loadName_cell I.ok.kind hk hc hcell fin) hd
  ·exact wpAny_Name (wpAny_loadName_free I.ok.kind hk hc hcell fin hcd) hd
theorem zagz{i j pos}:PE X (.Constant (.int i) j pos) (tC (.int i)):=λ_ _ _ H _ I h=>wpAny_Constant_int ⟨.int i,H,I.tok _,⟨_,rfl⟩,h⟩
theorem zakh{b j pos}:PE X (.Constant (.bool b) j pos) (tC (.bl b)):=λ_ _ _ H _ I h=>Constant_bool ⟨.bl b,H,I,rfl,h⟩
theorem zaha{x j pos}:PE X (.Constant (.str x) j pos) (tC (.str x)):=λ_ _ _ H _ I h=>qBi ⟨.str x,H,I.tok _,⟨_,rfl⟩,h⟩
noncomputable def Gl(X:Cx)(x:Str):Prop:=X.env.kindOf x=some .globalImplicit
theorem zxw{E:Value->Shared->Prop}{pins:List (Addr×Obj)}{s:Shared}{σ:St}{H:Hp}{x:Str}{u:Value}{pos:Pos}{Q:Value->Shared->Prop}(I:Inv X pins σ H s)(hg:Gl X x)(hm:X.mg x=some u)(h:Q u s)
  (hd:(x==("__debug__":Str))=false:=by decide):wpAny (model X.prog X.w) X.A (eval (.Name x pos) X.env) Q E s:=
 qBK I.ok.kind hg (Calls.loadGlobal_global (by rw[I.ok.glob];exact I.mod.glob.keeps I.bk) hm h) hd
theorem zpr{E:Value->Shared->Prop}{pins:List (Addr×Obj)}{s:Shared}{σ:St}{H:Hp}{x:Str}{u:Value}{pos:Pos}{Q:Value->Shared->Prop}(I:Inv X pins σ H s)(hg:Gl X x)(hm:X.mg x=none)(hv:bootBuiltins x=some u)(h:Q u s)
  (hn:x≠"__name__":=by decide) (hd:(x==("__debug__":Str))=false:=by decide):wpAny (model X.prog X.w) X.A (eval (.Name x pos) X.env) Q E s:=by
 obtain⟨mb,h1,h2⟩:=I.mod.blt
 exact qBK I.ok.kind hg (Calls.loadGlobal_builtin (by rw[I.ok.glob];exact I.mod.glob.keeps I.bk) hm (by rw[I.ok.blt];exact h1.keeps I.bk) ((h2 x hn).trans hv) h) hd
theorem zadv{x:Str}{v:V}{u:Value}{pos:Pos}(hg:Gl X x)(hm:X.mg x=none)(hv:bootBuiltins x=some u)(r:RelV v u)(hn:x≠"__name__":=by decide)(hd:(x==("__debug__":Str))=false:=by decide):PE X (.Name x pos) (tC v):=
 λ_ _ _ H _ I h=>zpr I hg hm hv ⟨v,H,I,r,h⟩ hn hd
variable{a b:Expr}{ta tb:TE}{pos:Pos}
noncomputable def tB(t:TE):TT:=λσ H Q=>t σ H λx H1=>∃c,x=.bl c/\Q c H1
variable{tA tB':TT}{rest:List Expr}
noncomputable def tAnd(t u:TT):TT:=λσ H Q=>t σ H λc H1=>if c=true then u σ H1 Q else Q false H1
noncomputable def tNot(t:TT):TT:=λσ H Q=>t σ H λc H1=>Q (!c) H1
theorem zadw(ha:PT X a tA):PW X (.BoolOp .And [a] pos) tA:=by
 intro wh pins s σ H Q I h
 refine isTrue_and (thn (ha pins s σ H Q I h) λc s1 e=>?_)
 cases c with
 | true=>exact isTrue_and_nil e
 | false=>exact e
theorem zahb(ha:PT X a tA)(hb:PW X (.BoolOp .And (b::rest) pos) tB'):PW X (.BoolOp .And (a::b::rest) pos) (tAnd tA tB'):=by
 intro wh pins s σ H Q I h
 refine isTrue_and (thn (ha pins s σ H _ I h) λc s1 ⟨H1,I1,q1⟩=>?_)
 cases c with
 | true=>exact hb wh pins s1 σ H1 Q I1 q1
 | false=>exact⟨H1,I1,q1⟩
theorem zahc(ha:PT X a tA):PT X (.UnaryOp .Not a pos) (tNot tA):=by
 intro pins s σ H Q I h
 exact isTrue_not (ha pins s σ H (λc H1=>Q (!c) H1) I h)
noncomputable def tAndV(ta tb:TE):TE:=λσ H Q=>ta σ H λx H1=>∃c,x=.bl c/\if c=true then tb σ H1 Q else Q (.bl false) H1
theorem zahd{op}{t:TE}(h:PE X a t):PE X (.BoolOp op [a] pos) t:=λpins s σ H Q I hw=>BoolOp_one (h pins s σ H Q I hw)
theorem zahe(ha:PE X a ta)(hb:PE X (.BoolOp .And (b::rest) pos) tb):PE X (.BoolOp .And (a::b::rest) pos) (tAndV ta tb):=by
 intro pins s σ H Q I h
 refine BoolOp_and (thn (ha pins s σ H _ I h) λv s1 ⟨x,H1,I1,r1,q1⟩=>?_)
 obtain⟨c,rfl,q1⟩:=q1
 cases r1
 refine qBL ?_
 cases c with
 | true=>exact hb pins s1 σ H1 Q I1 q1
 | false=>exact⟨.bl false,H1,I1,rfl,q1⟩
end
noncomputable def SqL(K:qD)(H:Hp)(a:Addr)(xs:List V):Prop:=
 Rd H a (.lst xs)\/
  ∃(o:Obj)(its:Array Value)(n:Nat),K.lookup a=some o/\o.cls=.type "list"/\o.dict=none/\o.data=.seq its n/\its.size<=qc/\Vals xs its.toList
noncomputable def SqT(K:qD)(H:Hp)(a:Addr)(xs:List V):Prop:=
 Rd H a (.tup xs)\/
  ∃(o:Obj)(its:Array Value)(n:Nat),K.lookup a=some o/\o.cls=.type "tuple"/\o.data=.seq its n/\its.size<=qc/\Vals xs its.toList
noncomputable def absV:Value->Option V
 | .none=>some .non
 | .bool b=>some (.bl b)
 | .int i _=>some (.int i)
 | .str x _=>some (.str x)
 | .bytes b _=>some (.byt b)
 | .float b _=>some (.flt b)
 | .ref a=>some (.ref a)
 | .type n=>some (.ty n)
 | _=>none
theorem RelV.abs{x:V}{u:Value}(r:RelV x u):absV u=some x:=by
 cases x with
 | non=>cases r;rfl
 | bl _=>cases r;rfl
 | int _=>obtain⟨t,rfl⟩:=r;rfl
 | str _=>obtain⟨t,rfl⟩:=r;rfl
 | byt _=>obtain⟨t,rfl⟩:=r;rfl
 | flt _=>obtain⟨t,rfl⟩:=r;rfl
 | ref _=>cases r;rfl
 | ty _=>cases r;rfl
theorem RelV.inj{x y:V}{u:Value}(r:RelV x u)(q:RelV y u):x=y:=qu (r.abs.symm.trans q.abs)
theorem Vals.inj:∀{xs ys:List V}{us:List Value},Vals xs us->Vals ys us->xs=ys
 | _,_,_,.nil,.nil=>rfl
 | _,_,_,.cons r t,.cons r' t'=>by rw[r.inj r',Vals.inj t t']
section
variable{X:Cx}{pins:List (Addr×Obj)}{σ:St}{H:Hp}{s:Shared}{a:Addr}{xs ys:List V}
theorem SqL.of{K:qD}(h:H a=some (.lst xs)):SqL K H a xs:=.inl (.inl h)
theorem SqT.of{K:qD}(h:H a=some (.tup xs)):SqT K H a xs:=.inl (.inl h)
theorem Inv.list(I:Inv X pins σ H s)(h:SqL X.K H a xs):∃its:List Value,Vals xs its/\PlainL s.heap a its.toArray/\xs.length<=qc:=by
 rcases h with h|⟨o,its,n,hk,hc,hd,hs,hz,r⟩
 ·obtain⟨z,its,n,r,e⟩:=h.ok I.hok
  exact⟨its,r,⟨_,n,e,rfl,rfl,rfl⟩,z⟩
 ·refine⟨its.toList,r,⟨o,n,I.kIn a o hk,hc,hd,by simpa using hs⟩,?_⟩
  have e:=r.length
  simp only[qAb]at e
  omega
theorem Inv.tuple(I:Inv X pins σ H s)(h:SqT X.K H a xs):∃its:List Value,Vals xs its/\IsTup s.heap a its.toArray/\xs.length<=qc:=by
 rcases h with h|⟨o,its,n,hk,hc,hs,hz,r⟩
 ·obtain⟨z,its,r,p⟩:=h.ok I.hok
  exact⟨its,r,p,z⟩
 ·refine⟨its.toList,r,⟨o,I.kIn a o hk,hc,n,by simpa using hs⟩,?_⟩
  have e:=r.length
  simp only[qAb]at e
  omega
theorem Inv.list_inj(I:Inv X pins σ H s)(h:SqL X.K H a xs)(h':SqL X.K H a ys):xs=ys:=by
 obtain⟨its,r,⟨o,n,e,_,_,d⟩,_⟩:=I.list h
 obtain⟨its',r',⟨o',n',e',_,_,d'⟩,_⟩:=I.list h'
 rw[e]at e';cases e'
 rw[d]at d'
 injection d' with d1 _
 have:its=its':=by simpa using congrArg Array.toList d1
 subst this
 exact r.inj r'
theorem Inv.tuple_inj(I:Inv X pins σ H s)(h:SqT X.K H a xs)(h':SqT X.K H a ys):xs=ys:=by
 obtain⟨its,r,⟨o,e,_,n,d⟩,_⟩:=I.tuple h
 obtain⟨its',r',⟨o',e',_,n',d'⟩,_⟩:=I.tuple h'
 rw[e]at e';cases e'
 rw[d]at d'
 injection d' with d1 _
 have:its=its':=by simpa using congrArg Array.toList d1
 subst this
 exact r.inj r'
end
noncomputable abbrev Cx.wish(X:Cx)(E:Value->Shared->Prop):Cx:={X with xe:=E}
noncomputable abbrev Cx.nox(X:Cx):Cx:=X.wish λ_ _=>False
theorem Cx.Ok.wish{X:Cx}(ok:X.Ok)(E:Value->Shared->Prop):(X.wish E).Ok:=
 ⟨ok.mod,ok.kind,ok.glob,ok.blt,ok.above,ok.inj,ok.has,ok.cab,ok.hd,ok.frames,ok.stk,ok.exf,ok.bs,ok.bsz,ok.noex,ok.exfs,ok.funs,ok.frf⟩
theorem Cx.Ok.unwish{X:Cx}{E:Value->Shared->Prop}(ok:(X.wish E).Ok):X.Ok:=
 ⟨ok.mod,ok.kind,ok.glob,ok.blt,ok.above,ok.inj,ok.has,ok.cab,ok.hd,ok.frames,ok.stk,ok.exf,ok.bs,ok.bsz,ok.noex,ok.exfs,ok.funs,ok.frf⟩
section
variable{X:Cx}{pins:List (Addr×Obj)}{σ:St}{H:Hp}{s:Shared}{E:Value->Shared->Prop}
theorem Inv.wish(I:Inv X pins σ H s)(E:Value->Shared->Prop):Inv (X.wish E) pins σ H s:=⟨I.ok.wish E,I.os,I.bare,I.base,I.loc,I.cell,I.free,I.freeC,I.pin,I.hok,I.len⟩
theorem Inv.unwish(I:Inv (X.wish E) pins σ H s):Inv X pins σ H s:=⟨I.ok.unwish,I.os,I.bare,I.base,I.loc,I.cell,I.free,I.freeC,I.pin,I.hok,I.len⟩
theorem SP.unwish{D:Ends}{f:Flow}{s':Shared}(h:SP (X.wish E) pins D f s'):SP X pins D f s':=by
 cases f with
 | next=>obtain⟨σ',H',I,q⟩:=h;exact⟨σ',H',I.unwish,q⟩
 | brk=>obtain⟨σ',H',I,q⟩:=h;exact⟨σ',H',I.unwish,q⟩
 | cont=>obtain⟨σ',H',I,q⟩:=h;exact⟨σ',H',I.unwish,q⟩
 | ret u=>obtain⟨v,σ',H',I,r,q⟩:=h;exact⟨v,σ',H',I.unwish,r,q⟩
theorem PSs.nox{st:List Stmt}{t:TS}(h:PSs X.nox st t):PSs X st t:=λpins s σ H D I hw=>
 qBf (h pins s σ H D (I.wish _) hw) (λ_ _ q=>q.unwish) λ_ _ z=>False.elim z
end
section
variable{X:Cx}{st:Stmt}{rest:List Stmt}{t u:TS}{e:Expr}{te:TE}{pos:Pos}
noncomputable def tNext:TS:=λD σ H=>D.nx σ H
noncomputable def tSeq(t u:TS):TS:=λD σ H=>t {D with nx:=u D} σ H
theorem zadx:PSs X [] tNext:=λ_ _ σ H _ I h=>qBT ⟨σ,H,I,h⟩
theorem zaaw(h1:PS X st t)(h2:PSs X rest u):PSs X (st::rest) (tSeq t u):=by
 intro pins s σ H D I h
 refine wpAny_execs_cons (thn (h1 pins s σ H {D with nx:=u D} I h) λf s1 q=>?_)
 cases f with
 | next=>
  obtain⟨σ',H',I',q⟩:=q
  exact h2 pins s1 σ' H' D I' q
 | ret v=>exact q
 | brk=>exact q
 | cont=>exact q
theorem zady(h1:PS X st t):PSs X [st] t:=by
 intro pins s σ H D I h
 refine wpAny_execs_cons (thn (h1 pins s σ H D I h) λf s1 q=>?_)
 cases f with
 | next=>exact qBT q
 | ret v=>exact q
 | brk=>exact q
 | cont=>exact q
theorem Inv.quiet{pins:List (Addr×Obj)}{σ:St}{H:Hp}{s:Shared}(I:Inv X pins σ H s):interactive X.env=false:=by simp[interactive,I.ok.kind]
noncomputable def tDrop(te:TE):TS:=λD σ H=>te σ H λ_ H1=>D.nx σ H1
theorem zadz(he:PE X e te)(hs:swapsWith e none pos.line X.env=pure false:=by rfl):PS X (.Expr e pos) (tDrop te):=by
 intro pins s σ H D I h
 exact wpAny_Expr_any (thn (he pins s σ H _ I h) λv s1 ⟨x,H1,I1,r1,q1⟩=>⟨σ,H1,I1,q1⟩) I.quiet hs
noncomputable def tRet(te:TE):TS:=λD σ H=>te σ H D.rt
theorem zahf(he:PE X e te):PS X (.Return (some e) pos) (tRet te):=by
 intro pins s σ H D I h
 exact wpAny_Return_some (thn (he pins s σ H _ I h) λv s1 ⟨x,H1,I1,r1,q1⟩=>⟨x,σ,H1,I1,r1,q1⟩)
noncomputable def tIfS(c:TT)(t u:TS):TS:=λD σ H=>c σ H λb H1=>if b=true then t D σ H1 else u D σ H1
theorem zaki{c:Expr}{a b:List Stmt}{tc:TT}(hc:PT X c tc)(ha:PSs X a t)(hb:PSs X b u):PS X (.If c a b pos) (tIfS tc t u):=by
 intro pins s σ H D I h
 refine wpAny_If (thn (hc pins s σ H _ I h) λd s1 ⟨H1,I1,q1⟩=>?_)
 cases d with
 | true=>exact ha pins s1 σ H1 D I1 q1
 | false=>exact hb pins s1 σ H1 D I1 q1
end
noncomputable abbrev TG:=V->St->Hp->(St->Hp->Prop)->Prop
noncomputable abbrev TGs:=List V->St->Hp->(St->Hp->Prop)->Prop
noncomputable def PG(X:Cx)(target:Expr)(t:TG):Prop:=
 ∀(pins:List (Addr×Obj))(s:Shared)(σ:St)(H:Hp)(v:V)(u:Value)(Q:St->Hp->Prop),Inv X pins σ H s->RelV v u->t v σ H Q->
  wpAny (model X.prog X.w) X.A (assign target X.env u) (λ_ s'=>∃σ' H',Inv X pins σ' H' s'/\Q σ' H') X.xe s
noncomputable def PGs(X:Cx)(ts:List Expr)(t:TGs):Prop:=
 ∀(pins:List (Addr×Obj))(s:Shared)(σ:St)(H:Hp)(vs:List V)(us:List Value)(Q:St->Hp->Prop),Inv X pins σ H s->Vals vs us->t vs σ H Q->
  wpAny (model X.prog X.w) X.A (assignInOrder ((assignEach ts X.env).map (·.2)) us) (λ_ s'=>∃σ' H',Inv X pins σ' H' s'/\Q σ' H') X.xe s
noncomputable abbrev TSet:=V->V->V->Hp->(Hp->Prop)->Prop
noncomputable def PSet(X:Cx)(t:TSet):Prop:=
 ∀(pins:List (Addr×Obj))(s:Shared)(σ:St)(H:Hp)(o i v:V)(ov iv u:Value)(Q:Hp->Prop),Inv X pins σ H s->RelV o ov->RelV i iv->RelV v u->t o i v H Q->
  wpAny (model X.prog X.w) X.A (setItem ov iv u) (λ_ s'=>∃H',Inv X pins σ H' s'/\Q H') X.xe s
section
variable{X:Cx}{pos:Pos}
noncomputable def gName(i:Nat):TG:=λv σ H Q=>Q (σ.set i (some v)) H
theorem zaea{i:Nat}{x:Str}(hN:X.N.Nodup)(hi:X.N[i]?=some x)(hx:Loc X.env.scope x)(hf:X.fn x=true\/X.env.scope.names.lookup x=some .local:=by assumption):PG X (.Name x pos) (gName i):=by
 intro pins s σ H v u Q I r h
 exact wpAny_assign_Name (zvs I hN hi hx r (λs' I'=>⟨_,H,I',h⟩) hf)
noncomputable def gNil:TGs:=λvs σ H Q=>vs=[]/\Q σ H
noncomputable def gCons(t:TG)(u:TGs):TGs:=λvs σ H Q=>∃v r,vs=v::r/\t v σ H λσ' H'=>u r σ' H' Q
theorem zaeb:PGs X [] gNil:=by
 intro pins s σ H vs us Q I r h
 obtain⟨e,h⟩:=h
 subst e
 cases r
 exact assignInOrder_nil ⟨σ,H,I,h⟩
theorem zaax{e:Expr}{es:List Expr}{t:TG}{u:TGs}(h1:PG X e t)(h2:PGs X es u)
  (hs:(assignEach (e::es) X.env).map (·.2)=assign e X.env::(assignEach es X.env).map (·.2):=by rfl):PGs X (e::es) (gCons t u):=by
 intro pins s σ H vs us Q I r h
 obtain⟨v,vr,e1,h⟩:=h
 subst e1
 cases r with
 | cons r rr=>
  rw[hs]
  refine assignInOrder_cons (thn (h1 pins s σ H _ _ _ I r h) λ_ s1 ⟨σ1,H1,I1,q1⟩=>?_)
  exact h2 pins s1 σ1 H1 _ _ Q I1 rr q1
noncomputable def gTup(K:qD)(n:Nat)(t:TGs):TG:=λv σ H Q=>∃a xs,v=.ref a/\SqT K H a xs/\xs.length=n/\t xs σ H Q
theorem zahg{es:List Expr}{k:Nat}{t:TGs}{n:Nat}(hc:X.calm=true)(h:PGs X es t)
  (hn:(assignEach es X.env).length=n:=by rfl) (hst:(assignEach es X.env).findIdx? (·.1)=none:=by rfl):PG X (.Tuple es k pos) (gTup X.K n t):=by
 intro pins s σ H v u Q I r hw
 obtain⟨a,xs,e1,hq,hl,hw⟩:=hw
 subst e1
 cases r
 obtain⟨its,rv,ht,hz⟩:=I.tuple hq
 refine assign_Tuple_tuple (I.ok.hd hc) ht (by simp[hn,<- hl,rv.length]) hst λh' hx=>?_
 have I1:Inv X pins σ H {s with heap:=h'}:=I.kept (t':=s.toks) λb o e=>hx b o (qAT (qh e)) e
 exact h pins _ σ H xs _ Q I1 (by simpa using rv) hw
noncomputable def gSub(to ti:TE)(t:TSet):TG:=λv σ H Q=>to σ H λo H1=>ti σ H1 λi H2=>t o i v H2 λH3=>Q σ H3
theorem zahh{o i:Expr}{to ti:TE}{t:TSet}(ho:PE X o to)(hi:PE X i ti)(hs:PSet X t)
  (ha:∀v,assign (.Subscript o i pos) X.env v=(do
   let ov <- holding [v] (eval o X.env)
   let iv <- holding [v,ov] (eval i X.env)
   standAt pos
   holding [v,ov,iv] (setItem ov iv v)
   release [v,ov,iv] []):=by intro _;rfl):PG X (.Subscript o i pos) (gSub to ti t):=by
 intro pins s σ H v u Q I r h
 rw[ha]
 refine qo (qBC (thn (ho pins s σ H _ I h) λov s1 ⟨x,H1,I1,r1,q1⟩=>?_))
 refine qo (qBC (thn (hi pins s1 σ H1 _ I1 q1) λiv s2 ⟨y,H2,I2,r2,q2⟩=>?_))
 refine qo (qAd (qo (qBC (thn (hs pins s2 σ H2 x y v ov iv u _ I2 r1 r2 r q2) λ_ s3 ⟨H3,I3,q3⟩=>?_))))
 exact wpAny_release ⟨σ,H3,I3,q3⟩
noncomputable def tAsg(te:TE)(g:TG):TS:=λD σ H=>te σ H λx H1=>g x σ H1 D.nx
theorem zadb{tg e:Expr}{te:TE}{g:TG}(he:PE X e te)(hg:PG X tg g)(hs:swapsWithSole [tg] e pos.line X.env=pure false:=by rfl)(hw:swappedStores [tg] e X.env=pure none:=by rfl)
  (h1:(assignEach [tg] X.env).map (·.2)=[assign tg X.env]:=by rfl):PS X (.Assign [tg] e pos) (tAsg te g):=by
 intro pins s σ H D I h
 refine wpAny_Assign_stores (thn (he pins s σ H _ I h) λv s1 ⟨x,H1,I1,r1,q1⟩=>?_) hs hw
 rw[h1]
 exact thn (hg pins s1 σ H1 x v _ I1 r1 q1) λ_ s2 q=>q
theorem zahi{i:Nat}{x:Str}{e:Expr}{te:TE}{pos':Pos}(hN:X.N.Nodup)(hi:X.N[i]?=some x)(hx:Loc X.env.scope x)(he:PE X e te)(hs:swapsWith e (some (.Name x pos')) pos.line X.env=pure false:=by rfl)(hf:X.fn x=true\/X.env.scope.names.lookup x=some .local:=by assumption) :
  PS X (.Assign [.Name x pos'] e pos) (tAsg te (gName i)):=by
 intro pins s σ H D I h
 refine wpAny_Assign_Name (thn (he pins s σ H _ I h) λv s1 ⟨y,H1,I1,r1,q1⟩=>?_) hs
 exact zvs I1 hN hi hx r1 (λs2 I2=>⟨_,H1,I2,q1⟩) hf
end
set_option genInjectivity false in
structure It where
 go:Nat->Hp->Prop
 yld:Nat->Hp->V->Hp->Prop
 stop:Nat->Hp->Prop
noncomputable def FpOk(X:Cx)(pins:List (Addr×Obj))(H:Hp)(b:Addr):Prop:=
 H b=none/\b≠X.env.locals/\b∉X.fs/\(b∈X.ex\/X.s₀.heap.objs.size<=b)/\(∀x c,X.env.cells.lookup x=some c->c≠b)/\∀p∈X.pn++pins,p.1≠b
theorem Inv.fpOk{X:Cx}{pins:List (Addr×Obj)}{σ:St}{H H':Hp}{s:Shared}{b:Addr}(I:Inv X pins σ H s)(hb:s.heap.objs.size<=b)(hn:H' b=none):FpOk X pins H' b:=by
 refine⟨hn,Nat.ne_of_gt (qH I.lt hb),I.nofs hb,.inr (qf I.sz hb),λx c e z=>?_,λp hp z=>?_⟩
 ·obtain⟨v,q⟩:=I.cell x c e
  exact absurd (qH q.lt (by rw[z];exact hb)) (qAW _)
 ·exact absurd (qH (qh (I.pin p hp).1) (by rw[z];exact hb)) (qAW _)
set_option genInjectivity false in
structure Turn(P:Program)(w:World)(K:qD)(tg:Expr)(J:It)(fp:List Addr)(it:Addr)(tn:Nat->Heap->Prop):Prop where
 mem:it∈fp
 obj:∀i h,tn i h->∀b∈fp,∃o,h.get? b=some o/\∀v,o.data≠.cell v
 keep:∀i h h',tn i h->(∀b∈fp,∀o,h.get? b=some o->h'.get? b=some o)->tn i h'
 item:∀(X:Cx),X.prog=P->X.w=w->X.K=K->X.calm=true->∀(i:Nat)(pins:List (Addr×Obj))(s:Shared)(σ:St)(H:Hp)(E:Value->Shared->Prop),Inv X pins σ H s->(∀b∈fp,FpOk X pins H b)->tn i s.heap->J.go i H->
  wpAny (model P w) X.A (pyNext (.ref it)) (λr s1=>∃u,r=some u/\
   wpAny (model P w) X.A (letOwnedTupleGo tg (.ref it) u) (λ_ s2=>∃x H',Inv X pins σ H' s2/\RelV x u/\J.yld i H x H'/\tn (i+1) s2.heap/\∀b∈fp,H' b=none) E s1) E s
 done:∀(X:Cx),X.prog=P->X.w=w->X.K=K->X.calm=true->∀(i:Nat)(pins:List (Addr×Obj))(s:Shared)(σ:St)(H:Hp)(E:Value->Shared->Prop),Inv X pins σ H s->(∀b∈fp,FpOk X pins H b)->tn i s.heap->J.stop i H->
  wpAny (model P w) X.A (pyNext (.ref it)) (λr s1=>r=none/\Inv X pins σ H s1) E s
 self:∀(A:Around)(i:Nat)(s:Shared)(Q:Value->Shared->Prop)(E:Value->Shared->Prop),tn i s.heap->Q (.ref it) s->wpAny (model P w) A (pyIter (.ref it)) Q E s
noncomputable abbrev TI:=St->Hp->(It->Hp->Prop)->Prop
noncomputable def PIE(X:Cx)(pins:List (Addr×Obj))(σ:St)(tg:Expr)(R:It->Hp->Prop)(itv:Value)(s2:Shared):Prop:=
 ∃(it:Addr)(fp:List Addr)(tn:Nat->Heap->Prop)(J:It)(H':Hp),itv=.ref it/\Inv X pins σ H' s2/\Turn X.prog X.w X.K tg J fp it tn/\tn 0 s2.heap/\(∀b∈fp,FpOk X pins H' b)/\R J H'
noncomputable def PI(X:Cx)(tg iter:Expr)(wi:TI):Prop:=
 ∀(pins:List (Addr×Obj))(s:Shared)(σ:St)(H:Hp)(R:It->Hp->Prop),Inv X pins σ H s->wi σ H R->
  wpAny (model X.prog X.w) X.A (eval iter X.env) (λv s1=>wpAny (model X.prog X.w) X.A (pyIter v) (PIE X pins σ tg R) X.xe s1) X.xe s
theorem zaec{M:Model}{A:Around}{E:Value->Shared->Prop}{s:Shared}{tg:Expr}{it:Addr}{u:Value}{o:Obj}{n:String}{vs:Array Value}{Q:Unit->Shared->Prop}(ho:s.heap.get? it=some o)(hc:o.cls=.type n)(hd:o.data=.fields vs)
  (hn:["enumerate","zip","dict_itemiterator","dict_reverseitemiterator","odict_iterator","itertools.zip_longest","itertools.pairwise"].contains n=false) (hQ:Q () s):wpAny M A (letOwnedTupleGo tg (.ref it) u) Q E s:=by
 unfold letOwnedTupleGo
 cases tg<;>first
  | exact qAG hQ
  | (cases u<;>first
    | exact qAG hQ
    | (refine qo (wpAny_load ho ?_)
       rw[hc,hd]
       show wpAny M A (if(["enumerate","zip","dict_itemiterator","dict_reverseitemiterator","odict_iterator","itertools.zip_longest","itertools.pairwise"].contains n&&vs[0]?==some (rawInt _))=true then _ else _) Q E s
       rw[if_neg (by intro h;rw[hn,Bool.false_and]at h;cases h)]
       exact qAG hQ))
noncomputable def Itl(K:qD)(a:Addr):It:=
 ⟨λi H=>∃xs x,SqL K H a xs/\xs[i]?=some x,λi H x H'=>H'=H/\∀xs,SqL K H a xs->xs[i]?=some x,λi H=>∃xs,SqL K H a xs/\xs.length<=i⟩
noncomputable def Itt(K:qD)(a:Addr):It:=
 ⟨λi H=>∃xs x,SqT K H a xs/\xs[i]?=some x,λi H x H'=>H'=H/\∀xs,SqT K H a xs->xs[i]?=some x,λi H=>∃xs,SqT K H a xs/\xs.length<=i⟩
noncomputable def Itr(lo:Int)(n:Nat):It:=⟨λi _=>i<n,λi H x H'=>H'=H/\x=.int (lo+i),λi _=>n<=i⟩
theorem zxx{P:Program}{w:World}{K:qD}{tg:Expr}(a it:Addr):Turn P w K tg (Itl K a) [it] it (λi h=>h.IsListIter it a i) where
 mem:=by simp
 obj:=λi h st b hb=>by
  have e:b=it:=by simpa using hb
  subst e
  obtain⟨o,e,c,d⟩:=st
  exact⟨o,e,λv z=>by rw[d]at z;cases z⟩
 keep:=λi h h' st k=>st.at λo e=>k it (by simp) o e
 item:=by
  intro X hP hw hK hc i pins s σ H E I hf st hg
  subst hP hw hK
  obtain⟨xs,x,hq,hx⟩:=hg
  obtain⟨its,rv,p,hz⟩:=I.list hq
  obtain⟨u,hu,ru⟩:=rv.get hx
  obtain⟨f0,f1,f2,f3,f4,f5⟩:=hf it (by simp)
  refine wpAny_pyNext_list_item st p.isList (x:=u) (by simpa using hu) λh' st' sb=>?_
  have I1:Inv X pins σ H {s with heap:=h'}:=I.turned (t':=s.toks) (λb o hb e=>(sb.2 b hb).trans e) f0 f1 f3 f4 f5
  obtain⟨o,e,c,d⟩:=id st'
  exact⟨u,rfl,zaec (s:={s with heap:=h'}) e c d (by decide) ⟨x,H,I1,ru,⟨rfl,λys hy=>by rw[I.list_inj hy hq];exact hx⟩,st',λb hb=>(hf b hb).1⟩⟩
 done:=by
  intro X hP hw hK hc i pins s σ H E I hf st hg
  subst hP hw hK
  obtain⟨xs,hq,hx⟩:=hg
  obtain⟨its,rv,p,hz⟩:=I.list hq
  obtain⟨f0,f1,f2,f3,f4,f5⟩:=hf it (by simp)
  have hl:=rv.length
  exact wpAny_pyNext_list_end (I.ok.hd hc) st p.isList (by simp;omega) λh' eb=>⟨rfl,I.turned (t':=s.toks) (λb o hb e=>eb b o hb e) f0 f1 f3 f4 f5⟩
 self:=λ_ _ _ _ _ st h=>wpAny_pyIter_listiter st h
theorem zwr{P:Program}{w:World}{K:qD}{tg:Expr}(a it:Addr):Turn P w K tg (Itt K a) [it] it (λi h=>h.IsTupleIter it a i) where
 mem:=by simp
 obj:=λi h st b hb=>by
  have e:b=it:=by simpa using hb
  subst e
  obtain⟨o,e,c,d⟩:=st
  exact⟨o,e,λv z=>by rw[d]at z;cases z⟩
 keep:=λi h h' st k=>st.at λo e=>k it (by simp) o e
 item:=by
  intro X hP hw hK hc i pins s σ H E I hf st hg
  subst hP hw hK
  obtain⟨xs,x,hq,hx⟩:=hg
  obtain⟨its,rv,p,hz⟩:=I.tuple hq
  obtain⟨u,hu,ru⟩:=rv.get hx
  obtain⟨f0,f1,f2,f3,f4,f5⟩:=hf it (by simp)
  refine wpAny_pyNext_tuple_item st (show s.heap.IsTuple a its.toArray from p) (x:=u) (by simpa using hu) λh' st' sb=>?_
  have I1:Inv X pins σ H {s with heap:=h'}:=I.turned (t':=s.toks) (λb o hb e=>(sb.2 b hb).trans e) f0 f1 f3 f4 f5
  obtain⟨o,e,c,d⟩:=id st'
  exact⟨u,rfl,zaec (s:={s with heap:=h'}) e c d (by decide) ⟨x,H,I1,ru,⟨rfl,λys hy=>by rw[I.tuple_inj hy hq];exact hx⟩,st',λb hb=>(hf b hb).1⟩⟩
 done:=by
  intro X hP hw hK hc i pins s σ H E I hf st hg
  subst hP hw hK
  obtain⟨xs,hq,hx⟩:=hg
  obtain⟨its,rv,p,hz⟩:=I.tuple hq
  obtain⟨f0,f1,f2,f3,f4,f5⟩:=hf it (by simp)
  have hl:=rv.length
  exact wpAny_pyNext_tuple_end (I.ok.hd hc) st (show s.heap.IsTuple a its.toArray from p) (by simp;omega) λh' eb=>⟨rfl,I.turned (t':=s.toks) (λb o hb e=>eb b o hb e) f0 f1 f3 f4 f5⟩
 self:=λ_ _ _ _ _ st h=>wpAny_pyIter_tupleiter st h
theorem zws{P:Program}{w:World}{K:qD}{tg:Expr}(it:Addr)(lo:Int)(n:Nat):Turn P w K tg (Itr lo n) [it] it (λi h=>IsRangeIter h it (lo+(i:Nat) * 1) ((n:Int) - (i:Nat)) 1) where
 mem:=by simp
 obj:=λi h st b hb=>by
  have e:b=it:=by simpa using hb
  subst e
  exact⟨_,st,λv z=>by
   have z':Data.fields _=Data.cell v:=z
   cases z'⟩
 keep:=λi h h' st k=>k it (by simp) _ st
 item:=by
  intro X hP hw hK hc i pins s σ H E I hf st hg
  subst hP hw hK
  obtain⟨f0,f1,f2,f3,f4,f5⟩:=hf it (by simp)
  have W:=Walks.range (prog:=X.prog) (w:=X.w) (I.ok.hd hc) it lo 1 n
  refine W.item i s _ _ hg st λv h' tk hv st' kk=>?_
  obtain⟨t,rfl⟩:=hv
  have I1:Inv X pins σ H {s with heap:=h',toks:=tk}:=I.turned (λb o hb e=>kk b o (by simpa using hb) e) f0 f1 f3 f4 f5
  refine⟨_,rfl,zaec (s:={s with heap:=h',toks:=tk}) (n:="range_iterator") st' rfl rfl (by decide) ⟨.int (lo+i),H,I1,⟨t,?_⟩,⟨rfl,rfl⟩,st',λb hb=>(hf b hb).1⟩⟩
  rw[Int.mul_one]
 done:=by
  intro X hP hw hK hc i pins s σ H E I hf st hg
  subst hP hw hK
  obtain⟨f0,f1,f2,f3,f4,f5⟩:=hf it (by simp)
  exact wpAny_pyNext_range_end (I.ok.hd hc) st (by have:n<=i:=hg;omega) λh' eb=>⟨rfl,I.turned (t':=s.toks) (λb o hb e=>eb b o hb e) f0 f1 f3 f4 f5⟩
 self:=λ_ _ _ _ _ st h=>wpAny_pyIter_rangeiter st h
section
variable{X:Cx}{tg:Expr}
theorem zaay{pins:List (Addr×Obj)}{σ:St}{H:Hp}{s:Shared}{R:It->Hp->Prop}{E:Value->Shared->Prop}{lo hi:Int}{t u v:Tok}{tk:Nat}(I:Inv X pins σ H s)(h1:-(2 ^ 62)<=lo)(h2:lo<2 ^ 62)(h3:-(2 ^ 62)<=hi)(h4:hi<2 ^ 62)
  (q:R (Itr lo (hi - lo).toNat) H):wpAny (model X.prog X.w) X.A (pyIter (.ref s.heap.objs.size)) (PIE X pins σ tg R) E {s with heap:=s.heap.push {cls:=.type "range",data:=.fields #[.int lo t,.int hi u,.int 1 v]},toks:=tk}:=by
 refine wpAny_pyIter_range (IsRange.new ..) (small_one h1 h2 h3 h4) ?_
 have I1:Inv X pins σ H {s with heap:=s.heap.push {cls:=.type "range",data:=.fields #[.int lo t,.int hi u,.int 1 v]},toks:=tk}:=I.kept λb o e=>qg _ e
 refine⟨(s.heap.push {cls:=.type "range",data:=.fields #[.int lo t,.int hi u,.int 1 v]}).objs.size,[(s.heap.push {cls:=.type "range",data:=.fields #[.int lo t,.int hi u,.int 1 v]}).objs.size],_,_,H,rfl,
  I1.kept (t':=tk) λb o e=>qg _ e,zws _ lo (hi - lo).toNat,?_,λb hb=>?_,q⟩
 ·have e1:lo+((0:Nat):Int) * 1=lo:=by simp
  have e2:(((hi - lo).toNat:Nat):Int) - ((0:Nat):Int)=Builtin.Range.rangeSize lo hi 1:=by rw[rangeSize_one];split<;>omega
  show IsRangeIter _ _ (lo+((0:Nat):Int) * 1) ((((hi - lo).toNat:Nat):Int) - ((0:Nat):Int)) 1
  rw[e1,e2]
  exact qAQ _ rfl
 ·have e:b=(s.heap.push {cls:=.type "range",data:=.fields #[.int lo t,.int hi u,.int 1 v]}).objs.size:=by simpa using hb
  subst e
  exact I1.fpOk (qI _) (I1.hok.fresh (qI _))
noncomputable def iRng1(ta:TA):TI:=λσ H R=>ta σ H λvs H1=>∃j:Int,vs=[.int j]/\-(2 ^ 62)<=j/\j<2 ^ 62/\R (Itr 0 j.toNat) H1
theorem zxy{a:Expr}{ta:TA}{p pos:Pos}(hg:Gl X "range")(hm:X.mg "range"=none)(ha:PA X [a] ta)(hs:starEach [a] X.env=[(false,eval a X.env)]:=by rfl):PI X tg (.Call (.Name "range" p) [a] [] pos) (iRng1 ta):=by
 intro pins s σ H R I h
 refine Call_ (zpr I hg hm boot_range (qAw (thn (ha pos pins s σ H _ I h) λus s1 ⟨vs,H1,I1,r1,q1⟩=>?_) hs rfl))
 obtain⟨j,e,q1,q2,q⟩:=q1
 subst e
 cases r1 with
 | cons r rr=>
  cases rr
  obtain⟨t,rfl⟩:=r
  exact call_range_1 (zaay I1 (by omega) (by omega) q1 q2 (by simpa using q))
noncomputable def tFor(wi:TI)(g:TG)(tb:TS):TS:=λD σ H=>wi σ H λJ H1=>∃W:Nat->Nat->St->Hp->Prop,(∃m,W 0 m σ H1)/\∀i m σ H,W i m σ H->
 (J.stop i H/\D.nx σ H)\/(J.go i H/\∃N:St->Hp->Prop,(∀σ' H',N σ' H'->∃m',m'<m/\W (i+1) m' σ' H')/\∀x H',J.yld i H x H'->g x σ H' λσ2 H2=>tb {D with nx:=N,ct:=N,bk:=D.nx} σ2 H2)
noncomputable def zrx(fp:List Addr)(h:Heap):List (Addr×Obj):=fp.filterMap λb=>(h.get? b).map λo=>(b,o)
theorem zjo{fp:List Addr}{h:Heap}{b:Addr}{o:Obj}(hb:b∈fp)(e:h.get? b=some o):(b,o)∈zrx fp h:=List.mem_filterMap.mpr ⟨b,hb,by rw[e];rfl⟩
theorem zxz{fp:List Addr}{h:Heap}{p:Addr×Obj}(hp:p∈zrx fp h):p.1∈fp/\h.get? p.1=some p.2:=by
 obtain⟨b,hb,e⟩:=List.mem_filterMap.mp hp
 cases q:h.get? b with
 | none=>rw[q]at e;cases e
 | some o=>
  rw[q]at e
  have e':(b,o)=p:=qu e
  subst e'
  exact⟨hb,q⟩
theorem Inv.pinned{pins:List (Addr×Obj)}{σ:St}{H:Hp}{s:Shared}{fp:List Addr}(I:Inv X pins σ H s)(hf:∀b∈fp,FpOk X pins H b)(ho:∀b∈fp,∃o,s.heap.get? b=some o/\∀v,o.data≠.cell v):Inv X (pins++zrx fp s.heap) σ H s:=
 I.pins_of λp hp=>(qz.mp hp).elim (λz=>I.pin p (qq _ z)) λz=>by
  obtain⟨hb,e⟩:=zxz z
  obtain⟨f0,f1,f2,_⟩:=hf p.1 hb
  obtain⟨o,e',d⟩:=ho p.1 hb
  rw[e]at e';cases e'
  exact⟨e,f0,f1,f2,d⟩
theorem Inv.unpinned{pins pl:List (Addr×Obj)}{σ:St}{H:Hp}{s:Shared}(I:Inv X (pins++pl) σ H s):Inv X pins σ H s:=I.pins_of λp hp=>I.pin p (qq _ (qAK _ hp))
theorem zahj{iter:Expr}{body:List Stmt}{wi:TI}{g:TG}{tb:TS}{pos:Pos}(hp:PassesOwn (model X.prog X.w) X.A X.env X.xe)(hc:X.calm=true)(hi:PI X tg iter wi)(hg:PG X tg g)(hb:PSs X body tb)
  (hs:∀x,foldedSetIterable iter X.env x=pure x:=by intro _;rfl):PS X (.For tg iter body [] pos) (tFor wi g tb):=by
 intro pins s σ H D I h
 refine wpAny_For (thn (hi pins s σ H _ I h) λv s1 h1=>thn h1 λitv s2 h2=>?_) hs
 obtain⟨it,fp,tn,J,H2,e,I2,T,st2,f2,W,⟨m0,w0⟩,turn⟩:=h2
 subst e
 have stat:∀{H':Hp},(∀b∈fp,H' b=none)->∀b∈fp,FpOk X pins H' b:=λhn b hb=>⟨hn b hb,(f2 b hb).2⟩
 refine codeAny_forLoop_any (λn s'=>∃i σ' H',Inv X pins σ' H' s'/\tn i s'.heap/\(∀b∈fp,H' b=none)/\W i n σ' H') ?_ m0 ⟨0,σ,H2,I2,st2,λb hb=>(f2 b hb).1,w0⟩
 rintro n s3 ⟨i,σ3,H3,I3,st3,fr3,w3⟩
 rcases turn i n σ3 H3 w3 with⟨stop,qn⟩|⟨go,N,hN,step⟩
 ·refine qAm hp (thn (T.done X rfl rfl rfl hc i pins s3 σ3 H3 X.xe I3 (stat fr3) st3 stop) λr s4 ⟨hr,I4⟩=>?_)
  subst hr
  exact qBT ⟨σ3,H3,I4,qn⟩
 ·refine qAm hp (thn (T.item X rfl rfl rfl hc i pins s3 σ3 H3 X.xe I3 (stat fr3) st3 go) λr s4 ⟨u,hr,h4⟩=>?_)
  subst hr
  refine qAm hp (thn h4 λ_ s5 ⟨x,H5,I5,r5,y5,st5,fr5⟩=>?_)
  have I5':=I5.pinned (stat fr5) (T.obj _ _ st5)
  refine qAm hp (thn (hg _ s5 σ3 H5 x u _ I5' r5 (step x H5 y5)) λ_ s6 ⟨σ6,H6,I6,q6⟩=>?_)
  refine qAm hp (thn (hb _ s6 σ6 H6 _ I6 q6) λf s7 q7=>?_)
  have again:∀{σ7:St}{H7:Hp},Inv X (pins++zrx fp s5.heap) σ7 H7 s7->N σ7 H7->∃m,m<n/\∃i σ' H',Inv X pins σ' H' s7/\tn i s7.heap/\(∀b∈fp,H' b=none)/\W i m σ' H':=λ{σ7 H7} I7 n7=>by
   obtain⟨m',hm,w7⟩:=hN σ7 H7 n7
   refine⟨m',hm,i+1,σ7,H7,I7.unpinned,T.keep _ _ _ st5 λb hb o e=>(I7.pin (b,o) (qq _ (qq _ (zjo hb e)))).1,λb hb=>?_,w7⟩
   obtain⟨o,e,d⟩:=T.obj _ _ st5 b hb
   exact(I7.pin (b,o) (qq _ (qq _ (zjo hb e)))).2.1
  cases f with
  | next=>obtain⟨σ7,H7,I7,n7⟩:=q7;exact again I7 n7
  | cont=>obtain⟨σ7,H7,I7,n7⟩:=q7;exact again I7 n7
  | brk=>obtain⟨σ7,H7,I7,q7⟩:=q7;exact⟨σ7,H7,I7.unpinned,q7⟩
  | ret v=>obtain⟨x7,σ7,H7,I7,r7,q7⟩:=q7;exact⟨x7,σ7,H7,I7.unpinned,r7,q7⟩
end
noncomputable abbrev R2:=V->V->Hp->VK->Prop
noncomputable def OpR(X:Cx)(f:Value->Value->Sem Value)(r:R2):Prop:=
 ∀(pins:List (Addr×Obj))(s:Shared)(σ:St)(H:Hp)(x y:V)(v u:Value)(Q:VK),Inv X pins σ H s->RelV x v->RelV y u->r x y H Q->
  wpAny (model X.prog X.w) X.A (f v u) (EP X pins σ Q) X.xe s
noncomputable def UnR(X:Cx)(f:Value->Sem Value)(r:V->Hp->VK->Prop):Prop:=
 ∀(pins:List (Addr×Obj))(s:Shared)(σ:St)(H:Hp)(x:V)(v:Value)(Q:VK),Inv X pins σ H s->RelV x v->r x H Q->
  wpAny (model X.prog X.w) X.A (f v) (EP X pins σ Q) X.xe s
noncomputable def CallR(X:Cx)(f:Value)(r:List V->Hp->VK->Prop):Prop:=
 ∀(pins:List (Addr×Obj))(s:Shared)(σ:St)(H:Hp)(xs:List V)(us:List Value)(Q:VK),Inv X pins σ H s->Vals xs us->r xs H Q->
  wpAny (model X.prog X.w) X.A (call f us) (EP X pins σ Q) X.xe s
noncomputable def TruR(X:Cx)(r:V->Hp->(Bool->Hp->Prop)->Prop):Prop:=
 ∀(pins:List (Addr×Obj))(s:Shared)(σ:St)(H:Hp)(x:V)(v:Value)(Q:Bool->Hp->Prop),Inv X pins σ H s->RelV x v->r x H Q->
  wpAny (model X.prog X.w) X.A (truthy v) (TP X pins σ Q) X.xe s
noncomputable def tOp(r:R2)(ta tb:TE):TE:=λσ H Q=>ta σ H λx H1=>tb σ H1 λy H2=>r x y H2 Q
noncomputable def tUn(r:V->Hp->VK->Prop)(ta:TE):TE:=λσ H Q=>ta σ H λx H1=>r x H1 Q
noncomputable def rI(C:Int->Int->Prop)(g:Int->Int->V):R2:=λx y H Q=>∃i j,x=.int i/\y=.int j/\C i j/\Q (g i j) H
noncomputable def rI0(g:Int->Int->V):R2:=λx y H Q=>∃i j,x=.int i/\y=.int j/\Q (g i j) H
noncomputable def rU(g:Int->V):V->Hp->VK->Prop:=λx H Q=>∃i,x=.int i/\Q (g i) H
section
variable{X:Cx}{a b c:Expr}{ta tb tc:TE}{pos:Pos}
theorem binT(ha:PE X a ta)(hb:PE X b tb){pins:List (Addr×Obj)}{s:Shared}{σ:St}{H:Hp}{R:V->V->Hp->Prop}(I:Inv X pins σ H s)
  (h:ta σ H λx H1=>tb σ H1 λy H2=>R x y H2){Q:Value->Shared->Prop}{f:Value->Value->Sem Value}
  (hf:∀v u s2 x y H2,Inv X pins σ H2 s2->RelV x v->RelV y u->R x y H2->wpAny (model X.prog X.w) X.A (f v u) Q X.xe s2) :
  wpAny (model X.prog X.w) X.A (eval a X.env) (λv s₁=>wpAny (model X.prog X.w) X.A (eval b X.env) (λu s₂=>wpAny (model X.prog X.w) X.A (f v u) Q X.xe s₂) X.xe s₁) X.xe s:=by
 refine thn (ha pins s σ H _ I h) λv s1 ⟨x,H1,I1,r1,q1⟩=>?_
 refine thn (hb pins s1 σ H1 _ I1 q1) λu s2 ⟨y,H2,I2,r2,q2⟩=>?_
 exact hf v u s2 x y H2 I2 r1 r2 q2
theorem zakj{op:Operator}{r:R2}(ho:OpR X (binaryOp op) r)(ha:PE X a ta)(hb:PE X b tb):PE X (.BinOp a op b pos) (tOp r ta tb):=by
 intro pins s σ H Q I h
 exact wpAny_BinOp (binT ha hb I h λv u s2 x y H2 I2 rx ry q=>ho pins s2 σ H2 x y v u Q I2 rx ry q)
theorem zakk{op:UnaryOp}{r:V->Hp->VK->Prop}(ho:UnR X (unaryOp op) r)(ha:PE X a ta):PE X (.UnaryOp op a pos) (tUn r ta):=by
 intro pins s σ H Q I h
 exact UnaryOp_ (thn (ha pins s σ H _ I h) λv s1 ⟨x,H1,I1,r1,q1⟩=>ho pins s1 σ H1 x v Q I1 r1 q1)
theorem opI{f:Value->Value->Sem Value}{C:Int->Int->Prop}{g:Int->Int->Int}
  (rule:∀(i j:Int)(t u:Tok)(s:Shared)(Q:Value->Shared->Prop)(E:Value->Shared->Prop),C i j->Q (.int (g i j) s.toks) {s with toks:=s.toks+1}->wpAny (model X.prog X.w) X.A (f (.int i t) (.int j u)) Q E s) :
  OpR X f (rI C λi j=>.int (g i j)):=by
 intro pins s σ H x y v u Q I rx ry h
 obtain⟨i,j,rfl,rfl,hc,q⟩:=h
 obtain⟨t,rfl⟩:=rx
 obtain⟨t',rfl⟩:=ry
 exact rule i j t t' s _ _ hc ⟨.int (g i j),H,I.tok _,⟨_,rfl⟩,q⟩
theorem opI0{f:Value->Value->Sem Value}{g:Int->Int->Int}
  (rule:∀(i j:Int)(t u:Tok)(s:Shared)(Q:Value->Shared->Prop)(E:Value->Shared->Prop),Q (.int (g i j) s.toks) {s with toks:=s.toks+1}->wpAny (model X.prog X.w) X.A (f (.int i t) (.int j u)) Q E s) :
  OpR X f (rI0 λi j=>.int (g i j)):=by
 intro pins s σ H x y v u Q I rx ry h
 obtain⟨i,j,rfl,rfl,q⟩:=h
 obtain⟨t,rfl⟩:=rx
 obtain⟨t',rfl⟩:=ry
 exact rule i j t t' s _ _ ⟨.int (g i j),H,I.tok _,⟨_,rfl⟩,q⟩
theorem opB0{f:Value->Value->Sem Value}{g:Int->Int->Bool}
  (rule:∀(i j:Int) (t u:Tok) (s:Shared) (Q:Value->Shared->Prop) (E:Value->Shared->Prop),Q (.bool (g i j)) s->wpAny (model X.prog X.w) X.A (f (.int i t) (.int j u)) Q E s) :
  OpR X f (rI0 λi j=>.bl (g i j)):=by
 intro pins s σ H x y v u Q I rx ry h
 obtain⟨i,j,rfl,rfl,q⟩:=h
 obtain⟨t,rfl⟩:=rx
 obtain⟨t',rfl⟩:=ry
 exact rule i j t t' s _ _ ⟨.bl (g i j),H,I,rfl,q⟩
noncomputable def CDiv(i j:Int):Prop:=0<j/\j<1073741824
noncomputable def CMul(i j:Int):Prop:=(-(2 ^ 64)<i/\i<2 ^ 64)\/(-(2 ^ 64)<j/\j<2 ^ 64)
theorem CMul.ok{i j:Int}(h:CMul i j):IntMulOk i j:=by
 rcases h with⟨h1,h2⟩|⟨h1,h2⟩
 ·exact .of_left (intBits_le_64 h1 h2)
 ·exact .of_right (intBits_le_64 h1 h2)
theorem zahk:OpR X (binaryOp .Add) (rI0 λi j=>.int (i+j)):=opI0 λ_ _ _ _ _ _ _ q=>add_int q
theorem zadc:OpR X (binaryOp .Sub) (rI0 λi j=>.int (i - j)):=opI0 λ_ _ _ _ _ _ _ q=>sub_int q
theorem zahl:OpR X (binaryOp .Mult) (rI CMul λi j=>.int (i * j)):=opI λ_ _ _ _ _ _ _ hc q=>mul_int q hc.ok
theorem zmp:OpR X (binaryOp .FloorDiv) (rI CDiv λi j=>.int (i / j)):=opI λi j _ _ _ _ _ hc q=>by
 have h1:(0:Int)<j:=hc.1
 have h2:j<1073741824:=hc.2
 exact floordiv_int (by omega) (by rw[Int.fdiv_eq_ediv_of_nonneg i (by omega)];exact q) (.inl (PyProof.noPylong_small (by omega)))
theorem zhw:OpR X (binaryOp .Mod) (rI (λ_ j=>0<j) λi j=>.int (i % j)):=opI λi j _ _ _ _ _ hc q=>by
 have h1:(0:Int)<j:=hc
 exact mod_int' (by omega) (by rw[Int.fmod_eq_emod_of_nonneg i (by omega)];exact q)
theorem unI{f:Value->Sem Value}{g:Int->Int}
  (rule:∀(i:Int)(t:Tok)(s:Shared)(Q:Value->Shared->Prop)(E:Value->Shared->Prop),Q (.int (g i) s.toks) {s with toks:=s.toks+1}->wpAny (model X.prog X.w) X.A (f (.int i t)) Q E s) :
  UnR X f (rU λi=>.int (g i)):=by
 intro pins s σ H x v Q I rx h
 obtain⟨i,rfl,q⟩:=h
 obtain⟨t,rfl⟩:=rx
 exact rule i t s _ _ ⟨.int (g i),H,I.tok _,⟨_,rfl⟩,q⟩
theorem zadd:UnR X (unaryOp .USub) (rU λi=>.int (-i)):=unI λ_ _ _ _ _ q=>neg_int q
end
noncomputable def scal:V->V->Bool
 | .non,.non=>true|.non,.int _=>true|.int _,.non=>true|.non,.bl _=>true|.bl _,.non=>true|.non,.str _=>true|.str _,.non=>true
 | .int _,.int _=>true|.bl _,.bl _=>true|.str _,.str _=>true|.byt _,.byt _=>true
 | .int _,.str _=>true|.str _,.int _=>true|.bl _,.str _=>true|.str _,.bl _=>true
 | _,_=>false
noncomputable def rEq:R2:=λx y H Q=>scal x y=true/\Q (.bl (decide (x=y))) H
noncomputable def rNe:R2:=λx y H Q=>scal x y=true/\Q (.bl (!decide (x=y))) H
theorem zua{i j:Int}:decide (V.int i=V.int j)=(i==j):=by
 rw[qAl]
 simp
theorem zya{i j:Bool}:decide (V.bl i=V.bl j)=(i==j):=by
 rw[qAl]
 simp
theorem zub{i j:Str}:decide (V.str i=V.str j)=(i==j):=by
 rw[qAl]
 simp
theorem zyb{i j:Array UInt8}:decide (V.byt i=V.byt j)=(i.toList==j.toList):=by
 rw[qAl]
 cases i
 cases j
 simp
section
variable{X:Cx}{a b c:Expr}{ta tb tc:TE}{pos:Pos}
theorem zcf{pins:List (Addr×Obj)}{σ:St}{H:Hp}{s:Shared}{Q:VK}{k k':Bool}(I:Inv X pins σ H s)(q:Q (.bl k) H)(e:k=k'):EP X pins σ Q (.bool k') s:=by
 subst e
 exact⟨.bl k,H,I,rfl,q⟩
theorem zakl:OpR X (compareOp .Eq) rEq:=by
 intro pins s σ H x y v u Q I rx ry h
 obtain⟨hs,q⟩:=h
 cases x with
 | non=>
  cases rx
  cases y with
  | non=>cases ry;exact PySem.EqNone.eq_none_none (zcf I q (by simp))
  | bl j=>cases ry;exact PySem.EqNone.eq_none_bool (zcf I q (by simp))
  | int j=>obtain⟨t',rfl⟩:=ry;exact PySem.EqNone.eq_none_int (zcf I q (by simp))
  | str j=>obtain⟨t',rfl⟩:=ry;exact PySem.EqNone.eq_none_str (zcf I q (by simp))
  | _=>exact absurd (show false=true from hs) qK
 | bl i=>
  cases rx
  cases y with
  | non=>cases ry;exact PySem.EqNone.eq_bool_none (zcf I q (by simp))
  | bl j=>cases ry;exact eq_bool (zcf I q zya)
  | str j=>obtain⟨t',rfl⟩:=ry;exact PySem.EqMixed.eq_bool_str (zcf I q (by simp))
  | _=>exact absurd (show false=true from hs) qK
 | int i=>
  obtain⟨t,rfl⟩:=rx
  cases y with
  | non=>cases ry;exact PySem.EqNone.eq_int_none (zcf I q (by simp))
  | int j=>obtain⟨t',rfl⟩:=ry;exact eq_int (zcf I q zua)
  | str j=>obtain⟨t',rfl⟩:=ry;exact PySem.EqMixed.eq_int_str (zcf I q (by simp))
  | _=>exact absurd (show false=true from hs) qK
 | str i=>
  obtain⟨t,rfl⟩:=rx
  cases y with
  | non=>cases ry;exact PySem.EqNone.eq_str_none (zcf I q (by simp))
  | bl j=>cases ry;exact PySem.EqMixed.eq_str_bool (zcf I q (by simp))
  | int j=>obtain⟨t',rfl⟩:=ry;exact PySem.EqMixed.eq_str_int (zcf I q (by simp))
  | str j=>obtain⟨t',rfl⟩:=ry;exact eq_str (zcf I q zub)
  | _=>exact absurd (show false=true from hs) qK
 | byt i=>
  obtain⟨t,rfl⟩:=rx
  cases y with
  | byt j=>obtain⟨t',rfl⟩:=ry;exact PySem.W.eq_bytes (zcf I q zyb)
  | _=>exact absurd (show false=true from hs) qK
 | _=>cases y<;>exact absurd (show false=true from hs) qK
theorem zakm:OpR X (compareOp .NotEq) rNe:=by
 intro pins s σ H x y v u Q I rx ry h
 obtain⟨hs,q⟩:=h
 cases x with
 | non=>
  cases rx
  cases y with
  | non=>cases ry;exact PySem.EqNone.ne_none_none (zcf I q (by simp))
  | bl j=>cases ry;exact PySem.EqNone.ne_none_bool (zcf I q (by simp))
  | int j=>obtain⟨t',rfl⟩:=ry;exact PySem.EqNone.ne_none_int (zcf I q (by simp))
  | str j=>obtain⟨t',rfl⟩:=ry;exact PySem.EqNone.ne_none_str (zcf I q (by simp))
  | _=>exact absurd (show false=true from hs) qK
 | bl i=>
  cases rx
  cases y with
  | non=>cases ry;exact PySem.EqNone.ne_bool_none (zcf I q (by simp))
  | bl j=>cases ry;exact ne_bool (zcf I q (congrArg not zya))
  | str j=>obtain⟨t',rfl⟩:=ry;exact PySem.EqMixed.ne_bool_str (zcf I q (by simp))
  | _=>exact absurd (show false=true from hs) qK
 | int i=>
  obtain⟨t,rfl⟩:=rx
  cases y with
  | non=>cases ry;exact PySem.EqNone.ne_int_none (zcf I q (by simp))
  | int j=>obtain⟨t',rfl⟩:=ry;exact ne_int (zcf I q (congrArg not zua))
  | str j=>obtain⟨t',rfl⟩:=ry;exact PySem.EqMixed.ne_int_str (zcf I q (by simp))
  | _=>exact absurd (show false=true from hs) qK
 | str i=>
  obtain⟨t,rfl⟩:=rx
  cases y with
  | non=>cases ry;exact PySem.EqNone.ne_str_none (zcf I q (by simp))
  | bl j=>cases ry;exact PySem.EqMixed.ne_str_bool (zcf I q (by simp))
  | int j=>obtain⟨t',rfl⟩:=ry;exact PySem.EqMixed.ne_str_int (zcf I q (by simp))
  | str j=>obtain⟨t',rfl⟩:=ry;exact ne_str (zcf I q (congrArg not zub))
  | _=>exact absurd (show false=true from hs) qK
 | byt i=>
  obtain⟨t,rfl⟩:=rx
  cases y with
  | byt j=>obtain⟨t',rfl⟩:=ry;exact PySem.W.ne_bytes (zcf I q (congrArg not zyb))
  | _=>exact absurd (show false=true from hs) qK
 | _=>cases y<;>exact absurd (show false=true from hs) qK
theorem zaaz:OpR X (compareOp .Lt) (rI0 λi j=>.bl (decide (i<j))):=opB0 λ_ _ _ _ _ _ _ q=>lt_int q
theorem zyc:OpR X (compareOp .Gt) (rI0 λi j=>.bl (decide (j<i))):=opB0 λ_ _ _ _ _ _ _ q=>gt_int q
theorem zakn:OpR X (compareOp .GtE) (rI0 λi j=>.bl (decide (j<=i))):=opB0 λ_ _ _ _ _ _ _ q=>ge_int q
theorem OpR.or{f:Value->Value->Sem Value}{r r':R2}(h:OpR X f r)(h':OpR X f r'):OpR X f (λx y H Q=>r x y H Q\/r' x y H Q):=by
 intro pins s σ H x y v u Q I rx ry q
 rcases q with q|q
 ·exact h pins s σ H x y v u Q I rx ry q
 ·exact h' pins s σ H x y v u Q I rx ry q
theorem zco(b:Expr){op:CmpOp}(h:op≠.In:=by decide)(h2:op≠.NotIn:=by decide):behindInMarks op b=false:=by
 have e1:(op==CmpOp.In)=false:=by cases op<;>first|rfl|exact absurd rfl h
 have e2:(op==CmpOp.NotIn)=false:=by cases op<;>first|rfl|exact absurd rfl h2
 cases b<;>simp[behindInMarks,e1,e2]
theorem zaed{op:CmpOp}{r:R2}(ho:OpR X (compareOp op) r)(ha:PE X a ta)(hb:PE X b tb)(hm:behindInMarks op b=false):PE X (.Compare a [op] [b] pos) (tOp r ta tb):=by
 intro pins s σ H Q I h
 exact wpAny_Compare1 (binT ha hb I h λv u s2 x y H2 I2 rx ry q=>ho pins s2 σ H2 x y v u Q I2 rx ry q) hm
noncomputable def tTest(t:TE):TT:=λσ H Q=>t σ H λx H'=>∃k,x=.bl k/\Q k H'
theorem zaee{op:CmpOp}{r:R2}(ho:OpR X (compareOp op) r)(ha:PE X a ta)(hb:PE X b tb)(hm:behindInMarks op b=false):PT X (.Compare a [op] [b] pos) (tTest (tOp r ta tb)):=by
 intro pins s σ H Q I h
 refine wpAny_isTrue_Compare1 (thn (ha pins s σ H _ I h) λv s1 ⟨x,H1,I1,r1,q1⟩=>thn (hb pins s1 σ H1 _ I1 q1) λu s2 ⟨y,H2,I2,r2,q2⟩=>
  thn (ho pins s2 σ H2 x y v u _ I2 r1 r2 q2) λc s3 ⟨z,H3,I3,r3,k,e,q3⟩=>?_) hm
 subst e
 cases r3
 exact qBL ⟨H3,I3,q3⟩
noncomputable def TruV(K:qD)(x:V)(H:Hp)(k:Bool):Prop:=
 match x with
 | .non=>k=false
 | .bl b=>k=b
 | .int i=>k=(i != 0)
 | .str y=>y.length<=qc/\k=((y.length:Int) != 0)
 | .byt y=>y.size<=qc/\k=((y.size:Int) != 0)
 | .ref p=>(∃xs,SqL K H p xs/\k=!xs.isEmpty)\/(∃xs,SqT K H p xs/\k=!xs.isEmpty)\/∃kvs,H p=some (.dK kvs)/\k=!kvs.isEmpty
 | _=>False
theorem zwt{κ:Type}{kvs:List (κ×V)}{vs:List (κ×Value)}(r:KV kvs vs):(!vs.isEmpty)=!kvs.isEmpty:=by
 cases r<;>rfl
theorem zps{xs:List V}{its:List Value}(r:Vals xs its):(!its.toArray.isEmpty)=!xs.isEmpty:=by
 cases r<;>simp
theorem zpt:(qc:Nat)<2 ^ 63:=by rw[qAi];decide
theorem zahm:TruR X (λx H Q=>∃k,TruV X.K x H k/\Q k H):=by
 intro pins s σ H x v Q I rx h
 obtain⟨k,e,q⟩:=h
 have hl:=zpt
 have hs:qc=16777216:=qAi
 cases x with
 | non=>
  cases rx
  have e':k=false:=e
  subst e'
  exact truthy_none ⟨H,I,q⟩
 | bl b=>
  cases rx
  have e':k=b:=e
  subst e'
  exact qBL ⟨H,I,q⟩
 | int i=>
  obtain⟨t,rfl⟩:=rx
  have e':k=(i != 0):=e
  subst e'
  exact PySem.P.truthy_int ⟨H,I,q⟩
 | str y=>
  obtain⟨t,rfl⟩:=rx
  obtain⟨hy,e'⟩:y.length<=qc/\k=((y.length:Int) != 0):=e
  subst e'
  exact PySem.P.truthy_str (by omega) ⟨H,I.tok _,q⟩
 | byt y=>
  obtain⟨t,rfl⟩:=rx
  obtain⟨hy,e'⟩:y.size<=qc/\k=((y.size:Int) != 0):=e
  subst e'
  exact PySem.W.truthy_bytes (by omega) ⟨H,I.tok _,q⟩
 | ref p=>
  cases rx
  have e':(∃xs,SqL X.K H p xs/\k=!xs.isEmpty)\/(∃xs,SqT X.K H p xs/\k=!xs.isEmpty)\/∃kvs,H p=some (.dK kvs)/\k=!kvs.isEmpty:=e
  rcases e' with⟨xs,hx,e'⟩|⟨xs,hx,e'⟩|⟨kvs,hx,e'⟩
  ·subst e'
   obtain⟨its,r,pl,hz⟩:=I.list hx
   have hlen:=r.length
   exact wpAny_truthy_list pl.isList (by simp only[qJ];omega) ⟨H,I.tok _,by rw[zps r];exact q⟩
  ·subst e'
   obtain⟨its,r,pl,hz⟩:=I.tuple hx
   have hlen:=r.length
   exact truthy_tuple pl (by simp only[qJ];omega) ⟨H,I.tok _,by rw[zps r];exact q⟩
  ·subst e'
   obtain⟨hz,hS,vs,r,m⟩:kvs.length<=qc/\(p==sysModules)=false/\∃vs,KV kvs vs/\s.heap.DictOf (ztz X.prog X.w) p vs:=I.hok p _ hx
   have hlen:kvs.length=vs.length:=Paired.length r
   exact wpAny_truthy_dict hS m (by omega) ⟨H,I.tok _,by rw[zwt r];exact q⟩
 | _=>exact(show False from e).elim
theorem zaba(ha:PE X a ta)(he:∀whole,isTrue a X.env whole=(do let v <- whole;standAt a.pos;holding [v] (truthy v))) :
  PT X a (λσ H Q=>ta σ H λx H'=>∃k,TruV X.K x H' k/\Q k H'):=by
 intro pins s σ H Q I h
 exact isTrue_plain (thn (ha pins s σ H _ I h) λv s1 ⟨x,H1,I1,r1,q1⟩=>zahm pins s1 σ H1 x v Q I1 r1 q1) (he _)
theorem zwu:OpR X (binaryOp .Add) (λx y H Q=>∃i j,x=.str i/\y=.str j/\i.length+j.length<=qc/\Q (.str (i++j)) H):=by
 intro pins s σ H x y v u Q I rx ry h
 obtain⟨i,j,rfl,rfl,hz,q⟩:=h
 obtain⟨t,rfl⟩:=rx
 obtain⟨t',rfl⟩:=ry
 exact add_str (λt' tk=>⟨.str (i++j),H,I.tok _,⟨_,rfl⟩,q⟩) hz
theorem zpi{x:V}{us:List Value}(r:Vals [x] us):∃u,us=[u]/\RelV x u:=by
 cases r with
 | cons r1 r2=>cases r2;exact⟨_,rfl,r1⟩
theorem zahn{x y:V}{us:List Value}(r:Vals [x,y] us):∃u w',us=[u,w']/\RelV x u/\RelV y w':=by
 cases r with
 | cons r1 r2=>
  cases r2 with
  | cons r3 r4=>cases r4;exact⟨_,_,rfl,r1,r3⟩
theorem zqo:CallR X (.builtin "abs") (λxs H Q=>∃i,xs=[.int i]/\Q (.int (if i<0 then -i else i)) H):=by
 intro pins s σ H xs us Q I r h
 obtain⟨i,rfl,q⟩:=h
 obtain⟨u,rfl,t,rfl⟩:=zpi r
 exact call_abs_int λu tk=>⟨.int (if i<0 then -i else i),H,I.tok _,⟨_,rfl⟩,q⟩
theorem zry(hc:X.calm=true):CallR X (.builtin "min") (λxs H Q=>∃i j,xs=[.int i,.int j]/\Q (.int (if j<i then j else i)) H):=by
 intro pins s σ H xs us Q I r h
 obtain⟨i,j,rfl,q⟩:=h
 obtain⟨u,w',rfl,⟨t,rfl⟩,⟨t',rfl⟩⟩:=zahn r
 refine min_two_ints (I.ok.hd hc) λh' tk k=>⟨_,H,I.kept k,?_,q⟩
 by_cases hj:j<i
 ·rw[if_pos hj,if_pos hj];exact⟨_,rfl⟩
 ·rw[if_neg hj,if_neg hj];exact⟨_,rfl⟩
theorem zki:CallR X (.type "int") (λxs H Q=>(∃i,xs=[.int i]/\Q (.int i) H)\/∃k,xs=[.bl k]/\Q (.int (if k then 1 else 0)) H):=by
 intro pins s σ H xs us Q I r h
 rcases h with⟨i,rfl,q⟩|⟨k,rfl,q⟩
 ·obtain⟨u,rfl,t,rfl⟩:=zpi r
  exact call_int_int ⟨.int i,H,I,⟨_,rfl⟩,q⟩
 ·obtain⟨u,rfl,r1⟩:=zpi r
  cases r1
  exact call_int_bool ⟨.int (if k then 1 else 0),H,I.tok _,⟨_,rfl⟩,q⟩
theorem zrz:CallR X (.type "str") (λxs H Q=>∃i,xs=[.int i]/\i.natAbs.log2<1920/\Q (.str (toString i)) H):=by
 intro pins s σ H xs us Q I r h
 obtain⟨i,rfl,hz,q⟩:=h
 obtain⟨u,rfl,t,rfl⟩:=zpi r
 exact PySem.P.str_of_int hz ⟨.str _,H,I.tok _,⟨_,rfl⟩,q⟩
noncomputable def LenV(K:qD)(x:V)(H:Hp)(n:Nat):Prop:=
 match x with
 | .str y=>y.length<=qc/\n=y.length
 | .byt y=>y.size<=qc/\n=y.size
 | .ref p=>(∃xs,SqL K H p xs/\n=xs.length)\/∃xs,SqT K H p xs/\n=xs.length
 | _=>False
theorem zabb:CallR X (.builtin "len") (λxs H Q=>∃x n,xs=[x]/\LenV X.K x H n/\Q (.int n) H):=by
 intro pins s σ H xs us Q I r h
 obtain⟨x,n,rfl,e,q⟩:=h
 obtain⟨u,rfl,rx⟩:=zpi r
 have hl:=zpt
 have hs:qc=16777216:=qAi
 cases x with
 | str y=>
  obtain⟨t,rfl⟩:=rx
  obtain⟨hy,e'⟩:y.length<=qc/\n=y.length:=e
  subst e'
  exact len_str (by omega) ⟨.int _,H,I.tok _,⟨_,rfl⟩,q⟩
 | byt y=>
  obtain⟨t,rfl⟩:=rx
  obtain⟨hy,e'⟩:y.size<=qc/\n=y.size:=e
  subst e'
  exact PySem.W.len_bytes (by omega) ⟨.int _,H,I.tok _,⟨_,rfl⟩,q⟩
 | ref p=>
  cases rx
  have e':(∃xs,SqL X.K H p xs/\n=xs.length)\/∃xs,SqT X.K H p xs/\n=xs.length:=e
  rcases e' with⟨xs,hx,e'⟩|⟨xs,hx,e'⟩
  ·subst e'
   obtain⟨its,r',pl,hz⟩:=I.list hx
   have hlen:=r'.length
   exact Calls.call_len_list pl.isList (by simp only[qJ];omega) ⟨.int xs.length,H,I.tok _,⟨_,by simp only[qJ];rw[hlen]⟩,q⟩
  ·subst e'
   obtain⟨its,r',pl,hz⟩:=I.tuple hx
   have hlen:=r'.length
   exact len_tuple pl (by simp only[qJ];omega) ⟨.int xs.length,H,I.tok _,⟨_,by simp only[qJ];rw[hlen]⟩,q⟩
 | _=>exact(show False from e).elim
end
set_option genInjectivity false in
structure ObjM(h:Heap)(x dx C:Addr)(mA:Str->Option Value):Prop where
 obj:h.get? x=some (PySem.W.instObj C dx)
 ns:h.Ns1 dx mA
 ne:dx≠x
theorem zyd{h:Heap}{dx:Addr}{mA:Str->Option Value}(n:h.Ns1 dx mA):∃od,h.get? dx=some od/\∀name,PySem.W.lookIn name od=some (mA name):=by
 obtain⟨o,es,ep,ho,hd,hk,_,hm⟩:=n
 refine⟨o,ho,λname=>?_⟩
 have e:=hm name
 unfold nsFind findBy at e
 rw[<- Array.find?_toList]at e
 unfold PySem.W.lookIn
 rw[hd]
 dsimp only
 split
 ·rename_i y q
  rw[q]at e
  exact congrArg some e
 ·rename_i q
  rw[q]at e
  have a:es.toList.any (·.refKey)=false:=by
   rw[List.any_eq_false]
   intro y hy
   obtain⟨z,t,hkey⟩:=hk y (qBb.mp hy)
   simp[DictEntry.refKey,hkey]
  have a':¬es.toList.any (·.refKey)=true:=by rw[a];exact qK
  rw[if_neg a']
  exact congrArg some e
theorem ObjM.look{h:Heap}{x dx C:Addr}{mA:Str->Option Value}(I:ObjM h x dx C mA):∃od,PySem.W.InstAt h x (PySem.W.instObj C dx) C (some od)/\∀name,PySem.W.lookIn name od=some (mA name):=
 let⟨od,ho,hl⟩:=zyd I.ns
 ⟨od,⟨I.obj,rfl,rfl,ho⟩,hl⟩
section
variable{P:Program}{w:World}{H H':Hp}{h h':Heap}{a C dx:Addr}{fs fs':List (Str×V)}
theorem zaef(hok:HOk P w H h)(e:H a=some (.ins C dx fs)):∃mA,ObjM h a dx C mA/\(∀f,RelO (fs.lookup f) (mA f))/\PySem.Within mA (fs.map (·.1))/\fs.length<=1000/\H dx=some (.own a):=by
 obtain⟨d,z,ne,ob,mA,n,r,q⟩:=(show zhj P w H h a (.ins C dx fs)from hok a _ e)
 exact⟨mA,⟨ob,n,ne⟩,r,q,z,d⟩
end
set_option genInjectivity false in
structure Cls(K:qD)(C:Addr):Prop where
 pg:PySem.W.plainGet K C Str.empty=true
 hd:PySem.W.hasDictIn K C=true
 po:PySem.W.plainOver K C=true
 sa:PySem.W.findIn K (.ref C) "__setattr__"=some (some (.builtin "object.__setattr__"))
theorem Cls.get{K:qD}{C:Addr}(c:Cls K C)(f:Str):PySem.W.plainGet K C f=true:=c.pg
set_option genInjectivity false in
set_option genInjectivity false in
section
variable{X:Cx}{pins:List (Addr×Obj)}{σ:St}{H:Hp}{s:Shared}{a C dx:Addr}{fs:List (Str×V)}{f:Str}{v:V}{A:Around}{E:Value->Shared->Prop}
end
section
variable{X:Cx}{pins:List (Addr×Obj)}{σ:St}{H:Hp}{s:Shared}{A:Around}{E:Value->Shared->Prop}{Q:Value->Shared->Prop}{c:Value}{b:Bool}
inductive TyOf(K:qD)(H:Hp):V->Value->Prop where
 | non:TyOf K H .non (.type "NoneType")
 | bl (x:Bool):TyOf K H (.bl x) (.type "bool")
 | int (i:Int):TyOf K H (.int i) (.type "int")
 | str (x:Str):TyOf K H (.str x) (.type "str")
 | flt (x:UInt64):TyOf K H (.flt x) (.type "float")
 | lst {a:Addr} {xs:List V} (e:H a=some (.lst xs)):TyOf K H (.ref a) (.type "list")
 | frz {a:Addr} {o:Obj} {xs:List V} (e:H a=some (.frz o (.lst xs))):TyOf K H (.ref a) (.type "list")
 | tup {a:Addr} {xs:List V} (e:H a=some (.tup xs)):TyOf K H (.ref a) (.type "tuple")
 | dK {a:Addr} {kvs:List (Key×V)} (e:H a=some (.dK kvs)):TyOf K H (.ref a) (.type "dict")
 | dT {a:Addr} {kvs:List (List Key×V)} (e:H a=some (.dT kvs)):TyOf K H (.ref a) (.type "dict")
 | ins {a C dx:Addr} {fs:List (Str×V)} (e:H a=some (.ins C dx fs)) (cl:Cls K C) (ha:PySem.W.findIn K (.ref C) "__class__"=some (some (.builtin "object.__class__")))
   (hn:PySem.W.specialIn K (.builtin "object.__class__") "__get__"=some (some (.builtin "getset_descriptor.__get__")))(htk:PySem.W.takesIn K (.builtin "object.__class__")=some true)
   (hm:PySem.W.mroIn K C (.type "object")=some true):TyOf K H (.ref a) (.ref C)
theorem zye {x:V} {u t:Value} (I:Inv X pins σ H s) (rx:RelV x u) (ty:TyOf X.K H x t) (e:PySem.W.kitOne X.K t c=some b) (h:∀tk,Q (.bool b) {s with toks:=tk}) :
  wpAny (model X.prog X.w) A (call (.builtin "isinstance") [u,c]) Q E s:=by
 cases ty with
 | non=>cases(show u=Value.none from rx);exact qAJ PySem.W.kitx_none I.kIn True.intro e (λz=>nomatch z) h
 | bl y=>cases(show u=Value.bool y from rx);exact qAJ PySem.W.kitx_bool I.kIn True.intro e (λz=>nomatch z) h
 | int i=>obtain⟨t,q⟩:=(show ∃t,u=Value.int i t from rx);cases q;exact qAJ PySem.W.kitx_int I.kIn True.intro e (λz=>nomatch z) h
 | str y=>obtain⟨t,q⟩:=(show ∃t,u=Value.str y t from rx);cases q;exact qAJ PySem.W.kitx_str I.kIn True.intro e (λz=>nomatch z) h
 | flt y=>obtain⟨t,q⟩:=(show ∃t,u=Value.float y t from rx);cases q;exact qAJ PySem.W.kitx_float I.kIn True.intro e (λz=>nomatch z) h
 | @lst a xs ea=>
  cases(show u=Value.ref a from rx)
  obtain⟨_,_,n,_,h1⟩:=(show zhj X.prog X.w H s.heap a (.lst xs)from I.hok a _ ea)
  exact qAJ qBc I.kIn ⟨_,h1,rfl⟩ e (λz=>nomatch z) h
 | @frz a ob xs ea=>
  cases(show u=Value.ref a from rx)
  obtain⟨_,_,_,n,_,h1⟩:=(show zhj X.prog X.w H s.heap a (.frz ob (.lst xs))from I.hok a _ ea)
  exact qAJ qBc I.kIn ⟨_,h1,rfl⟩ e (λz=>nomatch z) h
 | @tup a xs ea=>
  cases(show u=Value.ref a from rx)
  obtain⟨_,_,_,p⟩:=(show zhj X.prog X.w H s.heap a (.tup xs)from I.hok a _ ea)
  obtain⟨o,h1,h2,_⟩:=p
  exact qAJ PySem.W.kitx_tuple I.kIn ⟨o,h1,h2⟩ e (λz=>nomatch z) h
 | @dK a kvs ea=>
  cases(show u=Value.ref a from rx)
  obtain⟨_,_,vs,_,p⟩:=(show zhj X.prog X.w H s.heap a (.dK kvs)from I.hok a _ ea)
  obtain⟨o,es,ep,h1,h2,_⟩:=p
  exact qAJ qBd I.kIn ⟨o,h1,h2.1⟩ e (λz=>nomatch z) h
 | @dT a kvs ea=>
  cases(show u=Value.ref a from rx)
  obtain⟨_,_,xs,_,o,es,ep,h1,h2,_⟩:=(show zhj X.prog X.w H s.heap a (.dT kvs)from I.hok a _ ea)
  exact qAJ qBd I.kIn ⟨o,h1,h2.1⟩ e (λz=>nomatch z) h
 | @ins a C dx fs ea cl ha hn htk hm=>
  cases(show u=Value.ref a from rx)
  obtain⟨mA,O,_⟩:=zaef I.hok ea
  obtain⟨od,J,_⟩:=O.look
  exact qAJ (PySem.W.kitx_own (cl.get _) cl.hd ha hn htk hm) I.kIn J e (λz=>nomatch z) h
end
set_option genInjectivity false in
structure Room(k:Nat)(A:Around):Prop where
 hd:A.handled=none
 dp:A.depth+3 * k+5<recursionLimit
 un:A.units+16 * k+200<cLine
 gd:A.guards=some []
theorem Room.mono{j k:Nat}{A:Around}(r:Room k A)(h:j<=k):Room j A:=⟨r.hd,by have:=r.dp;omega,by have:=r.un;omega,r.gd⟩
theorem Room.deeper{k:Nat}{A:Around}(r:Room (k+1) A)(env:Env):Room k (A.deeper env):=
 ⟨r.hd,by have:=r.dp;show A.depth+1+3 * k+5<_;omega,by have:=r.un;show A.units+3+16 * k+200<_;omega,r.gd⟩
theorem Room.depth{k:Nat}{A:Around}(r:Room k A):A.depth<recursionLimit:=by have:=r.dp;omega
theorem Room.units{k:Nat}{A:Around}(r:Room k A):A.units+64<cLine:=by have:=r.un;omega
noncomputable def tNil:TA:=λ_ H Q=>Q [] H
noncomputable def tCons(ta:TE)(tr:TA):TA:=λσ H Q=>ta σ H λx H1=>tr σ H1 λxs H2=>Q (x::xs) H2
section
variable{X:Cx}{e:Expr}{es:List Expr}{te:TE}{t:TA}{pos:Pos}
theorem zaho:PA X [] tNil:=λ_ _ _ _ H Q I h=>qA6 ⟨[],H,I,.nil,h⟩
theorem zaeg(ha:PE X e te)(hr:PA X es t)(hs:starEach (e::es) X.env=(false,eval e X.env)::starEach es X.env:=by rfl):PA X (e::es) (tCons te t):=by
 intro pos pins s σ H Q I h
 rw[hs]
 show wpAny _ _ (spliced ((false,eval e X.env)::backTo pos (starEach es X.env))) _ _ s
 refine qA1 (thn (ha pins s σ H _ I h) λu s1 ⟨x,H1,I1,r1,q1⟩=>?_)
 exact thn (hr pos pins s1 σ H1 _ I1 q1) λus s2 ⟨xs,H2,I2,r2,q2⟩=>⟨x::xs,H2,I2,.cons r1 r2,q2⟩
noncomputable def tTup(t:TA):TE:=λσ H Q=>t σ H λxs H1=>xs.length<=qc/\∀p,H1 p=none->Q (.ref p) (upd H1 p (.tup xs))
noncomputable def tLst(t:TA):TE:=λσ H Q=>t σ H λxs H1=>xs.length<=qc/\∀p,H1 p=none->Q (.ref p) (upd H1 p (.lst xs))
theorem zahp{x1}(h:PA X es t):PE X (.Tuple es x1 pos) (tTup t):=by
 intro pins s σ H Q I hq
 refine wpAny_Tuple_spliced (thn (h pos pins s σ H _ I hq) λus s1 ⟨xs,H1,I1,r,z,q⟩=>⟨by rw[<- r.length];exact z,?_⟩)
 have hf:H1 s1.heap.objs.size=none:=I1.hok.fresh (qI _)
 refine⟨.ref s1.heap.objs.size,upd H1 s1.heap.objs.size (.tup xs),I1.laid (t':=s1.toks) (λb u e=>qg _ e) (qI _) ?_,rfl,q _ hf⟩
 exact⟨z,us,r,⟨_,qAQ _ rfl,rfl,_,rfl⟩⟩
theorem zahq(h:PA X es t):PE X (.List es pos) (tLst t):=by
 intro pins s σ H Q I hq
 refine wpAny_List_spliced (thn (h pos pins s σ H _ I hq) λus s1 ⟨xs,H1,I1,r,z,q⟩=>⟨by rw[<- r.length];exact z,?_⟩)
 have hf:H1 s1.heap.objs.size=none:=I1.hok.fresh (qI _)
 refine⟨.ref s1.heap.objs.size,upd H1 s1.heap.objs.size (.lst xs),I1.laid (t':=s1.toks) (λb u e=>qg _ e) (qI _) ?_,rfl,q _ hf⟩
 exact⟨z,us,0,r,qAQ _ rfl⟩
end
noncomputable abbrev Sp:=List V->Hp->VK->XK->Prop
noncomputable abbrev CXT:=List Env->Hp->Shared->XK->Value->Shared->Prop
set_option genInjectivity false in
structure Env0(P:Program)(w:World)(K:qD)(mg:Str->Option Value)(base:Heap)(A:Around)(outer:List Env)(s:Shared)(H:Hp):Prop where
 frames:A.frames=some outer
 mod:Mod K mg base
 bs:∀b o,base.get? b=some o->s.heap.get? b=some o/\H b=none
 bsz:base.objs.size<=s.heap.objs.size
 funs:s.heap.FunFrames base outer
 frf:∀b∈frs outer,H b=none
 hok:HOk P w H s.heap
 bare:AllBare s.gens
noncomputable def CE(outer:List Env)(P:Program)(w:World)(H:Hp)(s:Shared)(Q:VK)(u:Value)(s':Shared):Prop:=
 ∃v H',s'.os=s.os/\AllBare s'.gens/\Un (frs outer) [] H H' s.heap s'.heap/\HOk P w H' s'.heap/\RelV v u/\Q v H'
noncomputable def CR(CX:CXT)(outer:List Env)(P:Program)(w:World)(H:Hp)(s:Shared)(Q:VK)(E:XK)(r:Result)(s':Shared):Prop:=
 match r with
 | .ok (.ret u)=>CE outer P w H s Q u s'
 | .ok _=>False
 | .error e=>CX outer H s E e s'
set_option genInjectivity false in
structure FnOk(P:Program)(w:World)(K:qD)(mg:Str->Option Value)(base:Heap)(CX:CXT)(k:Nat)(f:Addr)(fd:qw)(ps:List Str)(sp:Sp):Prop where
 len:∀vs H Q E,sp vs H Q E->vs.length=ps.length
 run:∀(A:Around)(outer:List Env)(s:Shared)(H:Hp)(args:Args)(us:List Value)(vs:List V)(Q:VK)(E:XK),Room k A->Env0 P w K mg base A outer s H->BindsTo s fd args (ps.zip us)->Vals vs us->sp vs H Q E->
  codeAny (model P w) A (.call (.ref f) args) (CR CX outer P w H s Q E) s
section
variable{X:Cx}{pins:List (Addr×Obj)}{σ:St}{H:Hp}{s s':Shared}
theorem Inv.env0(I:Inv X pins σ H s):Env0 X.prog X.w X.K X.mg X.base X.A X.stack s H:=
 ⟨I.ok.frames,I.ok.mod,I.bs,qf I.ok.bsz I.sz,I.stack,I.stkFree,I.hok,I.bare⟩
theorem Inv.after{Q:VK}{u:Value}(I:Inv X pins σ H s)(h:CE X.stack X.prog X.w H s Q u s'):EP X pins σ Q u s':=by
 obtain⟨v,H',os,bare,un,hok,r,q⟩:=h
 obtain⟨hh,g,d,t,os'⟩:=s'
 obtain rfl:os'=s.os:=os
 exact⟨v,H',I.call (h':=hh) (g':=g) (d':=d) (t':=t) (ch:=[]) un hok bare (λb z=>absurd z (by simp)),r,q⟩
end
noncomputable def tCall(sp:Sp)(dvs:List V)(E:XK)(t:TA):TE:=λσ H Q=>t σ H λvs H1=>sp (vs++dvs) H1 Q E
noncomputable def zwv(K:qD)(fd:qw)(ps:List Str)(ds:List Value):Prop:=
 ∀(s:Shared)(us:List Value),K.In s.heap->(us++ds).length=ps.length->BindsTo s fd ⟨us,[]⟩ (ps.zip (us++ds))
theorem zwv.all{K:qD}{fd:qw}{ps:List Str}(h:∀us:List Value,us.length=ps.length->bindArgs fd ⟨us,[]⟩=pure (ps.zip us)):zwv K fd ps []:=λs us _ hl=>by
 rw[q9]at hl ⊢
 exact .of_eq (h us hl)
noncomputable def zvt(CX:CXT)(X:Cx)(E:XK):Prop:=∀(pins:List (Addr×Obj))(σ:St)(H:Hp)(s:Shared)(e:Value)(s':Shared),Inv X pins σ H s->CX X.stack H s E e s'->X.xe e s'
section
variable{X:Cx}{CX:CXT}{k:Nat}{f C:Addr}{fd:qw}{ps:List Str}{sp:Sp}{dvs:List V}{ds:List Value}{E:XK}{x m:Str}{p pos apos:Pos}{e o:Expr}{es:List Expr}{ta:TE}{t:TA}
theorem zahr{pins:List (Addr×Obj)}{σ:St}{H:Hp}{s:Shared}{Q:VK}{us:List Value}{vs:List V}(F:FnOk X.prog X.w X.K X.mg X.base CX k f fd ps sp)(hr:Room k X.A)(hb:zwv X.K fd ps ds)(hd:Vals dvs ds)(hx:zvt CX X E)
  (I:Inv X pins σ H s) (r:Vals vs us) (h:sp (vs++dvs) H Q E):wpAny (model X.prog X.w) X.A (call (.ref f) us) (EP X pins σ Q) X.xe s:=by
 have r2:Vals (vs++dvs) (us++ds):=r.append hd
 have hl:(us++ds).length=ps.length:=by rw[<- r2.length];exact F.len _ _ _ _ h
 refine wpAny_call (qAn (F.run X.A X.stack s H ⟨us,[]⟩ (us++ds) (vs++dvs) Q E hr I.env0 (hb s us I.kIn hl) r2 h) λr s' hq=>?_)
 cases r with
 | error e=>exact hx pins σ H s e s' I hq
 | ok fl=>
  cases fl with
  | ret u=>exact I.after hq
  | next=>exact False.elim hq
  | brk=>exact False.elim hq
  | cont=>exact False.elim hq
theorem zaeh(F:FnOk X.prog X.w X.K X.mg X.base CX k f fd ps sp)(hr:Room k X.A)(hg:Gl X x)(hm:X.mg x=some (.ref f))(hk:qU X.K (.ref f)=true)(hb:zwv X.K fd ps ds)(hd:Vals dvs ds)(hx:zvt CX X E)
  (ha:PA X (e::es) t)(hdb:(x==("__debug__":Str))=false:=by decide)(he:starEach (e::es) X.env=(false,eval e X.env)::starEach es X.env:=by rfl)(hpl:(backTo pos (starEach es X.env)).any (·.1)=false:=by rfl) :
  PE X (.Call (.Name x p) (e::es) [] pos) (tCall sp dvs E t):=by
 intro pins s σ H Q I h
 refine qAY (zxw I hg hm ?_ hdb)
 refine PySem.W.callWith_K (h₀:=X.base) I.ok.mod.kin hk (thn (ha pos pins s σ H _ I h) λus s1 ⟨vs,H1,I1,r,q⟩=>⟨I1.kIn,?_⟩) he hpl
 exact zahr F hr hb hd hx I1 r q
set_option genInjectivity false in
end
noncomputable def PK(X:Cx)(kws:List Keyword)(t:TA):Prop:=
 ∀(pos:Pos)(pins:List (Addr×Obj))(s:Shared)(σ:St)(H:Hp)(Q:List V->Hp->Prop),Inv X pins σ H s->t σ H Q->wpAny (model X.prog X.w) X.A (evalAll ((backToKw pos (keywordEach kws X.env)).map (·.2))) (AP X pins σ Q) X.xe s
section
variable{X:Cx}{CX:CXT}{k:Nat}{f C:Addr}{fd:qw}{ps ks:List Str}{sp:Sp}{E:XK}{x m:Str}{p pos apos kpos:Pos}{e o:Expr}{es:List Expr}{kws:List Keyword}{te ta:TE}{t tk:TA}{nm:Option Str}
theorem zahs:PK X [] tNil:=λ_ _ _ _ H Q I h=>wpAny_evalAll_nil ⟨[],H,I,.nil,h⟩
theorem zaei(ha:PE X e te)(hr:PK X kws t):PK X (⟨nm,e,kpos⟩::kws) (tCons te t):=by
 intro pos pins s σ H Q I h
 show wpAny _ _ (evalAll ((do let v <- eval e X.env;standAt pos;pure v)::(backToKw pos (keywordEach kws X.env)).map (·.2))) _ _ s
 refine wpAny_evalAll_cons (qo (thn (ha pins s σ H _ I h) λu s1 ⟨x,H1,I1,r1,q1⟩=>qo (qAd (qAG ?_))))
 exact thn (hr pos pins s1 σ H1 _ I1 q1) λus s2 ⟨xs,H2,I2,r2,q2⟩=>⟨x::xs,H2,I2,.cons r1 r2,q2⟩
set_option genInjectivity false in
structure KBinds(K:qD)(fd:qw)(ps ks:List Str)(g:List Value->List Value->List Value)(gV:List V->List V->List V):Prop where
 to:∀(s:Shared)(us ws:List Value),K.In s.heap->(g us ws).length=ps.length->BindsTo s fd ⟨us,ks.zip ws⟩ (ps.zip (g us ws))
 rel:∀{vs:List V}{us:List Value}{zs:List V}{ws:List Value},Vals vs us->Vals zs ws->Vals (gV vs zs) (g us ws)
noncomputable def tCallK(sp:Sp)(gV:List V->List V->List V)(E:XK)(t tk:TA):TE:=λσ H Q=>t σ H λvs H1=>tk σ H1 λzs H2=>sp (gV vs zs) H2 Q E
variable{g:List Value->List Value->List Value}{gV:List V->List V->List V}
theorem zaej{pins:List (Addr×Obj)}{σ:St}{H:Hp}{s:Shared}{Q:VK}{us ws:List Value}{vs zs:List V}(F:FnOk X.prog X.w X.K X.mg X.base CX k f fd ps sp)(hr:Room k X.A)(hb:KBinds X.K fd ps ks g gV)(hx:zvt CX X E)
  (I:Inv X pins σ H s) (r:Vals vs us) (rz:Vals zs ws) (h:sp (gV vs zs) H Q E):wpAny (model X.prog X.w) X.A (call (.ref f) us (ks.zip ws)) (EP X pins σ Q) X.xe s:=by
 have r2:=hb.rel r rz
 have hl:(g us ws).length=ps.length:=by rw[<- r2.length];exact F.len _ _ _ _ h
 refine wpAny_call (qAn (F.run X.A X.stack s H ⟨us,ks.zip ws⟩ (g us ws) (gV vs zs) Q E hr I.env0 (hb.to s us ws I.kIn hl) r2 h) λr s' hq=>?_)
 cases r with
 | error e=>exact hx pins σ H s e s' I hq
 | ok fl=>
  cases fl with
  | ret u=>exact I.after hq
  | next=>exact False.elim hq
  | brk=>exact False.elim hq
  | cont=>exact False.elim hq
end
set_option genInjectivity false in
structure FnScope(N P:List Str)(sc:Scope):Prop where
 kind:sc.kind=.function
 co:sc.isCoroutine=false
 gen:sc.isGenerator=false
 nd:N.Nodup
 pre:N.take P.length=P
 par:∀x∈P,sc.names.lookup x=some .local\/sc.names.lookup x=some .cell
 nofree:∀y∈sc.names,y.2≠.free
theorem zsa{kindOf:Str->Option NameKind}{x:Str}:∀{binds:List (Str×Value)}{m:Str->Option Value},(∀v,(x,v)∉binds)->bindL kindOf binds m x=m x
 | [],_,_=>rfl
 | (n,v)::r,m,h=>by
  unfold bindL
  rw[zsa λw hw=>h w (qL _ hw)]
  split
  ·have:x≠n:=by rintro rfl;exact h v qAE
   simp[this]
  ·rfl
theorem zsb{kindOf:Str->Option NameKind}{x:Str}:∀{binds:List (Str×Value)}{m:Str->Option Value},(∀v,(x,v)∉binds)->bindC kindOf binds m x=m x
 | [],_,_=>rfl
 | (n,v)::r,m,h=>by
  unfold bindC
  rw[zsb λw hw=>h w (qL _ hw)]
  split
  ·rfl
  ·have:x≠n:=by rintro rfl;exact h v qAE
   simp[this]
theorem zsc{kindOf:Str->Option NameKind}{x:Str}{v:Value}:∀{P:List Str}{vs:List Value}{i:Nat}{m:Str->Option Value},P.Nodup->P[i]?=some x->vs[i]?=some v->kindOf x=some .local->
  bindL kindOf (P.zip vs) m x=some v
 | [],_,_,_,_,h,_,_=>by simp at h
 | _::_,[],_,_,_,_,h,_=>by simp at h
 | p::P,w::vs,0,m,nd,h1,h2,hk=>by
  simp at h1 h2;subst h1;subst h2
  show bindL kindOf ((p,w)::P.zip vs) m p=_
  unfold bindL
  rw[zsa λv hv=>(qAt.mp nd).1 (qBH hv).1,if_pos hk]
  simp
 | p::P,w::vs,i+1,m,nd,h1,h2,hk=>by
  show bindL kindOf ((p,w)::P.zip vs) m x=_
  unfold bindL
  exact zsc (i:=i) (qAt.mp nd).2 (by simpa using h1) (by simpa using h2) hk
theorem zsd{kindOf:Str->Option NameKind}{x:Str}{v:Value}:∀{P:List Str}{vs:List Value}{i:Nat}{m:Str->Option Value},P.Nodup->P[i]?=some x->vs[i]?=some v->kindOf x≠some .local->
  bindC kindOf (P.zip vs) m x=some v
 | [],_,_,_,_,h,_,_=>by simp at h
 | _::_,[],_,_,_,_,h,_=>by simp at h
 | p::P,w::vs,0,m,nd,h1,h2,hk=>by
  simp at h1 h2;subst h1;subst h2
  show bindC kindOf ((p,w)::P.zip vs) m p=_
  unfold bindC
  rw[zsb λv hv=>(qAt.mp nd).1 (qBH hv).1,if_neg hk]
  simp
 | p::P,w::vs,i+1,m,nd,h1,h2,hk=>by
  show bindC kindOf ((p,w)::P.zip vs) m x=_
  unfold bindC
  exact zsd (i:=i) (qAt.mp nd).2 (by simpa using h1) (by simpa using h2) hk
noncomputable def zgx(N:List Str)(vs:List V):St:=vs.map some++List.replicate (N.length - vs.length) none
noncomputable def cxOf(CX:CXT)(P:Program)(w:World)(K:qD)(mg:Str->Option Value)(base:Heap)(N:List Str)(qual:Str)(scope:Scope)(f:Addr)(cd:Value)(A:Around)(outer:List Env)(s:Shared)(H:Hp)(E:XK):Cx where
 prog:=P
 w:=w
 K:=K
 mg:=mg
 base:=base
 A:=A.deeper (envOfC qual scope s.heap.objs.size f cd)
 N:=N
 s₀:=s
 H₀:=H
 env:=envOfC qual scope s.heap.objs.size f cd
 outer:=outer
 stack:=envOfC qual scope s.heap.objs.size f cd::outer
 ex:=[]
 calm:=true
 fn:=λ_=>true
 pn:=[]
 xe:=λe s'=>wpAny (model P w) (A.deeper (envOfC qual scope s.heap.objs.size f cd)) (leaving (envOfC qual scope s.heap.objs.size f cd) e) (λ_ s''=>CX outer H s E e s'') (λe' s''=>CX outer H s E e' s'') s'
theorem zqp{sc:Scope}{n:Nat}{x:Str}(h:sc.names.lookup x=some .cell):∃c,(cellsFrom n sc.names []).lookup x=some c:=by
 have q:=qBO sc.names n [] (.inl h)
 exact Option.isSome_iff_exists.mp q
theorem zyf{CX:CXT}{P:Program}{w:World}{K:qD}{mg:Str->Option Value}{base:Heap}{N ps:List Str}{qual:Str}{scope:Scope}{f:Addr}{cd:Value}{A:Around}{outer:List Env}{s s1:Shared}{H:Hp}{E:XK}{us:List Value}{vs:List V}
  (S:FnScope N ps scope)(hd:A.handled=none)(e0:Env0 P w K mg base A outer s H)(hl:vs.length=ps.length)(r:Vals vs us)
  (x:InCallC s s.heap.objs.size (bindL (envOfC qual scope s.heap.objs.size f cd).kindOf (ps.zip us) λ_=>none) (cellsFrom (s.heap.objs.size+1) scope.names []) (bindC (envOfC qual scope s.heap.objs.size f cd).kindOf (ps.zip us) λ_=>none) s1) :
  Inv (cxOf CX P w K mg base N qual scope f cd A outer s H E) [] (zgx N vs) H s1:=by
 have hpl:ps.length<=N.length:=by have:=congrArg List.length S.pre;rw[qAr]at this;omega
 obtain⟨h1,tk,rfl,hk⟩:=x.done
 have noA:∀b:Addr,b∉(cxOf CX P w K mg base N qual scope f cd A outer s H E).ex:=λb z=>absurd (show b∈([]:List Addr)from z) (by simp)
 refine⟨⟨e0.mod,S.kind,rfl,rfl,qI _,λy z c h1 h2=>?_,λy hy=>?_,λy c _ h=>?_,λ_=>hd,Around.frames_deeper e0.frames,.inr ⟨rfl,rfl⟩,λb z=>absurd z (noA b),e0.bs,e0.bsz,λb _ _=>noA b,λb z=>absurd z (noA b),e0.funs,e0.frf⟩,
  rfl,e0.bare,Un.kept hk,⟨_,x.toInCall.ns,λi y v h1 h2 h3=>?_⟩,λy c h=>⟨_,x.cell y c h⟩,e0.hok.fresh (qI _),λy c h=>?_,λp hp=>absurd (show p∈([]:List (Addr×Obj))from hp) (by simp),e0.hok.kept hk,?_⟩
 ·exact name_of_addr x.apart (q4 h1) (q4 h2)
 ·have hy:scope.names.lookup y=some .cell\/scope.names.lookup y=some .free:=hy
  rcases hy with hy|hy
  ·exact zqp hy
  ·exact absurd rfl (S.nofree _ (q4 hy))
 ·exact qBe (x.above y c (q4 h))
 ·have hi:i<vs.length:=by
   unfold zgx at h2
   by_cases hi:i<vs.length
   ·exact hi
   ·rw[qAA (by simpa using hi)]at h2
    rw[qAp]at h2
    split at h2<;>cases h2
  have ha:vs[i]?=some v:=by
   unfold zgx at h2
   rw[qAI (by simpa using hi),qa]at h2
   cases e:vs[i]? with
   | none=>rw[e]at h2;cases h2
   | some a=>rw[e]at h2;cases h2;rfl
  obtain⟨u,hu,rv⟩:=r.get ha
  have hp:ps[i]?=some y:=by
   rw[<- S.pre,List.getElem?_take_of_lt (by omega)];exact h1
  have ndP:ps.Nodup:=by rw[<- S.pre];exact S.nd.sublist (List.take_sublist _ _)
  refine⟨u,rv,?_⟩
  rcases S.par y (qAj hp)with k|k
  ·exact .inl ⟨k,zsc ndP hp hu k⟩
  ·obtain⟨c,e⟩:=zqp (n:=s.heap.objs.size+1) k
   refine .inr ⟨.inl k,c,e,?_⟩
   have q:=x.cell y c e
   rw[zsd ndP hp hu (by show scope.names.lookup y≠_;rw[k];decide)]at q
   exact q
 ·exact e0.hok.fresh (qBe (x.above y c (q4 h)))
 ·unfold zgx
  show _=N.length
  rw[qF,qC,qAu]
  omega
theorem zako{CX:CXT}{P:Program}{w:World}{K:qD}{mg:Str->Option Value}{base:Heap}{k:Nat}{f:Addr}{name qual:Str}{params:Arguments}{body:List Stmt}{scope:Scope}{dV kV doc pm cdv ct oc:Value}{an od:Option Addr}
  {osl:Array (Option Value)}{N ps:List Str}{sp:Sp}(lk:K.lookup f=some ⟨oc,od,.func (qd name qual params body scope dV kV doc pm an cdv ct),osl⟩)(hcd:qZ K cdv qual=true)(S:FnScope N ps scope)
  (len:∀vs H Q E,sp vs H Q E->vs.length=ps.length)
  (hbody:∀(A:Around)(outer:List Env)(s:Shared)(H:Hp)(vs:List V)(Q:VK)(E:XK),Room k (A.deeper (envOfC qual scope s.heap.objs.size f cdv))->sp vs H Q E->
   ∃t,PSs (cxOf CX P w K mg base N qual scope f cdv A outer s H E) body t/\t {nx:=λ_ H'=>Q .non H',rt:=Q} (zgx N vs) H) :
  FnOk P w K mg base CX (k+1) f (qd name qual params body scope dV kV doc pm an cdv ct) ps sp:=by
 refine⟨len,λA outer s H args us vs Q E hr e0 hb r hsp=>?_⟩
 have hl:=len _ _ _ _ hsp
 have KX:K.In s.heap:=e0.mod.kin.keeps λb o e=>(e0.bs b o e).1
 have lim:s.heap.NoLimit:=e0.mod.nolimit.keeps λb o e=>(e0.bs b o e).1
 have hkind:∀y∈ps.zip us,scope.names.lookup y.1=some .local\/(scope.names.lookup y.1=some .cell/\((cellsFrom (s.heap.objs.size+1) scope.names []).lookup y.1).isSome=true):=λ⟨n,v⟩ hy=>by
  rcases S.par n (qBH hy).1 with q|q
  ·exact .inl q
  ·exact .inr ⟨q,qBO _ _ _ (.inl q)⟩
 refine codeAny_call_function hr.depth (KX _ _ lk) rfl S.co S.gen rfl (PySem.W.codeRec_of KX hcd) (hb _ _ _ _ ?_)
 refine wpAny_newFunctionEnv_cells S.kind hkind λenv he s1 x=>?_
 subst he
 refine⟨lim.keeps x.toInCall.keep,codeAny_func ?_⟩
 obtain⟨t,ht,hq⟩:=hbody A outer s H vs Q E (hr.deeper _) hsp
 have I:Inv (cxOf CX P w K mg base N qual scope f cdv A outer s H E) [] (zgx N vs) H s1:=zyf S hr.hd e0 hl r x
 refine qBf (ht [] s1 (zgx N vs) H _ I hq) (λfl s' hs=>?_) λe s' hs=>hs
 have fin:∀{σ':St}{H':Hp}{v:V}{u:Value},Inv (cxOf CX P w K mg base N qual scope f cdv A outer s H E) [] σ' H' s'->RelV v u->Q v H'->CE outer P w H s Q u s':=
  λ{σ' H' v u} J rv q=>⟨v,H',J.os,J.bare,J.base,J.hok,rv,q⟩
 cases fl with
 | ret u=>
  obtain⟨v,σ',H',J,rv,q⟩:=hs
  exact fin J rv q
 | next=>
  obtain⟨σ',H',J,q⟩:=hs
  exact fin (v:=V.non) (u:=Value.none) J rfl q
 | brk=>
  obtain⟨_,_,_,q⟩:=hs
  exact False.elim q
 | cont=>
  obtain⟨_,_,_,q⟩:=hs
  exact False.elim q
section
variable{X:Cx}{x:Str}{p pos:Pos}{e:Expr}{es:List Expr}{t:TA}{id T:String}{r:List V->Hp->VK->Prop}
noncomputable def tCB(r:List V->Hp->VK->Prop)(t:TA):TE:=λσ H Q=>t σ H λvs H1=>r vs H1 Q
theorem zabc(hc:CallR X (.builtin id) r)(hg:Gl X x)(hm:X.mg x=none)(hv:bootBuiltins x=some (.builtin id))(ha:PA X (e::es) t)(hn:x≠"__name__":=by decide)(hdb:(x==("__debug__":Str))=false:=by decide)
  (he:starEach (e::es) X.env=(false,eval e X.env)::starEach es X.env:=by rfl) (hpl:(backTo pos (starEach es X.env)).any (·.1)=false:=by rfl):PE X (.Call (.Name x p) (e::es) [] pos) (tCB r t):=by
 intro pins s σ H Q I h
 refine qAY (zpr I hg hm hv ?_ hn hdb)
 exact PyProof.Rows.callWith_builtin1 (thn (ha pos pins s σ H _ I h) λus s1 ⟨vs,H1,I1,r1,q1⟩=>hc pins s1 σ H1 vs us Q I1 r1 q1) he hpl
theorem zyg(hc:CallR X (.type T) r)(hg:Gl X x)(hm:X.mg x=none)(hv:bootBuiltins x=some (.type T))(ha:PA X (e::es) t)(hn:x≠"__name__":=by decide)(hdb:(x==("__debug__":Str))=false:=by decide)
  (he:starEach (e::es) X.env=(false,eval e X.env)::starEach es X.env:=by rfl) (hpl:(backTo pos (starEach es X.env)).any (·.1)=false:=by rfl):PE X (.Call (.Name x p) (e::es) [] pos) (tCB r t):=by
 intro pins s σ H Q I h
 refine qAY (zpr I hg hm hv ?_ hn hdb)
 exact qAw (thn (ha pos pins s σ H _ I h) λus s1 ⟨vs,H1,I1,r1,q1⟩=>hc pins s1 σ H1 vs us Q I1 r1 q1) he hpl
end
end L2
namespace HT
open PySem PyProof.Rows
section
open PySem.SeqAt
open PySem.AutoSeq1 (wpAny_loadPart')
open PySem.MeetsSeq PySem.MeetsSeq2 PySem.MeetsSeq3
end
section
variable{prog:Program}{w:World}{A:Around}{E:Value->Shared->Prop}{s:Shared}
theorem cat_tup{t b:Addr}{vs ws:List Value}{Q:Value->Shared->Prop}(ht:IsTup s.heap t vs.toArray)(hb:IsTup s.heap b ws.toArray)(hv:vs≠[])
  (h1:ws=[]->Q (.ref t) s) (h2:ws≠[]->Q (.ref s.heap.objs.size) {s with heap:=s.heap.push {cls:=.type "tuple",data:=.seq (vs++ws).toArray}})
  (hsz:vs.length+ws.length<=qc):wpAny (model prog w) A (binaryOp .Add (.ref t) (.ref b)) Q E s:=by
 obtain⟨⟨cls,dd,data,sl⟩,ho,hc,n,hd⟩:=id ht
 obtain⟨⟨cls2,dd2,data2,sl2⟩,ho2,hc2,n2,hd2⟩:=id hb
 simp only at hc hd hc2 hd2
 subst hc hd hc2 hd2
 have e:vs.toArray++ws.toArray=(vs++ws).toArray:=by simp
 by_cases hw:ws=[]
 ·exact concat_meets ⟨_,ho,rfl⟩ ⟨_,ho2,rfl⟩ noFill_tuple_add seq_tuple_add qBP qBN (qBG _ _)
   (tuple_addW1 t b vs.toArray ws.toArray n n2 dd dd2 sl sl2 (by simpa using hv) (by simp[hw])) ⟨ho,ho2,h1 hw⟩
 ·refine concat_meets ⟨_,ho,rfl⟩ ⟨_,ho2,rfl⟩ noFill_tuple_add seq_tuple_add qBP qBN (qBG _ _)
   (tuple_addW2 t b vs.toArray ws.toArray n n2 dd dd2 sl sl2 (by simpa using hv) (by simpa using hw) (by rw[qJ,qJ];exact hsz)) ⟨ho,ho2,?_⟩
  rw[e]
  exact h2 hw
noncomputable def sIx(n d:Nat):Option Int->Nat
 | none=>d
 | some v=>if v<0 then(v+(n:Int)).toNat else min v.toNat n
theorem sIx_nat(n d k:Nat):sIx n d (some (k:Int))=min k n:=by
 show(if(k:Int)<0 then((k:Int)+(n:Int)).toNat else min (k:Int).toNat n)=min k n
 rw[if_neg (by omega),Int.toNat_natCast]
end
end HT
namespace L2
open PySem PySem.Spec PyProof.Rows
noncomputable abbrev TO:=St->Hp->(Option Int->Hp->Prop)->Prop
noncomputable def PO(X:Cx)(e:Option Expr)(t:TO):Prop:=
 ∀(pins:List (Addr×Obj))(s:Shared)(σ:St)(H:Hp)(Q:Option Int->Hp->Prop),Inv X pins σ H s->t σ H Q->
  wpAny (model X.prog X.w) X.A (evalPart e X.env) (λu s'=>∃o H',Inv X pins σ H' s'/\IsPart u o/\Q o H') X.xe s
noncomputable def tNoPart:TO:=λ_ H Q=>Q none H
noncomputable def tPart(t:TE):TO:=λσ H Q=>t σ H λx H1=>∃i,x=.int i/\Q (some i) H1
section
variable{X:Cx}{e:Expr}{te:TE}{lo hi:Option Expr}{tl th:TO}{pos p2:Pos}
theorem zaek:PO X none tNoPart:=by
 intro pins s σ H Q I h
 rw[evalPart_none]
 exact qAG ⟨none,H,I,.none,h⟩
theorem zael(h:PE X e te):PO X (some e) (tPart te):=by
 intro pins s σ H Q I hw
 rw[evalPart_some]
 refine thn (h pins s σ H _ I hw) λu s1 ⟨x,H1,I1,r1,q1⟩=>?_
 obtain⟨i,rfl,q⟩:=q1
 obtain⟨t,rfl⟩:=r1
 exact⟨some i,H1,I1,.int i t,q⟩
noncomputable def SlR(X:Cx)(r:V->Option Int->Option Int->Hp->VK->Prop):Prop:=
 ∀(pins:List (Addr×Obj))(s:Shared)(σ:St)(H:Hp)(x:V)(v vl vu:Value)(lo hi:Option Int)(sl:Addr)(Q:VK),Inv X pins σ H s->RelV x v->s.heap.IsSliceOf sl vl vu .none->IsPart vl lo->IsPart vu hi->r x lo hi H Q->
  ∃T id,typeLookup (.type T) "__getitem__"=pure (some (.builtin id))/\s.TypeIs v T/\wpAny (model X.prog X.w) X.A (getItem v (.ref sl)) (EP X pins σ Q) X.xe s
noncomputable def tSl(r:V->Option Int->Option Int->Hp->VK->Prop)(te:TE)(tl th:TO):TE:=λσ H Q=>te σ H λx H1=>tl σ H1 λl H2=>th σ H2 λu H3=>r x l u H3 Q
theorem zabd{r:V->Option Int->Option Int->Hp->VK->Prop}(hr:SlR X r)(he:PE X e te)(hl:PO X lo tl)(hu:PO X hi th):PE X (.Subscript e (.Slice lo hi none p2) pos) (tSl r te tl th):=by
 intro pins s σ H Q I h
 refine Subscript_ (thn (he pins s σ H _ I h) λv s1 ⟨x,H1,I1,r1,q1⟩=>?_)
 refine wpAny_Slice (thn (hl pins s1 σ H1 _ I1 q1) λvl s2 ⟨l,H2,I2,pl,q2⟩=>thn (hu pins s2 σ H2 _ I2 q2) λvu s3 ⟨u,H3,I3,pu,q3⟩=>?_)
 rw[evalPart_none]
 refine qAG ?_
 have I4:Inv X pins σ H3 {s3 with heap:=s3.heap.push {cls:=.type "slice",data:=.fields #[vl,vu,.none]}}:=I3.kept (t':=s3.toks) λb ob q=>qg _ q
 obtain⟨T,id,hT,ht,hg⟩:=hr pins {s3 with heap:=s3.heap.push {cls:=.type "slice",data:=.fields #[vl,vu,.none]}} σ H3 x v vl vu l u s3.heap.objs.size Q I4 r1 (Heap.IsSliceOf.new ..) pl pu q3
 show wpAny (model X.prog X.w) X.A (subscriptTail e (.Slice lo hi none p2) v (.ref s3.heap.objs.size)) (EP X pins σ Q) X.xe {s3 with heap:=s3.heap.push {cls:=.type "slice",data:=.fields #[vl,vu,.none]}}
 exact tail_any (ops:=[.ref s3.heap.objs.size,v]) ht hT hg (by with_unfolding_all rfl)
noncomputable def cutV(xs:List V)(lo hi:Option Int):List V:=(xs.drop (HT.sIx xs.length 0 lo)).take (HT.sIx xs.length xs.length hi - HT.sIx xs.length 0 lo)
theorem zuc(xs:List V)(lo hi:Option Int):(cutV xs lo hi).length<=xs.length:=by
 unfold cutV
 rw[qAr,qBA]
 omega
noncomputable def zaht(K:qD):R2:=λx y H Q=>∃a b xs ys,x=.ref a/\y=.ref b/\SqT K H a xs/\SqT K H b ys/\xs≠[]/\xs.length+ys.length<=qc/\
 (ys=[]->Q (.ref a) H)/\(ys≠[]->∀p,H p=none->Q (.ref p) (upd H p (.tup (xs++ys))))
theorem Vals.nil_iff{xs:List V}{us:List Value}(r:Vals xs us):us=[]↔xs=[]:=by
 cases r with
 | nil=>simp
 | cons _ _=>simp
theorem zaem:OpR X (binaryOp .Add) (zaht X.K):=by
 intro pins s σ H x y v u Q I rx ry h
 obtain⟨a,b,xs,ys,rfl,rfl,ha,hb,hx,hz,q1,q2⟩:=h
 cases rx
 cases ry
 obtain⟨its,r1,p1,_⟩:=I.tuple ha
 obtain⟨its2,r2,p2,_⟩:=I.tuple hb
 refine HT.cat_tup p1 p2 (λz=>hx (r1.nil_iff.mp z)) (λz=>⟨.ref a,H,I,rfl,q1 (r2.nil_iff.mp z)⟩) (λz=>?_) (by rw[<- r1.length,<- r2.length];exact hz)
 refine⟨.ref s.heap.objs.size,_,I.laid (t':=s.toks) (o:=.tup (xs++ys)) (λb ob q=>qg _ q) (qI _) ?_,rfl,q2 (λw=>z (r2.nil_iff.mpr w)) _ (I.hok.fresh (qI _))⟩
 exact⟨by rw[qF];exact hz,_,r1.append r2,IsTup.new _ _⟩
end
noncomputable def ixN(n:Nat)(i:Int):Option Nat:=if 0<=i then(if i<n then some i.toNat else none)else if -(n:Int)<=i then some (i+n).toNat else none
noncomputable def atI{α:Type}(xs:List α)(i:Int):Option α:=(ixN xs.length i).bind λj=>xs[j]?
theorem zyh{n:Nat}{i:Int}{j:Nat}(h:ixN n i=some j):seqIndex? i n=some j/\j<n/\-(n:Int)<=i/\i<n:=by
 unfold ixN at h
 by_cases h0:0<=i
 ·rw[if_pos h0]at h
  by_cases h1:i<n
  ·rw[if_pos h1]at h
   have e:i.toNat=j:=qu h
   exact⟨by rw[qBU h0 h1,e],by omega,by omega,h1⟩
  ·rw[if_neg h1]at h;cases h
 ·rw[if_neg h0]at h
  by_cases h1:-(n:Int)<=i
  ·rw[if_pos h1]at h
   have e:(i+n).toNat=j:=qu h
   exact⟨by rw[seqIndex_neg (by omega) h1,e],by omega,h1,by omega⟩
  ·rw[if_neg h1]at h;cases h
theorem zud{α:Type}{xs:List α}{i:Int}{v:α}(h:atI xs i=some v):∃j,seqIndex? i xs.length=some j/\xs[j]?=some v/\j<xs.length/\-(xs.length:Int)<=i/\i<xs.length:=by
 unfold atI at h
 cases e:ixN xs.length i with
 | none=>rw[e]at h;cases h
 | some j=>
  rw[e]at h
  obtain⟨h1,h2,h3,h4⟩:=zyh e
  exact⟨j,h1,h,h2,h3,h4⟩
theorem zmq{α:Type}{xs:List α}{j:Nat}{v:α}(h:xs[j]?=some v):atI xs (j:Int)=some v:=by
 have hj:j<xs.length:=(qb.mp h).1
 have e:ixN xs.length (j:Int)=some j:=by
  unfold ixN
  rw[if_pos (by omega),if_pos (by omega)];simp
 unfold atI;rw[e];exact h
noncomputable def PlainIx(b:Expr):Prop:=∀o i,subscripted b false o i=operate [o,i] (getItem o i)
noncomputable def IxR(X:Cx)(r:R2):Prop:=
 ∀(value slice:Expr)(pins:List (Addr×Obj))(s:Shared)(σ:St)(H:Hp)(x y:V)(v u:Value)(Q:VK),Inv X pins σ H s->RelV x v->RelV y u->r x y H Q->
  subscripted slice false v u=operate [v,u] (getItem v u)->wpAny (model X.prog X.w) X.A (subscriptTail value slice v u) (EP X pins σ Q) X.xe s
noncomputable def MtR(X:Cx)(id:String)(r:V->List V->Hp->VK->Prop):Prop:=
 ∀(pins:List (Addr×Obj))(s:Shared)(σ:St)(H:Hp)(x:V)(xs:List V)(v:Value)(us:List Value)(Q:VK),Inv X pins σ H s->RelV x v->Vals xs us->r x xs H Q->
  wpAny (model X.prog X.w) X.A (call (.builtin id) (v::us)) (EP X pins σ Q) X.xe s
section
variable{X:Cx}{a b:Expr}{ta tb:TE}{pos:Pos}
theorem zakp{r:R2}(hr:IxR X r)(ha:PE X a ta)(hb:PE X b tb)(hs:PlainIx b):PE X (.Subscript a b pos) (tOp r ta tb):=by
 intro pins s σ H Q I h
 exact Subscript_ (binT ha hb I h λv u s2 x y H2 I2 rx ry q=>hr a b pins s2 σ H2 x y v u Q I2 rx ry q (hs _ _))
noncomputable def rIxL(K:qD):R2:=λx y H Q=>∃p xs i v,x=.ref p/\y=.int i/\SqL K H p xs/\atI xs i=some v/\Q v H
noncomputable def rIxT(K:qD):R2:=λx y H Q=>∃p xs i v,x=.ref p/\y=.int i/\SqT K H p xs/\atI xs i=some v/\Q v H
noncomputable def rIxS:R2:=λx y H Q=>∃z i c,x=.str z/\y=.int i/\z.length<=qc/\atI z.cps.toList i=some c/\Q (.str ⟨#[c]⟩) H
theorem zaen:IxR X (rIxL X.K):=by
 intro value slice pins s σ H x y v u Q I rx ry h hs
 obtain⟨p,xs,i,z,rfl,rfl,hq,he,q⟩:=h
 cases rx
 obtain⟨t,rfl⟩:=ry
 obtain⟨its,r,pl,hz⟩:=I.list hq
 obtain⟨j,h1,h2,h3,h4,h5⟩:=zud he
 obtain⟨w,ew,rw'⟩:=r.get h2
 have hl:=r.length
 have hn:=zpt
 have fin:EP X pins σ Q w s:=⟨z,H,I,rw',q⟩
 by_cases h0:0<=i
 ·have hj:i.toNat=j:=by
   rw[qBU h0 h5]at h1
   exact qu h1
  exact item_listR pl.isList h0 (by omega) (by rw[hj];simpa using ew) fin hs
 ·have hj:(i+(its.toArray.size:Int)).toNat=j:=by
   rw[seqIndex_neg (by omega) h4]at h1
   rw[qJ,<- hl]
   exact qu h1
  exact subscriptTail_builtinR (x:=w) pl.isList.typeIs slot_list_getitem.lookup
   (wpAny_getItem_list_neg (Q:=λr s'=>r=w/\EP X pins σ Q r s') pl.isList (by omega) (by rw[qJ]<;>omega) (by omega) (by rw[hj];simpa using ew) ⟨rfl,fin⟩) hs
theorem zahu:IxR X (rIxT X.K):=by
 intro value slice pins s σ H x y v u Q I rx ry h hs
 obtain⟨p,xs,i,z,rfl,rfl,hq,he,q⟩:=h
 cases rx
 obtain⟨t,rfl⟩:=ry
 obtain⟨its,r,pl,hz⟩:=I.tuple hq
 obtain⟨j,h1,h2,h3,h4,h5⟩:=zud he
 obtain⟨w,ew,rw'⟩:=r.get h2
 have hl:=r.length
 have hn:=zpt
 have fin:EP X pins σ Q w s:=⟨z,H,I,rw',q⟩
 exact subscriptTail_builtinR (x:=w) pl.typeIs slot_tuple_getitem.lookup
  (getItem_tuple (j:=j) (Q:=λr s'=>r=w/\EP X pins σ Q r s') pl (by omega) (by omega) (by rw[qJ,<- hl];exact h1) (by simpa using ew) ⟨rfl,fin⟩) hs
theorem zahv:IxR X rIxS:=by
 intro value slice pins s σ H x y v u Q I rx ry h hs
 obtain⟨z,i,c,rfl,rfl,hz,he,q⟩:=h
 obtain⟨t,rfl⟩:=rx
 obtain⟨t',rfl⟩:=ry
 obtain⟨j,h1,h2,h3,h4,h5⟩:=zud he
 have hl:z.cps.toList.length=z.length:=by simp[Str.length]
 rw[hl]at h1 h4 h5
 have hn:=zpt
 exact tail_any (qBM s z t) slot_str_getitem.lookup (getItem_str (c:=c) (by
  have e1:decide (i < -(2 ^ 63:Int))=false:=decide_eq_false (by omega)
  have e2:decide (i>=2 ^ 63)=false:=decide_eq_false (by omega)
  rw[e1,e2,Bool.or_false]) (by rw[h1];simpa using h2) ⟨.str ⟨#[c]⟩,H,I.tok _,⟨_,rfl⟩,q⟩) hs
theorem zww(its:List Value)(n j:Nat)(u:Value):Obj.mapSeq (·.setIfInBounds j u) {cls:=.type "list",data:=.seq its.toArray n}={cls:=.type "list",data:=.seq (its.set j u).toArray n}:=by
 simp[Obj.mapSeq]
theorem Inv.lst{pins:List (Addr×Obj)}{σ:St}{H:Hp}{s:Shared}{p:Addr}{xs:List V}(I:Inv X pins σ H s)(h:H p=some (.lst xs)) :
  ∃(its:List Value)(n:Nat),Vals xs its/\s.heap.get? p=some {cls:=.type "list",data:=.seq its.toArray n}/\xs.length<=qc:=by
 obtain⟨z,its,n,r,e⟩:=I.hok p _ h
 exact⟨its,n,r,e,z⟩
theorem Inv.lstUpd{pins:List (Addr×Obj)}{σ:St}{H:Hp}{s:Shared}{p:Addr}{xs ys:List V}{its its':List Value}{n n':Nat}{f:Obj->Obj}(I:Inv X pins σ H s)(h:H p=some (.lst xs))
  (ho:s.heap.get? p=some {cls:=.type "list",data:=.seq its.toArray n}) (hf:f {cls:=.type "list",data:=.seq its.toArray n}={cls:=.type "list",data:=.seq its'.toArray n'}) (r:Vals ys its') (hz:ys.length<=qc) (t:Nat) :
  Inv X pins σ (upd H p (.lst ys)) {s with heap:=s.heap.update p f,toks:=t}:=by
 have e:(s.heap.update p f).get? p=some {cls:=.type "list",data:=.seq its'.toArray n'}:=by
  rw[Heap.get?_update_self f ho (by rw[hf]<;>rfl),hf]
 refine I.write (x:=p) (e:=p) (by rw[h];trivial) (.inl rfl) (λb u hb q=>(qBW _ _ (qA2 hb)).trans q) ⟨_,e⟩ ?_
 exact⟨hz,its',n',r,e⟩
noncomputable def zabe:V->V->V->Hp->(Hp->Prop)->Prop:=λo i v H Q=>∃p xs k j,o=.ref p/\i=.int k/\H p=some (.lst xs)/\ixN xs.length k=some j/\Q (upd H p (.lst (xs.set j v)))
theorem zabf:PSet X zabe:=by
 intro pins s σ H o i v ov iv u Q I ro ri rv h
 obtain⟨p,xs,k,j,rfl,rfl,hp,hj,q⟩:=h
 cases ro
 obtain⟨t,rfl⟩:=ri
 obtain⟨its,n,r,ho,hz⟩:=I.lst hp
 obtain⟨h1,h2,h3,h4⟩:=zyh hj
 have hl:=r.length
 have hn:=zpt
 have I':Inv X pins σ (upd H p (.lst (xs.set j v))) {s with heap:=s.heap.update p (Obj.mapSeq (·.setIfInBounds j u))}:=
  I.lstUpd hp ho (zww its n j u) (r.set rv j) (by rw[qe];exact hz) s.toks
 by_cases h0:0<=k
 ·have hk:k.toNat=j:=by
   rw[qBU h0 h4]at h1
   exact qu h1
  exact PySem.W.ki_setAt ho h0 (by omega) (by rw[qJ,<- hl];exact h4) (by rw[hk];exact⟨_,I',q⟩)
 ·have hk:(k+(its.toArray.size:Int)).toNat=j:=by
   rw[seqIndex_neg (by omega) h3]at h1
   rw[qJ,<- hl]
   exact qu h1
  exact PySem.W.ki_setBack ho (by omega) (by rw[qJ,<- hl];exact h3) (by omega) (by rw[hk];exact⟨_,I',q⟩)
theorem zse(lo hi:Option Int)(n:Nat):(sliceBounds lo hi none n).1=((HT.sIx n 0 lo:Nat):Int)/\(sliceBounds lo hi none n).2.1=((HT.sIx n n hi:Nat):Int)/\(sliceBounds lo hi none n).2.2=1:=by
 refine⟨?_,?_,rfl⟩
 ·cases lo with
  | none=>simp[sliceBounds,HT.sIx]
  | some i=>
   simp only[sliceBounds,HT.sIx,Option.getD_none,show(1:Int) > 0 by decide,if_true]
   by_cases h:i<0
   ·simp only[h,if_true]<;>omega
   ·simp only[h,if_false]<;>omega
 ·cases hi with
  | none=>simp[sliceBounds,HT.sIx]
  | some i=>
   simp only[sliceBounds,HT.sIx,Option.getD_none,show(1:Int) > 0 by decide,if_true]
   by_cases h:i<0
   ·simp only[h,if_true]<;>omega
   ·simp only[h,if_false]<;>omega
theorem zqq(its:List Value)(lo hi:Option Int):slicePick its.toArray lo hi none=((its.drop (HT.sIx its.length 0 lo)).take (HT.sIx its.length its.length hi - HT.sIx its.length 0 lo)).toArray:=by
 obtain⟨h1,h2,h3⟩:=zse lo hi its.toArray.size
 unfold slicePick
 rw[h1,h2,h3]
 simp only[sliceRange_one,pick_run,qJ]<;>rfl
noncomputable def rSlL(K:qD):V->Option Int->Option Int->Hp->VK->Prop:=λx lo hi H Q=>∃a xs,x=.ref a/\SqL K H a xs/\∀p,H p=none->Q (.ref p) (upd H p (.lst (cutV xs lo hi)))
theorem zaeo:SlR X (rSlL X.K):=by
 intro pins s σ H x v vl vu lo hi sl Q I rx hs pl pu h
 obtain⟨a,xs,rfl,hx,q⟩:=h
 cases rx
 obtain⟨its,r,ht,hz⟩:=I.list hx
 have hlen:=r.length
 refine⟨"list",_,slot_list_getitem.lookup,ht.isList.typeIs,?_⟩
 refine wpAny_getItem_list_slice ht.isList hs pl pu .none (by simp) ?_ (by rw[qJ]<;>omega)
 rw[zqq,<- hlen]
 refine⟨.ref s.heap.objs.size,_,I.laid (t':=s.toks) (o:=.lst (cutV xs lo hi)) (λb ob q=>qg _ q) (qI _) ?_,rfl,q _ (I.hok.fresh (qI _))⟩
 exact⟨qf (zuc xs lo hi) hz,_,0,(r.drop (HT.sIx xs.length 0 lo)).take (HT.sIx xs.length xs.length hi - HT.sIx xs.length 0 lo),qAQ _ rfl⟩
noncomputable def zpj:V->Bool
 | .non=>true
 | .bl _=>true
 | .int _=>true
 | .str _=>true
 | _=>false
noncomputable def eqV:V->V->Bool
 | .non,.non=>true
 | .bl a,.bl b=>a==b
 | .bl a,.int b=>(if a then 1 else 0)==b
 | .int a,.bl b=>a==(if b then 1 else 0)
 | .int a,.int b=>a==b
 | .str a,.str b=>a==b
 | _,_=>false
theorem zahw{A:Around}{s:Shared}{y x:V}{u v:Value}(ry:RelV y u)(rx:RelV x v)(fy:zpj y=true)(fx:zpj x=true):SeqAt.EqAt A s u v (eqV y x):=by
 cases y with
 | non=>
  cases ry
  cases x with
  | non=>cases rx;exact SeqAt.EqAt.same _
  | bl b=>cases rx;exact SeqAt.EqAt.none_bool b
  | int b=>obtain⟨t,rfl⟩:=rx;exact SeqAt.EqAt.none_int b t
  | str b=>obtain⟨t,rfl⟩:=rx;exact SeqAt.EqAt.none_str b t
  | _=>exact absurd (show false=true from fx) qK
 | bl a=>
  cases ry
  cases x with
  | non=>cases rx;exact SeqAt.EqAt.bool_none a
  | bl b=>cases rx;exact SeqAt.EqAt.bool_bool a b
  | int b=>obtain⟨t,rfl⟩:=rx;exact SeqAt.EqAt.bool_int a b t
  | str b=>obtain⟨t,rfl⟩:=rx;exact SeqAt.EqAt.bool_str a b t
  | _=>exact absurd (show false=true from fx) qK
 | int a=>
  obtain⟨t',rfl⟩:=ry
  cases x with
  | non=>cases rx;exact SeqAt.EqAt.int_none a t'
  | bl b=>cases rx;exact SeqAt.EqAt.int_bool a t' b
  | int b=>obtain⟨t,rfl⟩:=rx;exact SeqAt.EqAt.int_int a t' b t
  | str b=>obtain⟨t,rfl⟩:=rx;exact qBS a t' b t
  | _=>exact absurd (show false=true from fx) qK
 | str a=>
  obtain⟨t',rfl⟩:=ry
  cases x with
  | non=>cases rx;exact SeqAt.EqAt.str_none a t'
  | bl b=>cases rx;exact SeqAt.EqAt.str_bool a t' b
  | int b=>obtain⟨t,rfl⟩:=rx;exact qBR a t' b t
  | str b=>obtain⟨t,rfl⟩:=rx;exact SeqAt.EqAt.str_str a t' b t
  | _=>exact absurd (show false=true from fx) qK
 | _=>exact absurd (show false=true from fy) qK
noncomputable def eqU(x:V)(u:Value):Bool:=match u with
 | .none=>eqV .non x
 | .bool b=>eqV (.bl b) x
 | .int i _=>eqV (.int i) x
 | .str z _=>eqV (.str z) x
 | _=>false
theorem zade{x y:V}{u:Value}(r:RelV y u)(f:zpj y=true):eqU x u=eqV y x:=by
 cases y with
 | non=>cases r;rfl
 | bl b=>cases r;rfl
 | int i=>obtain⟨t,rfl⟩:=r;rfl
 | str z=>obtain⟨t,rfl⟩:=r;rfl
 | _=>exact absurd (show false=true from f) qK
theorem zue{x:V}:∀{xs:List V}{us:List Value},Vals xs us->xs.all zpj=true->us.any (eqU x)=xs.any λy=>eqV y x
 | _,_,.nil,_=>rfl
 | y::xs,u::us,.cons r t,f=>by
  rw[qAk,qy]at f
  rw[qA3,qA3,zade r f.1,zue t f.2]
theorem zqr{A:Around}{s:Shared}{x:V}{v:Value}(rx:RelV x v)(fx:zpj x=true):∀{xs:List V}{us:List Value},Vals xs us->xs.all zpj=true->∀u∈us,SeqAt.EqAt A s u v (eqU x u)
 | _,_,.nil,_=>λu hu=>by cases hu
 | y::xs,u::us,.cons r t,f=>λu' hu=>by
  rw[qAk,qy]at f
  rcases qW.mp hu with rfl|hu
  ·rw[zade r f.1];exact zahw r rx f.1 fx
  ·exact zqr rx fx t f.2 u' hu
noncomputable def inV(x:V)(xs:List V):Bool:=xs.any λy=>eqV y x
noncomputable def rIn(K:qD)(neg:Bool):R2:=λx y H Q=>∃p xs,y=.ref p/\(SqL K H p xs\/SqT K H p xs)/\zpj x=true/\xs.all zpj=true/\Q (.bl (if neg then !inV x xs else inV x xs)) H
theorem zsf:OpR X (compareOp .NotIn) (rIn X.K true):=by
 intro pins s σ H x y v u Q I rx ry h
 obtain⟨p,xs,rfl,hq,fx,fs,q⟩:=h
 cases ry
 rcases hq with hq|hq
 ·obtain⟨its,r,pl,hz⟩:=I.list hq
  refine SeqAt.notIn_listAt (eqU x) pl.isList (λw hw=>zqr rx fx r fs w (by simpa using hw)) ⟨.bl _,H,I,rfl,?_⟩
  rw[show its.toArray.any (eqU x)=its.any (eqU x) by simp,zue r fs]
  exact q
 ·obtain⟨its,r,pl,hz⟩:=I.tuple hq
  refine SeqAt.notIn_tupleAt (eqU x) pl (λw hw=>zqr rx fx r fs w (by simpa using hw)) ⟨.bl _,H,I,rfl,?_⟩
  rw[show its.toArray.any (eqU x)=its.any (eqU x) by simp,zue r fs]
  exact q
theorem zsg:CallR X (.type "list") (λxs H Q=>∃p ys,xs=[.ref p]/\(SqL X.K H p ys\/SqT X.K H p ys)/\∀l,H l=none->Q (.ref l) (upd H l (.lst ys))):=by
 intro pins s σ H xs us Q I r h
 obtain⟨p,ys,rfl,hq,q⟩:=h
 obtain⟨u,rfl,rx⟩:=zpi r
 cases rx
 have fin:∀(its:List Value),Vals ys its->ys.length<=qc->∀(h':Heap)(c':Nat),(∀b o',s.heap.get? b=some o'->h'.get? b=some o')->
   h'.get? s.heap.objs.size=some {cls:=.type "list",dict:=none,data:=.seq its.toArray c',slots:=#[]}->EP X pins σ Q (.ref s.heap.objs.size) {s with heap:=h'}:=λits r' hz h' c' kp e=>
  ⟨.ref s.heap.objs.size,_,I.laid (t':=s.toks) kp (qI _) (show zhj X.prog X.w _ h' _ (.lst ys)from⟨hz,its,c',r',e⟩),rfl,q _ (I.hok.fresh (qI _))⟩
 rcases hq with hq|hq
 ·obtain⟨its,r',pl,hz⟩:=I.list hq
  have hlen:=r'.length
  obtain⟨o,ho,hc,n,hd⟩:=pl.isList
  exact call_list_seq p (.inl rfl) ho hc hd (λh' c' kp e=>fin its r' hz h' c' kp e) (by simp only[qJ]<;>omega)
 ·obtain⟨its,r',pl,hz⟩:=I.tuple hq
  have hlen:=r'.length
  obtain⟨o,ho,hc,n,hd⟩:=pl
  exact call_list_seq p (.inr rfl) ho hc hd (λh' c' kp e=>fin its r' hz h' c' kp e) (by simp only[qJ]<;>omega)
theorem zqs:CallR X (.type "tuple") (λxs H Q=>∃p ys,xs=[.ref p]/\((SqL X.K H p ys/\∀l,H l=none->Q (.ref l) (upd H l (.tup ys)))\/(SqT X.K H p ys/\Q (.ref p) H))):=by
 intro pins s σ H xs us Q I r h
 obtain⟨p,ys,rfl,h⟩:=h
 obtain⟨u,rfl,rx⟩:=zpi r
 cases rx
 rcases h with⟨hq,q⟩|⟨hq,q⟩
 ·obtain⟨its,r',pl,hz⟩:=I.list hq
  have hlen:=r'.length
  refine call_tuple_list pl.isList (λh' kp=>?_) (by simp only[qJ]<;>omega)
  have I1:Inv X pins σ H {s with heap:=h'}:=I.kept (t':=s.toks) kp
  have I2:Inv X pins σ (upd H h'.objs.size (.tup ys)) {s with heap:=h'.push {cls:=.type "tuple",data:=.seq its.toArray}}:=
   I1.laid (t':=s.toks) (λb o e=>qg _ e) (qI _) (show zhj X.prog X.w _ _ _ (.tup ys)from⟨hz,its,r',IsTup.new _ _⟩)
  exact⟨.ref h'.objs.size,_,I2,rfl,q _ (I1.hok.fresh (qI _))⟩
 ·obtain⟨its,r',pl,hz⟩:=I.tuple hq
  exact call_tuple_same pl ⟨.ref p,H,I,rfl,q⟩
noncomputable def tyV(K:qD)(T:String)(x:V)(H:Hp):Prop:=match x with
 | .str _=>T="str"
 | .int _=>T="int"
 | .ref p=>(T="list"/\∃xs,SqL K H p xs)\/(T="tuple"/\∃o,K.lookup p=some o/\o.cls=.type "tuple"/\o.dict=none)\/
   (T="dict"/\((∃kvs,H p=some (.dK kvs))\/∃kvs,H p=some (.dT kvs)))\/(T="set"/\∃S n,H p=some (.set S n))
 | _=>False
theorem zahx{pins:List (Addr×Obj)}{σ:St}{H:Hp}{s:Shared}{T:String}{x:V}{v:Value}(I:Inv X pins σ H s)(r:RelV x v)(ty:tyV X.K T x H) :
  s.TypeIs v T/\∀a,v=.ref a->∃ob,s.heap.get? a=some ob/\ob.dict=none:=by
 cases x with
 | str z=>
  obtain⟨t,rfl⟩:=r
  cases(show T="str"from ty)
  exact⟨qBM s z t,λ_ e=>nomatch e⟩
 | int i=>
  obtain⟨t,rfl⟩:=r
  cases(show T="int"from ty)
  exact⟨typeIs_int s i t,λ_ e=>nomatch e⟩
 | ref p=>
  cases r
  rcases ty with⟨rfl,xs,hq⟩|⟨rfl,o,hk,hc,hd⟩|⟨rfl,hk⟩|⟨rfl,S,n,hk⟩
  ·obtain⟨its,_,pl,_⟩:=I.list hq
   refine⟨pl.isList.typeIs,λa e=>?_⟩
   cases e
   obtain⟨o,n,e,c,hd,_⟩:=pl
   exact⟨o,e,hd⟩
  ·refine⟨⟨o,I.kIn p o hk,hc⟩,λa e=>?_⟩
   cases e
   exact⟨o,I.kIn _ o hk,hd⟩
  ·have z:∃o,s.heap.get? p=some o/\o.ExactDict:=by
    rcases hk with⟨kvs,hk⟩|⟨kvs,hk⟩
    ·obtain⟨_,_,_,_,o,_,_,e,ex,_⟩:=I.hok p _ hk
     exact⟨o,e,ex⟩
    ·obtain⟨_,_,_,_,o,_,_,e,ex,_⟩:=I.hok p _ hk
     exact⟨o,e,ex⟩
   obtain⟨o,e,ex⟩:=z
   refine⟨⟨o,e,ex.1⟩,λa e2=>?_⟩
   cases e2
   exact⟨o,e,ex.2.1⟩
  ·obtain⟨o,_,_,_,e,ex,_⟩:=I.hok p _ hk
   refine⟨⟨o,e,ex.1⟩,λa e2=>?_⟩
   cases e2
   exact⟨o,e,ex.2.1⟩
 | _=>exact False.elim ty
noncomputable def tBM(K:qD)(T:String)(r:V->List V->Hp->VK->Prop)(to:TE)(t:TA):TE:=λσ H Q=>to σ H λx H1=>tyV K T x H1/\t σ H1 λxs H2=>r x xs H2 Q
variable{o e:Expr}{es:List Expr}{to:TE}{t:TA}{name:Str}{apos cpos:Pos}{T id:String}{r:V->List V->Hp->VK->Prop}
theorem zakq(pa:PlainAttrs T)(slot:Slot T name id)(hty:typeOf (.builtin id)=pure (.type "method_descriptor"))(hm:MtR X id r)(ho:PE X o to)(ha:PA X (e::es) t)
  (hbase:attributeBase o name X.env (eval o X.env)=eval o X.env:=by rfl)
  (hfew:((backTo cpos (starEach (e::es) X.env)).all (λx=>!x.1)&&(backToKw cpos (keywordEach [] X.env)).all (λx=>x.1.isSome)
   && decide ((e::es).length+([]:List Keyword).length+(if([]:List Keyword).isEmpty then 0 else 1)<30))=true:=by rfl)
  (hline:(apos.endLine==cpos.line)=true:=by rfl)(hs:starEach (e::es) X.env=(false,eval e X.env)::starEach es X.env:=by rfl)(hplain:(backTo cpos (starEach es X.env)).any (·.1)=false:=by rfl) :
  PE X (.Call (.Attribute o name apos) (e::es) [] cpos) (tBM X.K T r to t):=by
 intro pins s σ H Q I h
 refine wpAny_Call_method_late hbase hfew hline rfl (thn (ho pins s σ H _ I h) λv s1 ⟨x,H1,I1,r1,ty,q1⟩=>?_)
 obtain⟨h1,h2⟩:=zahx I1 r1 ty
 refine⟨T,id,pa,slot,hty,h1,h2,?_⟩
 have hA:=ha cpos pins s1 σ H1 _ I1 q1
 rw[hs]at hA ⊢
 refine Calls.callWith_builtin (by show(false||(backTo cpos (starEach es X.env)).any (·.1))=false;rw[hplain]<;>rfl) (Calls.evalArgs_plain ?_)
 exact thn hA λus s2 ⟨vs,H2,I2,r2,q2⟩=>hm pins s2 σ H2 x vs v us Q I2 r1 r2 q2
end
noncomputable def MtM(X:Cx)(id:String)(r:V->List V->Hp->VK->Prop):Prop:=
 ∀(pins:List (Addr×Obj))(s:Shared)(σ:St)(H:Hp)(x:V)(xs:List V)(v:Value)(us:List Value)(Q:VK),Inv X pins σ H s->RelV x v->Vals xs us->r x xs H Q->
  wpAny (model X.prog X.w) X.A (call (.builtin id) (v::us)) (EP X pins σ Q) X.xe s
theorem Vals.one:∀{x:V}{us:List Value},Vals [x] us->∃u,us=[u]/\RelV x u
 | _,_,.cons r .nil=>⟨_,rfl,r⟩
theorem Vals.eraseIdx:∀{xs:List V}{us:List Value}(i:Nat),Vals xs us->Vals (xs.eraseIdx i) (us.eraseIdx i)
 | _,_,_,.nil=>.nil
 | _,_,0,.cons _ t=>t
 | _,_,i+1,.cons r t=>.cons r (Vals.eraseIdx i t)
theorem zsh{α:Type}:∀(l:List α)(i:Nat),(l.eraseIdx i).length<=l.length
 | [],_=>qI _
 | _::_,0=>Nat.le_succ _
 | _::r,i+1=>qBD (zsh r i)
section
variable{X:Cx}{pins:List (Addr×Obj)}{σ:St}{H:Hp}{s:Shared}{l b:Addr}{xs ys zs:List V}
theorem Inv.lset{its its':List Value}{n:Nat}{f:Array Value->Array Value}{t':Nat}(I:Inv X pins σ H s)(hH:H l=some (.lst xs))
  (e:s.heap.get? l=some {cls:=.type "list",data:=.seq its.toArray n}) (hf:f its.toArray=its'.toArray) (hv:Vals ys its') (hz:ys.length<=qc) :
  Inv X pins σ (upd H l (.lst ys)) {s with heap:=s.heap.update l (Obj.mapSeq f),toks:=t'}:=by
 have q:=PySem.IsL.update e f
 rw[hf]at q
 refine I.write (x:=l) (e:=l) (by rw[hH];exact trivial) (.inl rfl) (λb' u hb hu=>(qBW s.heap (Obj.mapSeq f) (qA2 hb)).trans hu) ⟨_,q⟩ ?_
 exact⟨hz,its',_,hv,q⟩
theorem Inv.lnew{its:List Value}{t':Nat}(I:Inv X pins σ H s)(hv:Vals ys its)(hz:ys.length<=qc) :
  Inv X pins σ (upd H s.heap.objs.size (.lst ys)) {s with heap:=s.heap.push {cls:=.type "list",data:=.seq its.toArray},toks:=t'}:=
 I.laid (λ_ _ q=>qg _ q) (qI _) ⟨hz,its,0,hv,qAQ _ rfl⟩
theorem Inv.fresh(I:Inv X pins σ H s):H s.heap.objs.size=none:=I.hok.fresh (qI _)
theorem Inv.lstM(I:Inv X pins σ H s)(hH:H l=some (.lst xs)):xs.length<=qc/\∃(its:List Value)(n:Nat),Vals xs its/\xs.length=its.length/\s.heap.get? l=some {cls:=.type "list",data:=.seq its.toArray n}:=by
 obtain⟨z,its,n,r,e⟩:=I.hok l _ hH
 exact⟨z,its,n,r,r.length,e⟩
theorem zabg{n:Nat}(h:n<=qc):Builtin.List.listTooLong n=false:=by
 unfold Builtin.List.listTooLong
 exact decide_eq_false (by omega)
end
section
variable{X:Cx}
noncomputable def zld:V->List V->Hp->VK->Prop:=λx vs H Q=>∃l xs y,x=.ref l/\vs=[y]/\H l=some (.lst xs)/\xs.length<qc/\Q .non (upd H l (.lst (xs++[y])))
theorem zbz:MtM X "list.append" zld:=by
 intro pins s σ H x vs v us Q I rx rv h
 obtain⟨l,xs,y,rfl,rfl,hH,hz,q⟩:=h
 cases rx
 obtain⟨u,rfl,ru⟩:=rv.one
 obtain⟨z,its,n,r,hl,e⟩:=I.lstM hH
 refine qBh F.slot_list_append ⟨_,e,rfl⟩ F.entry_list_append (F.args_list_append_2 _ _) (PySem.list_append l its.toArray n u (by rw[qJ];omega)) ⟨e,?_⟩
 refine⟨.non,_,I.lset (its':=its++[u]) hH e (by simp) (r.append (.cons ru .nil)) ?_,rfl,q⟩
 rw[qF,qBZ]
 omega
noncomputable def zyi:V->List V->Hp->VK->Prop:=λx vs H Q=>∃l b xs zs,x=.ref l/\vs=[.ref b]/\H l=some (.lst xs)/\H b=some (.lst zs)/\xs.length+zs.length<=qc/\Q .non (upd H l (.lst (xs++zs)))
theorem zsi:MtM X "list.extend" zyi:=by
 intro pins s σ H x vs v us Q I rx rv h
 obtain⟨l,b,xs,zs,rfl,rfl,hH,hB,hz,q⟩:=h
 cases rx
 obtain⟨u,rfl,ru⟩:=rv.one
 cases ru
 obtain⟨z,its,n,r,hl,e⟩:=I.lstM hH
 obtain⟨z2,its2,n2,r2,hl2,e2⟩:=I.lstM hB
 have hsz:its.toArray.size+its2.toArray.size<=qc:=by rw[qJ,qJ];omega
 have hlong:¬(!its.toArray.isEmpty&&Builtin.List.listTooLong (its.toArray.size+its2.toArray.size))=true:=by
  rw[zabg hsz,Bool.and_false]
  exact qK
 refine qBh F.slot_list_extend ⟨_,e,rfl⟩ F.entry_list_extend (F.args_list_extend_2 _ _)
  (AutoSeq1.list_extend_list_list_0 l its.toArray n b its2.toArray n2 hlong (by rw[qJ];omega) (by omega)) ⟨e,e2,?_⟩
 refine⟨.non,_,I.lset (its':=its++its2) hH e (by simp) (r.append r2) ?_,rfl,q⟩
 rw[qF]
 omega
noncomputable def zadf:V->List V->Hp->VK->Prop:=λx vs H Q=>∃l xs i k y,x=.ref l/\vs=[.int i]/\H l=some (.lst xs)/\-(2 ^ 63)<=i/\i<2 ^ 63/\seqIndex? i xs.length=some k/\xs[k]?=some y/\Q y (upd H l (.lst (xs.eraseIdx k)))
theorem zabh:MtM X "list.pop" zadf:=by
 intro pins s σ H x vs v us Q I rx rv h
 obtain⟨l,xs,i,k,y,rfl,rfl,hH,h1,h2,hk,hy,q⟩:=h
 cases rx
 obtain⟨u,rfl,ru⟩:=rv.one
 obtain⟨t,rfl⟩:=ru
 obtain⟨z,its,n,r,hl,e⟩:=I.lstM hH
 obtain⟨w,hw,rw'⟩:=r.get hy
 refine qBh F.slot_list_pop ⟨_,e,rfl⟩ F.entry_list_pop (F.args_list_pop_2 _ _)
  (MeetsSeq.list_pop_at l its.toArray n i t k w (fitsIndex_both h1 h2) (by rw[qJ,<- hl];exact hk) (by rw[<- qBX];exact hw) (by rw[qJ];omega)) ⟨e,?_⟩
 refine⟨y,_,I.lset (its':=its.eraseIdx k) hH e ?_ (r.eraseIdx k) ?_,rw',q⟩
 ·show its.toArray.eraseIdxIfInBounds k=(its.eraseIdx k).toArray
  rw[List.eraseIdxIfInBounds_toArray]
 ·have:=zsh xs k
  omega
noncomputable def rCat:R2:=λx y H Q=>∃l b xs zs,x=.ref l/\y=.ref b/\H l=some (.lst xs)/\H b=some (.lst zs)/\xs.length+zs.length<=qc/\∀p,H p=none->Q (.ref p) (upd H p (.lst (xs++zs)))
theorem zahy:OpR X (binaryOp .Add) rCat:=by
 intro pins s σ H x y v u Q I rx ry h
 obtain⟨l,b,xs,zs,rfl,rfl,hH,hB,hz,q⟩:=h
 cases rx
 cases ry
 obtain⟨z,its,n,r,hl,e⟩:=I.lstM hH
 obtain⟨z2,its2,n2,r2,hl2,e2⟩:=I.lstM hB
 refine PySem.P.add_list e e2 ?_ (by rw[qJ,qJ];omega)
 have ea:its.toArray++its2.toArray=(its++its2).toArray:=by simp
 rw[ea]
 exact⟨.ref _,_,I.lnew (t':=s.toks) (r.append r2) (by rw[qF];omega),rfl,q _ I.fresh⟩
end
section
variable{prog:Program}{w:World}{A:Around}{E:Value->Shared->Prop}{s:Shared}
set_option maxRecDepth 100000 in
end
set_option genInjectivity false in
set_option genInjectivity false in
section
variable{X:Cx}{pins:List (Addr×Obj)}{σ:St}{H:Hp}{s:Shared}{a:Addr}{y d:V}{u r:Value}{o:Option V}{A:Around}{E:Value->Shared->Prop}
end
end L2
namespace Att
open PySem PySem.W PySem.Calls PyProof.Rows
theorem zmr{P:Params}{h:Heap}:∀(ns:List Int)(vs:List Value),WellAll P h vs (ns.map WData.int)->IntsAre vs ns:=by
 intro ns
 induction ns with
 | nil=>
  intro vs w
  rw[qBY]at w
  cases w
  exact .nil
 | cons n ns ih=>
  intro vs w
  rw[qm]at w
  cases w with
  | cons a b=>
   cases a
   exact .cons _ _ (ih _ b)
theorem zyj{l:OpenLaw}{n:Nat}(hn:l.most=some n){P:Params}{h:Heap}{args:List WData}{vals:List Value}
  (hpre:l.row.toRowW.claim.pre args=true)(hwl:WellAll P h vals args) :
  ∃a vs ns,vals=[Value.ref a]/\args=[WData.list (ns.map WData.int)]/\h.get? a=some {cls:=.type "list",data:=.seq vs.toArray}/\IntsAre vs ns/\ns.length<=n:=by
 have hsh:WShape.hasAll [] args [.list .int]=true:=(pre_splitW hpre).1
 have hc:l.pre.holds [] {args:=args}=true:=(pre_splitW hpre).2
 obtain⟨d,r,rfl,h1,h2⟩:=hasAllW_cons hsh
 obtain rfl:=hasAllW_nil h2
 obtain⟨xs,rfl,h3⟩:=hasW_list h1
 obtain⟨ns,rfl⟩:=items_int h3
 have hlen:ns.length<=n:=by
  unfold OpenLaw.pre at hc
  have h4:(WTm.not (.lt (.lit (.int (n:Int))) (.len (.arg 0)))).holds [] {args:=[.list (ns.map .int)]}=true:=by
   have h4:=(holds_andW hc).1
   rw[hn]at h4
   exact h4
  have h5:=condW_of h4 (w_not (w_lt w_lit (w_len_list (w_arg rfl))))
  rw[qC]at h5
  refine Nat.le_of_not_lt λq=>?_
  have q':(n:Int)<((ns.length:Nat):Int):=by omega
  first
   | (rw[decide_eq_true q']at h5;exact absurd h5 (by decide))
   | (simp at h5;omega)
 cases hwl with
 | cons w1 w2=>
  cases w2
  cases w1 with
  | list ho hall=>exact⟨_,_,ns,rfl,rfl,ho,zmr ns _ hall,hlen⟩
theorem zyk(l:OpenLaw)(args:List WData):l.row.toRowW.claim.post args (.bool true) args=true:=
 postW_of (r:=l.row.toRowW) (X:=(true==true))
  (show WShape.has [] (.bool true) .bool=true by first|rfl|decide|simp[WShape.has,WShape.arms,WShape.armsAll])
  (show(WTm.eq .res (.lit (.bool true))).value [] {args:=args,res:=some (.bool true),after:=args}=some (.bool (true==true))from w_eq_bool (w_res rfl) w_lit) rfl
theorem attach_call{l:OpenLaw}{n:Nat}{q:Program}{loose:List Str}{XP:(Str->Option Value)->Heap->Prop}{YP:World->Heap->Prop}{d:DefRec}
  (hn:l.most=some n)(hdf:d.params.defaults=[])
  (call:∀(w:World)(s₀ s₁:Shared)(mg mb:Str->Option Value)(fa:Addr)(o:Obj)(pm cd doc:Value)(a:Addr)(vs:List Value)(ns:List Int),
   Ground q loose [] XP w s₀ mg mb s₁.heap->YP w s₁.heap->
   s₁.heap.get? fa=some o->o.data=.func (docDef d.name d.params d.body d.scope pm cd doc)->s₁.heap.CodeRec cd d.name->mg d.name=some (.ref fa)->
   s₁.heap.get? a=some {cls:=.type "list",data:=.seq vs.toArray}->IntsAre vs ns->ns.length<=n->s₁.gens=#[]->
   codeAny (model l.prog w) callerA (.call (.ref fa) ⟨[.ref a],[]⟩) (λr s'=>r=.ok (.ret (.bool true))/\OldK s₁.heap s'.heap/\s'.os=s₁.os/\AllBare s'.gens) s₁) :
  WalkO q loose XP YP l.row.toRowW d [] (λf vs=>PySem.call f vs):=by
 intro w s₀ s₁ mg mb G Y fa o pm cd doc dV kV ho hd hcd hD hmg hg args vals as hpre hlay hrd hwl hlo
 obtain rfl:dV=.none:=Dflts.none hD hdf
 obtain rfl:kV=.none:=Dflts.noKw hD
 obtain⟨a,vs,ns,rfl,rfl,hobj,hints,hlen⟩:=zyj hn hpre hwl
 refine enter_call (qAn (call w s₀ s₁ mg mb fa o pm cd doc a vs ns G Y ho (fd_plain hd) hcd hmg hobj hints hlen hg) λr s' hq=>?_)
 obtain⟨rfl,h2,h3,h4⟩:=hq
 exact⟨.inl ⟨.bool true,.bool true,[],rfl,λ_=>rfl,.bool true,zyk l _,λ_=>⟨List.Pairwise.nil,λ_ hm=>(nomatch hm)⟩⟩,h2,h3,h4⟩
end Att
namespace L2
open PySem PySem.Spec PyProof.Rows
theorem zsj:∀{vs:List Value}{ns:List Int},IntsAre vs ns->Vals (ns.map V.int) vs
 | _,_,.nil=>.nil
 | _,_,.cons n t h=>.cons ⟨t,rfl⟩ (zsj h)
noncomputable def Only(H:Hp):Prop:=∀b,H b=none\/∃o xs,H b=some (.frz o (.lst xs))
theorem zabi{P:Program}{w:World}{K:qD}{mg mb:Str->Option Value}{CX:CXT}{k:Nat}{fa a:Addr}{fd:qw}{x:Str}{sp:Sp}{s₁:Shared}{vs:List Value}{ns:List Int}
  (KX:K.In s₁.heap)(hns:s₁.heap.Ns qO mg)(hb:s₁.heap.Ns builtinsNs mb)(hbb:∀x:Str,x≠"__name__"->mb x=bootBuiltins x)(hlim:s₁.heap.NoLimit)(hg:s₁.gens=#[])
  (ha:s₁.heap.get? a=some {cls:=.type "list",data:=.seq vs.toArray}) (hi:IntsAre vs ns) (hl:ns.length<=qc) (hr:Room k callerA)
  (F:∀base:Heap,K.In base->base.Ns qO mg->FnOk P w K mg base CX k fa fd [x] sp)(hbind:∀(s:Shared) (u:Value),BindsTo s fd ⟨[u],[]⟩ [(x,u)])
  (hsp:∀H:Hp,Only H->SqL K H a (ns.map V.int)->sp [.ref a] H (λv _=>v=.bl true) λ_ _ _=>False)
  (hCX:∀H e s',CX [] H s₁ (λ_ _ _=>False) e s'->False) :
  codeAny (model P w) callerA (.call (.ref fa) ⟨[.ref a],[]⟩) (λr s'=>r=.ok (.ret (.bool true))/\OldK s₁.heap s'.heap/\s'.os=s₁.os/\AllBare s'.gens) s₁:=by
 have rv:=zsj hi
 have lenV:=hi.length
 have core:∀H:Hp,Only H->SqL K H a (ns.map V.int)->HOk P w H s₁.heap->(∀b,H b≠none->b=a)->(H a≠none->K.lookup a=none)->
   codeAny (model P w) callerA (.call (.ref fa) ⟨[.ref a],[]⟩) (λr s'=>r=.ok (.ret (.bool true))/\OldK s₁.heap s'.heap/\s'.os=s₁.os/\AllBare s'.gens) s₁:=by
  intro H hO hS hok hA hK
  have base_of:∀{b:Addr}{o:Obj},s₁.heap.get? b=some o->H b=none->(hidT s₁.heap H).get? b=some o:=λe n=>zaav e n
  have noA:∀{b:Addr}{o:Obj}{es:Array DictEntry}{ep:Nat},s₁.heap.get? b=some o->o.data=.dict es ep->H b=none:=λ{b o es ep} e d=>by
   cases q:H b with
   | none=>rfl
   | some u=>
    have e':b=a:=hA b (by rw[q];simp)
    subst e'
    rw[ha]at e;cases e
    have d':Data.seq vs.toArray _=Data.dict es ep:=d
    cases d'
  have nsK:∀{b:Addr}{m:Str->Option Value},s₁.heap.Ns b m->(hidT s₁.heap H).Ns b m:=λ{b m} ⟨o,es,ep,e,d,r⟩=>⟨o,es,ep,base_of e (noA e d),d,r⟩
  have hKb:K.In (hidT s₁.heap H):=λb o e=>base_of (KX b o e) (by
   cases q:H b with
   | none=>rfl
   | some u=>
    have e':b=a:=hA b (by rw[q];simp)
    subst e'
    rw[hK (by rw[q];simp)]at e;cases e)
  have hM:Mod K mg (hidT s₁.heap H):=⟨hKb,nsK hns,⟨mb,nsK hb,hbb⟩,let⟨mc,h1,h2⟩:=hlim;⟨mc,nsK h1,h2⟩⟩
  have e0:Env0 P w K mg (hidT s₁.heap H) callerA [] s₁ H:=⟨rfl,hM,λb o e=>zadu e,Nat.le_of_eq (zxv _ _),trivial,λb hb=>absurd (show b∈([]:List Addr)from hb) (by simp),hok,.of_eq hg⟩
  refine qAn ((F _ hKb (nsK hns)).run callerA [] s₁ H ⟨[.ref a],[]⟩ [.ref a] [.ref a] _ _ hr e0 (hbind s₁ (.ref a)) (.cons rfl .nil) (hsp H hO hS)) λr s' h=>?_
  cases r with
  | error e=>exact(hCX H e s' h).elim
  | ok fl=>
   cases fl with
   | next=>exact False.elim h
   | brk=>exact False.elim h
   | cont=>exact False.elim h
   | ret u=>
    obtain⟨v,H',os,bare,un,hok',r',q⟩:=h
    have q':v=.bl true:=q
    subst q'
    obtain rfl:u=Value.bool true:=r'
    refine⟨rfl,OldK.of_keep λb o e=>?_,os,bare⟩
    cases q:H b with
    | none=>exact un.keep b o e q (by intro z;exact absurd (show b∈([]:List Addr)from z) (by simp)) (by simp)
    | some u=>
     rcases hO b with z|⟨ob,xs,z⟩
     ·rw[q]at z;cases z
     ·have z2:=un.frzs b ob _ z
      obtain⟨e1,_⟩:=hok b _ z
      obtain⟨e2,_⟩:=hok' b _ z2
      rw[e]at e1;cases e1
      exact e2
 cases hk:K.lookup a with
 | some o=>
  have e:=KX a o hk
  rw[ha]at e
  cases e
  refine core (λ_=>none) (λ_=>.inl rfl) (.inr ⟨_,vs.toArray,_,hk,rfl,rfl,rfl,by rw[qJ,lenV];exact hl,by simpa using rv⟩) (λb u z=>by have z':(none:Option HO)=some u:=z;cases z') (λb z=>absurd rfl z) λz=>absurd rfl z
 | none=>
  refine core (λb=>if b=a then some (.frz {cls:=.type "list",data:=.seq vs.toArray} (.lst (ns.map V.int)))else none) (λb=>?_) (.inl (.inr ⟨{cls:=.type "list",data:=.seq vs.toArray},if_pos rfl⟩)) (λb u z=>?_) (λb z=>?_) λ_=>hk
  ·by_cases hb:b=a
   ·exact .inr ⟨_,_,if_pos hb⟩
   ·exact .inl (if_neg hb)
  ·by_cases hb:b=a
   ·have z':=(if_pos hb).symm.trans z
    cases z'
    subst hb
    exact⟨ha,by rw[qC];exact hl,vs,_,rv,ha⟩
   ·have z':=(if_neg hb).symm.trans z
    cases z'
  ·by_cases hb:b=a
   ·exact hb
   ·exact absurd (if_neg hb) z
theorem walk_of{l:PySem.W.OpenLaw}{n k:Nat}{q:Program}{loose:List Str}{XP:(Str->Option Value)->Heap->Prop}{YP:World->Heap->Prop}{d:DefRec}{K:Params->qD}{CX:World->CXT}{sp:World->Sp}{x:Str}
  (hn:l.most=some n)(hn2:n<=qc)(hdf:d.params.defaults=[])(hr:Room k callerA)
  (hY:∀(w:World) (h:Heap),YP w h->(K w.params).In h)
  (F:∀(w:World)(mg:Str->Option Value)(fa:Addr)(h:Heap),(K w.params).In h->h.Ns qO mg->mg d.name=some (.ref fa)->
   ∃fd:qw,(∀(s:Shared)(u:Value),BindsTo s fd ⟨[u],[]⟩ [(x,u)])/\
    ∀base:Heap,(K w.params).In base->base.Ns qO mg->FnOk l.prog w (K w.params) mg base (CX w) k fa fd [x] (sp w))
  (hsp:∀(w:World) (H:Hp) (a:Addr) (ns:List Int),ns.length<=n->Only H->SqL (K w.params) H a (ns.map V.int)->sp w [.ref a] H (λv _=>v=.bl true) λ_ _ _=>False)
  (hCX:∀(w:World) (H:Hp) (s:Shared) (e:Value) (s':Shared),CX w [] H s (λ_ _ _=>False) e s'->False) :
  PySem.W.WalkO q loose XP YP l.row.toRowW d [] (λf vs=>PySem.call f vs):=by
 refine Att.attach_call hn hdf λw s₀ s₁ mg mb fa o pm cd doc a vs ns G Y ho hd hcd hmg hobj hints hlen hg=>?_
 have KX:=hY w _ Y
 obtain⟨fd,hb,hF⟩:=F w mg fa _ KX G.T.g hmg
 exact zabi KX G.T.g G.T.b G.T.builtins G.T.nolimit hg hobj hints (qf hlen hn2) hr hF hb (λH hO hS=>hsp w H a ns hlen hO hS) λH e s'=>hCX w H s₁ e s'
end L2
namespace L2
open PySem PySem.Spec PyProof.Rows
noncomputable def zbr(s:Stmt):Arguments:=match s with
 | .FunctionDef _ a _ _ _ _ _ _ _ _=>a
 | _=>{posonlyargs:=[],args:=[],vararg:=none,kwonlyargs:=[],kw_defaults:=[],kwarg:=none,defaults:=[]}
noncomputable def zbo(s:Stmt):List Stmt:=match s with
 | .FunctionDef _ _ b _ _ _ _ _ _ _=>b
 | _=>[]
noncomputable def zar(s:Stmt):Scope:=match s with
 | .FunctionDef _ _ _ _ _ _ sc _ _ _=>sc
 | _=>{kind:=.function,names:=[],isGenerator:=false,isCoroutine:=false}
noncomputable abbrev CX0:CXT:=λ_ _ _ _ _ _=>False
noncomputable abbrev E0:XK:=λ_ _ _=>False
theorem zahz{X:Cx}:zvt CX0 X E0:=λ_ _ _ _ _ _ _ h=>h.elim
set_option genInjectivity false in
structure Fun(K:qD)(x qual:Str)(st:Stmt)(f:Addr)(fd:qw):Prop where
 ex:∃(oc:Value)(od:Option Addr)(kV doc pm:Value)(an:Option Addr)(cdv ct:Value)(osl:Array (Option Value)),
  fd=qd x qual (zbr st) (zbo st) (zar st) .none kV doc pm an cdv ct/\K.lookup f=some ⟨oc,od,.func fd,osl⟩/\qZ K cdv qual=true
 kp:qU K (.ref f)=true
section
variable{P:Program}{w:World}{K:qD}{mg:Str->Option Value}{base:Heap}
theorem Fun.ok{x qual:Str}{st:Stmt}{f:Addr}{fd:qw}{N ps:List Str}{k:Nat}{sp:Sp}(F:Fun K x qual st f fd)(S:FnScope N ps (zar st))(len:∀vs H Q E,sp vs H Q E->vs.length=ps.length)
  (hbody:∀(cdv:Value)(A:Around)(outer:List Env)(s:Shared)(H:Hp)(vs:List V)(Q:VK)(E:XK),Room k (A.deeper (envOfC qual (zar st) s.heap.objs.size f cdv))->sp vs H Q E->
   ∃t,PSs (cxOf CX0 P w K mg base N qual (zar st) f cdv A outer s H E).nox (zbo st) t/\t {nx:=λ_ H'=>Q .non H',rt:=Q} (zgx N vs) H):FnOk P w K mg base CX0 (k+1) f fd ps sp:=by
 obtain⟨oc,od,kV,doc,pm,an,cdv,ct,osl,rfl,lk,hcd⟩:=F.ex
 refine zako lk hcd S len λA outer s H vs Q E hr hsp=>?_
 obtain⟨t,h,q⟩:=hbody cdv A outer s H vs Q E hr hsp
 exact⟨t,h.nox,q⟩
theorem Fun.binds{x qual:Str}{st:Stmt}{f:Addr}{fd:qw}{ps:List Str}(F:Fun K x qual st f fd)
  (h:∀(kV doc pm:Value) (an:Option Addr) (cdv ct:Value) (us:List Value),us.length=ps.length->bindArgs (qd x qual (zbr st) (zbo st) (zar st) .none kV doc pm an cdv ct) ⟨us,[]⟩=pure (ps.zip us)):zwv K fd ps []:=by
 obtain⟨oc,od,kV,doc,pm,an,cdv,ct,osl,rfl,lk,hcd⟩:=F.ex
 exact .all (h kV doc pm an cdv ct)
theorem zeb{x qual:Str}{st:Stmt}{f:Addr}{oc:Value}{od an:Option Addr}{osl:Array (Option Value)}{kV doc pm cdv ct:Value}(l:K.lookup f=some ⟨oc,od,.func (qd x qual (zbr st) (zbo st) (zar st) .none kV doc pm an cdv ct),osl⟩)
  (c:qZ K cdv qual=true) (k:qU K (.ref f)=true):Fun K x qual st f (qd x qual (zbr st) (zbo st) (zar st) .none kV doc pm an cdv ct):=⟨⟨oc,od,kV,doc,pm,an,cdv,ct,osl,rfl,l,c⟩,k⟩
end
theorem zhk{A:Around}{k:Nat}(hr:Room k A):A.units+1<cLine:=Nat.lt_of_le_of_lt (Nat.add_le_add_left (by decide:1<=64) _) hr.units
theorem iteF{A B:Prop}(h:B):if false=true then A else B:=by
 rw[if_neg qK]
 exact h
theorem iteT{A B:Prop}(h:A):if true=true then A else B:=by
 rw[if_pos rfl]
 exact h
noncomputable def Same(H H':Hp):Prop:=∀b o,H b=some o->H' b=some o
theorem Same.refl(H:Hp):Same H H:=λ_ _ h=>h
theorem Same.trans{H H1 H2:Hp}(a:Same H H1)(b:Same H1 H2):Same H H2:=λc o h=>b c o (a c o h)
theorem Same.free{H H':Hp}(e:Same H H'){l:Addr}(h:H' l=Option.none):H l=Option.none:=by
 cases q:H l with
 | none=>rfl
 | some o=>
  rw[e l o q]at h
  cases h
theorem Same.seq{K:qD}{H H':Hp}{a:Addr}{xs:List V}(e:Same H H')(h:SqL K H a xs):SqL K H' a xs:=by
 rcases h with(h|⟨o,h⟩)|h
 ·exact .inl (.inl (e _ _ h))
 ·exact .inl (.inr ⟨o,e _ _ h⟩)
 ·exact .inr h
end L2
set_option maxHeartbeats 4000000
namespace L2
open PySem PySem.Spec PyProof.Rows
noncomputable def clos(cells:List (Str×Addr)):List (Str×NameKind)->List (Str×Addr)->List (Str×Addr)
 | [],acc=>acc
 | (n,k)::r,acc=>if k==.free then clos cells r ((n,(cells.lookup n).getD 0)::acc)else clos cells r acc
theorem zqt{cells:List (Str×Addr)}:∀{names:List (Str×NameKind)}{acc:List (Str×Addr)},(∀y∈names,y.2=.free->∃c,cells.lookup y.1=some c)->∀p∈clos cells names acc,p∈acc\/((p.1,NameKind.free)∈names/\cells.lookup p.1=some p.2)
 | [],acc,_,p,hp=>.inl hp
 | (n,k)::r,acc,h,p,hp=>by
  unfold clos at hp
  have hr:∀y∈r,y.2=.free->∃c,cells.lookup y.1=some c:=λy hy=>h y (qL _ hy)
  split at hp
  ·rename_i hk
   rcases zqt hr p hp with q|q
   ·rcases qW.mp q with q|q
    ·subst q
     have hk':k=.free:=by simpa using hk
     subst hk'
     obtain⟨c,hc⟩:=h (n,.free) qAE rfl
     exact .inr ⟨qAE,by show cells.lookup n=some ((cells.lookup n).getD 0);rw[hc];rfl⟩
    ·exact .inl q
   ·exact .inr ⟨qL _ q.1,q.2⟩
  ·rcases zqt hr p hp with q|q
   ·exact .inl q
   ·exact .inr ⟨qL _ q.1,q.2⟩
theorem zqu{cells:List (Str×Addr)}:∀{names:List (Str×NameKind)}{acc:List (Str×Addr)},∀p∈acc,p∈clos cells names acc
 | [],acc,p,hp=>hp
 | (n,k)::r,acc,p,hp=>by
  unfold clos
  split
  ·exact zqu p (qL _ hp)
  ·exact zqu p hp
theorem zqv{cells:List (Str×Addr)}{x:Str}:∀{names:List (Str×NameKind)}{acc:List (Str×Addr)},(x,NameKind.free)∈names->∃c,(x,c)∈clos cells names acc
 | [],_,h=>by simp at h
 | (n,k)::r,acc,h=>by
  unfold clos
  rcases qW.mp h with e|h
  ·cases e
   rw[if_pos (show(NameKind.free==NameKind.free)=true by decide)]
   exact⟨_,zqu _ qAE⟩
  ·split
   ·exact zqv h
   ·exact zqv h
theorem zkj{α:Type}{x:Str}{c:α}:∀{l:List (Str×α)},(x,c)∈l->∃c',l.lookup x=some c'
 | [],h=>by simp at h
 | (k,v)::r,h=>by
  rw[qAS]
  cases hb:x==k with
  | true=>exact⟨v,rfl⟩
  | false=>
   rcases qW.mp h with e|h
   ·cases e;simp at hb
   ·exact zkj h
theorem zkk{scope:Scope}{env:Env}(h:∀y∈scope.names,y.2=.free->∃c,env.cells.lookup y.1=some c):closureFor scope env=pure (clos env.cells scope.names []):=by
 unfold closureFor
 have key:∀(names:List (Str×NameKind))(acc:List (Str×Addr)),(∀y∈names,y.2=.free->∃c,env.cells.lookup y.1=some c)->
   (forIn names acc (λ(x:Str×NameKind) (r:List (Str×Addr))=>(if(x.2==.free)=true then(do let a <- cellOf env x.1;pure (ForInStep.yield ((x.1,a)::r)))else pure (ForInStep.yield r):Sem (ForInStep (List (Str×Addr))))))=pure (clos env.cells names acc):=by
  intro names
  induction names with
  | nil=>intro acc _;rfl
  | cons y r ih=>
   intro acc hy
   obtain⟨n,k⟩:=y
   have hr:=λy (hm:y∈r)=>hy y (qL _ hm)
   rw[List.forIn_cons]
   unfold clos
   cases hk:(k==NameKind.free)with
   | true=>
    have hk':k=.free:=by simpa using hk
    subst hk'
    obtain⟨c,hc⟩:=hy (n,.free) qAE rfl
    have e1:cellOf env n=pure c:=by unfold cellOf;rw[hc]
    simp only[if_true]
    have hc':env.cells.lookup n=some c:=hc
    rw[e1,hc']
    simp only[pure_bind,Option.getD_some]
    exact ih _ hr
   | false=>
    simp only[qA4,if_false,pure_bind]
    exact ih _ hr
 simpa using key scope.names [] h
theorem zgm:∀(names:List (Str×NameKind))(n:Nat)(acc:List (Str×Addr)),cellsFrom n names acc=cellsFrom n names []++acc
 | [],_,_=>rfl
 | (name,kind)::r,n,acc=>by
  unfold cellsFrom
  split
  ·rw[zgm r (n+1) ((name,n)::acc),zgm r (n+1) [(name,n)],qAD];rfl
  ·exact zgm r n acc
theorem zgn{x:Str}{c:Addr}:∀(names:List (Str×NameKind))(n:Nat)(acc:List (Str×Addr)),(x,c)∈cellsFrom n names acc->(x,c)∈acc\/(x,NameKind.cell)∈names
 | [],_,_,h=>.inl h
 | (name,kind)::r,n,acc,h=>by
  unfold cellsFrom at h
  split at h
  ·rename_i hk
   have hk':kind=.cell:=by simpa using hk
   subst hk'
   rcases zgn r _ _ h with q|q
   ·rcases qW.mp q with q|q
    ·cases q;exact .inr qAE
    ·exact .inl q
   ·exact .inr (qL _ q)
  ·rcases zgn r _ _ h with q|q
   ·exact .inl q
   ·exact .inr (qL _ q)
theorem zjp{α:Type}{x:Str}:∀{l r:List (Str×α)},(l++r).lookup x=(l.lookup x).or (r.lookup x)
 | [],_=>by simp
 | (k,v)::l,r=>by
  rw[List.cons_append,qAS,qAS]
  cases x==k with
  | true=>rfl
  | false=>exact zjp
theorem zfy{env:Env}{x:Str}{k':NameKind}:∀{names:List (Str×NameKind)},
  (names.map λ(n,k)=>if(k==NameKind.free&&env.scope.kind==.function&&env.kindOf n==some .cell)then(n,NameKind.cell)else(n,k)).lookup x=some k'->
  ∃k,names.lookup x=some k/\(k'=k\/(k=.free/\k'=.cell))
 | [],h=>by simp at h
 | (n,k)::r,h=>by
  rw[qm]at h
  by_cases hc:(k==NameKind.free&&env.scope.kind==.function&&env.kindOf n==some .cell)=true
  ·simp only[hc,if_true]at h
   rw[qAS]at h ⊢
   cases hx:x==n with
   | true=>
    rw[hx]at h
    have hk:k=.free:=by simp at hc;exact hc.1.1
    exact⟨k,rfl,.inr ⟨hk,(qu h).symm⟩⟩
   | false=>rw[hx]at h;exact zfy h
  ·simp only[hc,qA4,if_false]at h
   rw[qAS]at h ⊢
   cases hx:x==n with
   | true=>rw[hx]at h;exact⟨k,rfl,.inl (qu h).symm⟩
   | false=>rw[hx]at h;exact zfy h
theorem zit{env:Env}{x:Str}:∀{names:List (Str×NameKind)},names.lookup x=some .free->
  ((names.map λ(n,k)=>if(k==NameKind.free&&env.scope.kind==.function&&env.kindOf n==some .cell)then(n,NameKind.cell)else(n,k)).lookup x=some .free\/
   (names.map λ(n,k)=>if(k==NameKind.free&&env.scope.kind==.function&&env.kindOf n==some .cell)then(n,NameKind.cell)else(n,k)).lookup x=some .cell)
 | [],h=>by simp at h
 | (n,k)::r,h=>by
  rw[qm]
  rw[qAS]at h
  by_cases hc:(k==NameKind.free&&env.scope.kind==.function&&env.kindOf n==some .cell)=true
  ·simp only[hc,if_true]
   rw[qAS]
   cases hx:x==n with
   | true=>exact .inr rfl
   | false=>rw[hx]at h;exact zit h
  ·simp only[hc,qA4,if_false]
   rw[qAS]
   cases hx:x==n with
   | true=>rw[hx]at h;exact .inl h
   | false=>rw[hx]at h;exact zit h
theorem zwx{M:Model}{A:Around}{E:Value->Shared->Prop}{s:Shared}{scope:Scope}{globals:Addr}{cl:List (Str×Addr)}{qual:Str}{env:Env}{Q:Env->Shared->Prop}
  (hQ:∀h',(∀b o,s.heap.get? b=some o->h'.get? b=some o)->h'.Ns s.heap.objs.size (λ_=>none)->(∀n c,(n,c)∈cellsFrom (s.heap.objs.size+1) scope.names []->h'.IsCell c none/\s.heap.objs.size+1<=c)->
   ((cellsFrom (s.heap.objs.size+1) scope.names []).Pairwise λx y=>x.2≠y.2)->
   Q {scope:=scope,locals:=s.heap.objs.size,globals:=globals,cells:=cellsFrom (s.heap.objs.size+1) scope.names []++cl,qual:=qual,func:=none,code:=env.code,frame:=env.frame,builtins:=env.builtins} {s with heap:=h'}) :
  wpAny M A (newFunctionEnv scope globals cl [] qual none .none (some env)) Q E s:=by
 simp only[newFunctionEnv,Option.isSome_some,if_true]
 refine qo (wpAny_alloc ?_)
 refine qo (wpAny_layCells _ (λname kind cells=>by cases hkc:kind==NameKind.cell<;>simp[hkc]) _ _ _ _ ?_)
 have ok:=cellsFrom_ok scope.names (s.heap.push {cls:=.type "dict",data:=.dict #[]}) (s.heap.objs.size+1) [] ⟨λ_ _ hm=>(nomatch hm),List.Pairwise.nil⟩ (by rw[qBQ];exact qI _)
 rw[qBQ]at ok
 rw[show({s with heap:=s.heap.push {cls:=.type "dict",data:=.dict #[]}}:Shared).heap.objs.size=s.heap.objs.size+1 from qBQ ..]
 rw[zgm]
 refine qo ?_
 refine qAG (qAG ?_)
 exact hQ _ (λb o e=>pushCells_keeps _ _ b o (qg _ e)) ((Heap.Ns.new s.heap (.type "dict")).keeps (pushCells_keeps _ _)) ok.empty ok.apart
noncomputable def cxComp(X:Cx)(scope:Scope)(N' own:List Str)(cl:List (Str×Addr))(C:Addr)(s:Shared)(H:Hp)(fp:List Addr):Cx:=
 {X with N:=N',s₀:=s,H₀:=H,env:=compEnvC scope cl C X.env,outer:=X.stack,stack:=X.stack,ex:=fp,fn:=λx=>own.contains x,pn:=[],xe:=λ_ _=>False}
structure CompOk(X:Cx)(scope:Scope)(N' own:List Str)(fr:List Nat):Prop where
 kind:scope.kind=.function
 names:∀y∈scope.names,scope.names.lookup y.1=some y.2
 up:∀y∈scope.names,y.2=.free->(X.env.kindOf y.1=some .cell\/X.env.kindOf y.1=some .free)
 nm:N'=own++fr.map (λj=>X.N.getD j Str.empty)
 fr:∀j∈fr,j<X.N.length/\scope.names.lookup (X.N.getD j Str.empty)=some .free
 own:∀x∈own,scope.names.lookup x=some .local\/scope.names.lookup x=some .cell
noncomputable def tau(own:List Str)(fr:List Nat)(σ:St):St:=own.map (λ_=>none)++fr.map (λj=>σ.getD j none)
section
variable{X:Cx}{pins:List (Addr×Obj)}{σ:St}{H:Hp}{s:Shared}{scope:Scope}{N' own:List Str}{fr:List Nat}
theorem zle(c:CompOk X scope N' own fr)(ok:X.Ok):∀y∈scope.names,y.2=.free->∃a,X.env.cells.lookup y.1=some a:=λy hy e=>ok.has y.1 (c.up y hy e)
theorem zabj{fp:List Addr}{h':Heap}(c:CompOk X scope N' own fr)(I:Inv X pins σ H s)
  (hf:∀b∈fp,FpOk X pins H b)(ho:∀b∈fp,∃o,s.heap.get? b=some o/\∀v,o.data≠.cell v)
  (keep:∀b o,s.heap.get? b=some o->h'.get? b=some o)(ns:h'.Ns s.heap.objs.size (λ_=>none))
  (cells:∀n c,(n,c)∈cellsFrom (s.heap.objs.size+1) scope.names []->h'.IsCell c none/\s.heap.objs.size+1<=c)
  (apart:(cellsFrom (s.heap.objs.size+1) scope.names []).Pairwise λx y=>x.2≠y.2) :
  Inv (cxComp X scope N' own (cellsFrom (s.heap.objs.size+1) scope.names []++clos X.env.cells scope.names []) s.heap.objs.size s H fp) [] (tau own fr σ) H {s with heap:=h'}:=by
 have found:=zle c I.ok
 have clm:∀x a,(x,a)∈clos X.env.cells scope.names []->(x,NameKind.free)∈scope.names/\X.env.cells.lookup x=some a:=λx a hm=>by
  rcases zqt found (x,a) hm with q|q
  ·simp at q
  ·exact q
 have look:∀x a,(cellsFrom (s.heap.objs.size+1) scope.names []++clos X.env.cells scope.names []).lookup x=some a->
   ((x,a)∈cellsFrom (s.heap.objs.size+1) scope.names []/\(x,NameKind.cell)∈scope.names)\/((x,NameKind.free)∈scope.names/\X.env.cells.lookup x=some a):=λx a e=>by
  rw[zjp]at e
  cases q:(cellsFrom (s.heap.objs.size+1) scope.names []).lookup x with
  | some b=>
   rw[q]at e
   cases e
   have hm:=q4 q
   rcases zgn _ _ _ hm with z|z
   ·simp at z
   ·exact .inl ⟨hm,z⟩
  | none=>
   rw[q]at e
   exact .inr (clm x a (q4 e))
 have lookF:∀x a,(x,NameKind.free)∈scope.names->X.env.cells.lookup x=some a->(cellsFrom (s.heap.objs.size+1) scope.names []++clos X.env.cells scope.names []).lookup x=some a:=λx a hx e=>by
  rw[zjp]
  have q:(cellsFrom (s.heap.objs.size+1) scope.names []).lookup x=none:=by
   cases q:(cellsFrom (s.heap.objs.size+1) scope.names []).lookup x with
   | none=>rfl
   | some b=>
    rcases zgn _ _ _ (q4 q)with z|z
    ·simp at z
    ·have h1:=c.names _ hx
     have h2:=c.names _ z
     rw[h1]at h2
     cases h2
  rw[q]
  obtain⟨d,hd⟩:=zqv (cells:=X.env.cells) (acc:=[]) hx
  obtain⟨d',hd'⟩:=zkj hd
  have:=(clm x d' (q4 hd')).2
  rw[e]at this
  cases this
  exact hd'
 have below:∀b o,s.heap.get? b=some o->b<s.heap.objs.size:=λb o e=>qh e
 have cold:∀x a,X.env.cells.lookup x=some a->a<s.heap.objs.size:=λx a e=>let⟨v,q⟩:=I.cell x a e;q.lt
 refine⟨⟨I.ok.mod,c.kind,I.ok.glob,I.ok.blt,qI _,?inj,?has,?cab,I.ok.hd,I.ok.frames,.inl rfl,?exf,I.bs,qf I.ok.bsz I.sz,?noex,?exfs,I.stack,I.stkFree⟩,
  rfl,I.bare,Un.kept keep,⟨_,ns,?loc⟩,?cell,I.hok.fresh (qI _),?freeC,?pin,I.hok.kept keep,?len⟩
 case inj=>
  intro x y a h1 h2
  rcases look x a h1 with⟨m1,k1⟩|⟨k1,e1⟩<;>rcases look y a h2 with⟨m2,k2⟩|⟨k2,e2⟩
  ·exact name_of_addr apart m1 m2
  ·exact absurd (qH (cold y a e2) (qA8 (cells x a m1).2)) (qAW _)
  ·exact absurd (qH (cold x a e1) (qA8 (cells y a m2).2)) (qAW _)
  ·exact I.ok.inj x y a e1 e2
 case has=>
  intro x hx
  have hx':(∃k,scope.names.lookup x=some k/\(k=.cell\/k=.free)):=by
   rcases hx with hx|hx
   ·obtain⟨k,e,q⟩:=zfy (env:=X.env) (names:=scope.names) hx
    rcases q with q|⟨q,_⟩
    ·exact⟨k,e,.inl q.symm⟩
    ·exact⟨k,e,.inr q⟩
   ·obtain⟨k,e,q⟩:=zfy (env:=X.env) (names:=scope.names) hx
    rcases q with q|⟨q,_⟩
    ·exact⟨k,e,.inr q.symm⟩
    ·exact⟨k,e,.inr q⟩
  obtain⟨k,e,q⟩:=hx'
  show ∃a,(cellsFrom (s.heap.objs.size+1) scope.names []++clos X.env.cells scope.names []).lookup x=some a
  rcases q with rfl|rfl
  ·obtain⟨a,ha⟩:=zqp (n:=s.heap.objs.size+1) e
   exact⟨a,by rw[zjp,ha];rfl⟩
  ·obtain⟨a,ha⟩:=found _ (q4 e) rfl
   exact⟨a,lookF x a (q4 e) ha⟩
 case cab=>
  intro x a hx e
  have hx:own.contains x=true:=hx
  have hx':x∈own:=by simpa using hx
  rcases look x a e with⟨m1,_⟩|⟨k1,_⟩
  ·have:=(cells x a m1).2
   show s.heap.objs.size<=a
   omega
  ·have h1:=c.names _ k1
   rcases c.own x hx' with h2|h2
   ·rw[h1]at h2;cases h2
   ·rw[h1]at h2;cases h2
 case exf=>
  intro b hb
  obtain⟨o,e,d⟩:=ho b hb
  refine⟨qAT (below b o e),λx a q z=>?_⟩
  subst z
  rcases look x a q with⟨m1,_⟩|⟨k1,e1⟩
  ·exact absurd (qH (below a o e) (qA8 (cells x a m1).2)) (qAW _)
  ·obtain⟨v,o',e',d'⟩:=I.cell x a e1
   rw[e]at e'
   cases e'
   exact d v d'
 case noex=>
  intro b o e hb
  rcases(hf b hb).2.2.2.1 with z|z
  ·exact I.ok.noex b o e z
  ·exact absurd (qH (qH (qh e) I.ok.bsz) z) (qAW _)
 case exfs=>
  intro b hb z
  rcases qW.mp (I.stkSub b z)with q|q
  ·exact(hf b hb).2.1 q
  ·exact(hf b hb).2.2.1 q
 case loc=>
  intro i x v h1 h2 h3
  have h1:N'[i]?=some x:=h1
  rw[c.nm]at h1
  unfold tau at h2
  by_cases hi:i<own.length
  ·rw[qAI (by simpa using hi),qa]at h2
   cases q:own[i]? with
   | none=>rw[q]at h2;cases h2
   | some z=>rw[q]at h2;cases h2
  ·rw[qAA (by simpa using hi),qa,qC]at h2
   rw[qAA (by simpa using hi),qa]at h1
   cases q:fr[i - own.length]? with
   | none=>rw[q]at h2;cases h2
   | some j=>
    rw[q]at h1 h2
    have e1:X.N.getD j Str.empty=x:=qu h1
    have e2:σ.getD j none=some v:=qu h2
    obtain⟨hj,hfree⟩:=c.fr j (qAj q)
    rw[e1]at hfree
    have hNj:X.N[j]?=some x:=by
     rw[<- e1,qx,qN hj];rfl
    have hσj:σ[j]?=some (some v):=by
     rw[qx]at e2
     cases z:σ[j]? with
     | none=>rw[z]at e2;cases e2
     | some w=>rw[z]at e2;rw[show w=some v from e2]
    have hmem:(x,NameKind.free)∈scope.names:=q4 hfree
    have hup:=c.up _ hmem rfl
    obtain⟨m,hn,hl⟩:=I.loc
    obtain⟨u,ru,lk⟩:=hl j x v hNj hσj (by rcases hup with z|z;exact .inr (.inl z);exact .inr (.inr z))
    refine⟨u,ru,.inr ⟨?_,?_⟩⟩
    ·rcases zit (env:=X.env) (names:=scope.names) hfree with z|z
     ·exact .inr z
     ·exact .inl z
    ·rcases lk with⟨k1,_⟩|⟨_,a,ha,hc⟩
     ·rcases hup with z|z
      ·rw[show X.env.kindOf x=some .cell from z]at k1;cases k1
      ·rw[show X.env.kindOf x=some .free from z]at k1;cases k1
     ·exact⟨a,lookF x a hmem ha,hc.keeps keep⟩
 case cell=>
  intro x a e
  rcases look x a e with⟨m1,_⟩|⟨k1,e1⟩
  ·exact⟨_,(cells x a m1).1⟩
  ·obtain⟨v,q⟩:=I.cell x a e1
   exact⟨v,q.keeps keep⟩
 case freeC=>
  intro x a e
  rcases look x a e with⟨m1,_⟩|⟨k1,e1⟩
  ·exact I.hok.fresh (by have:=(cells x a m1).2;omega)
  ·exact I.freeC x a e1
 case pin=>intro p hp;exact absurd (show p∈([]:List (Addr×Obj))from hp) (by simp)
 case len=>
  show(tau own fr σ).length=N'.length
  rw[c.nm];unfold tau;simp
end
noncomputable abbrev TM:=St->Hp->(St->Hp->Prop)->Prop
noncomputable def PM(X:Cx)(act:Sem Unit)(t:TM):Prop:=
 ∀(pins:List (Addr×Obj))(s:Shared)(σ:St)(H:Hp)(Q:St->Hp->Prop),Inv X pins σ H s->t σ H Q->wpAny (model X.prog X.w) X.A act (λ_ s'=>∃σ' H',Inv X pins σ' H' s'/\Q σ' H') X.xe s
noncomputable def PF(X:Cx)(ifs:List Expr)(t:TT):Prop:=
 ∀(pins:List (Addr×Obj))(s:Shared)(σ:St)(H:Hp)(Q:Bool->Hp->Prop),Inv X pins σ H s->t σ H Q->
  wpAny (model X.prog X.w) X.A (forIn ifs true λc r=>if r=true then do let ok <- isTrue c X.env (eval c X.env);pure (ForInStep.yield ok)else pure (ForInStep.yield r)) (TP X pins σ Q) X.xe s
noncomputable def tAll:TT:=λ_ H Q=>Q true H
section
variable{X:Cx}
theorem zaia:PF X [] tAll:=λ_ s σ H Q I h=>wpAny_tests_nil ⟨H,I,h⟩
noncomputable def zwy(p:Addr)(te:TE):TM:=λσ H Q=>te σ H λv H1=>∃ys,H1 p=some (.lst ys)/\ys.length<qc/\Q σ (upd H1 p (.lst (ys++[v])))
theorem zuf{elt:Expr}{te:TE}{p:Addr}(h:PE X elt te):PM X (do let _ <- call (.builtin "list.append") [.ref p,<- eval elt X.env]) (zwy p te):=by
 intro pins s σ H Q I q
 refine qo (thn (h pins s σ H _ I q) λu s1 ⟨v,H1,I1,r,ys,hp,hz,q1⟩=>?_)
 refine qo (thn (zbz pins s1 σ H1 (.ref p) [v] (.ref p) [u] (λ_ H2=>Q σ H2) I1 rfl (.cons r .nil) ⟨p,ys,v,rfl,rfl,hp,hz,q1⟩) λ_ s2 ⟨_,H2,I2,_,q2⟩=>?_)
 exact qAG ⟨σ,H2,I2,q2⟩
noncomputable def zabk(J:It)(g:TG)(tt:TT)(tm:TM):TM:=λσ H Q=>∃W:Nat->Nat->St->Hp->Prop,(∃m,W 0 m σ H)/\∀i m σ H,W i m σ H->
 (J.stop i H/\Q σ H)\/(J.go i H/\∃N:St->Hp->Prop,(∀σ' H',N σ' H'->∃m',m'<m/\W (i+1) m' σ' H')/\∀x H',J.yld i H x H'->g x σ H' λσ2 H2=>tt σ2 H2 λb H3=>if b=true then tm σ2 H3 N else N σ2 H3)
theorem zms{elt0:Expr}{gens:List Comprehension}{scope:Scope}{cpos:Pos}{depth:Nat}{target:Expr}{ifs:List Expr}{emit:Sem Unit}{acc:Value}{ip:Pos}{it:Addr}{fp:List Addr}{tn:Nat->Heap->Prop}{J:It}{g:TG}{tt:TT}{tm:TM}{pins:List (Addr×Obj)}{σ:St}{H:Hp}{s:Shared}{Q:St->Hp->Prop}
  (hx:X.xe=λ_ _=>False)(hc:X.calm=true)
  (eq:compTurn (.ListComp elt0 gens scope cpos) depth (.ref it) acc X.env=(do
   standAt ip
   match <- pyNext (.ref it)with
   | none=>pure (.done .next)
   | some v=>
    letOwnedTupleGo target (.ref it) v
    assign target X.env v
    let mut ok:=true
    for c in ifs do
     if ok then ok <- isTrue c X.env (eval c X.env)
    if ok then emit
    again (.compLoop (.ListComp elt0 gens scope cpos) depth (.ref it) acc X.env)))
  (T:Turn X.prog X.w X.K target J fp it tn)(hg:PG X target g)(ht:PF X ifs tt)(hm:PM X emit tm)
  (I:Inv X pins σ H s)(st:tn 0 s.heap)(hf:∀b∈fp,FpOk X pins H b)(h:zabk J g tt tm σ H Q) :
  codeAny (model X.prog X.w) X.A (.compLoop (.ListComp elt0 gens scope cpos) depth (.ref it) acc X.env) (λr s'=>r=.ok .next/\∃σ' H',Inv X pins σ' H' s'/\Q σ' H') s:=by
 obtain⟨W,⟨m0,w0⟩,turn⟩:=h
 have stat:∀{H':Hp},(∀b∈fp,H' b=none)->∀b∈fp,FpOk X pins H' b:=λhn b hb=>⟨hn b hb,(hf b hb).2⟩
 have xe:∀{α:Type}{m:Sem α}{Q':α->Shared->Prop}{E:Value->Shared->Prop}{s:Shared},wpAny (model X.prog X.w) X.A m Q' X.xe s->wpAny (model X.prog X.w) X.A m Q' E s:=λq=>qBf q (λ_ _ z=>z) λ_ _ z=>by rw[hx]at z;exact z.elim
 refine codeAny_loop rfl (λn s'=>∃i σ' H',Inv X pins σ' H' s'/\tn i s'.heap/\(∀b∈fp,H' b=none)/\W i n σ' H') ?_ m0 ⟨0,σ,H,I,st,λb hb=>(hf b hb).1,w0⟩
 rintro n s3 ⟨i,σ3,H3,I3,st3,fr3,w3⟩
 show wpAny _ X.A ((compTurn (.ListComp elt0 gens scope cpos) depth (.ref it) acc X.env).onRaise (λx=>do noteFrame x X.env;theTreesLotGoes x)) _ _ s3
 refine wpAny_noted ?_
 rw[eq]
 refine qo (qAd (qo ?_))
 rcases turn i n σ3 H3 w3 with⟨stop,qn⟩|⟨go,N,hN,step⟩
 ·refine thn (T.done X rfl rfl rfl hc i pins s3 σ3 H3 _ I3 (stat fr3) st3 stop) λr s4 ⟨hr,I4⟩=>?_
  subst hr
  exact qAG ⟨rfl,σ3,H3,I4,qn⟩
 ·refine thn (T.item X rfl rfl rfl hc i pins s3 σ3 H3 _ I3 (stat fr3) st3 go) λr s4 ⟨u,hr,h4⟩=>?_
  subst hr
  refine qo (thn h4 λ_ s5 ⟨x,H5,I5,r5,y5,st5,fr5⟩=>?_)
  have I5':=I5.pinned (stat fr5) (T.obj _ _ st5)
  refine qo (xe (thn (hg _ s5 σ3 H5 x u _ I5' r5 (step x H5 y5)) λ_ s6 ⟨σ6,H6,I6,q6⟩=>?_))
  have again:∀{σ7:St}{H7:Hp}{s7:Shared},Inv X (pins++zrx fp s5.heap) σ7 H7 s7->N σ7 H7->∃m,m<n/\∃i σ' H',Inv X pins σ' H' s7/\tn i s7.heap/\(∀b∈fp,H' b=none)/\W i m σ' H':=λ{σ7 H7 s7} I7 n7=>by
   obtain⟨m',hm,w7⟩:=hN σ7 H7 n7
   refine⟨m',hm,i+1,σ7,H7,I7.unpinned,T.keep _ _ _ st5 λb hb o e=>(I7.pin (b,o) (qq _ (qq _ (zjo hb e)))).1,λb hb=>?_,w7⟩
   obtain⟨o,e,d⟩:=T.obj _ _ st5 b hb
   exact(I7.pin (b,o) (qq _ (qq _ (zjo hb e)))).2.1
  refine qo (xe (thn (ht _ s6 σ6 H6 _ I6 q6) λok s7 ⟨H7,I7,q7⟩=>?_))
  cases ok with
  | false=>
   rw[if_neg (by decide)]at q7
   exact qAG ⟨rfl,again I7 q7⟩
  | true=>
   rw[if_pos rfl]at q7
   refine qo (xe (thn (hm _ s7 σ6 H7 _ I7 q7) λ_ s8 ⟨σ8,H8,I8,q8⟩=>?_))
   exact qAG ⟨rfl,again I8 q8⟩
end
section
variable{X:Cx}{pins:List (Addr×Obj)}{σ:St}{H:Hp}{s:Shared}{scope:Scope}{N' own:List Str}{fr:List Nat}
theorem zpu{elt0 target iter:Expr}{ifs:List Expr}{rest:List Comprehension}{cpos:Pos}{g:TG}{tt:TT}{tm:Addr->TM}{emit:Value->Env->Sem Unit}{it:Addr}{fp:List Addr}{tn:Nat->Heap->Prop}{J:It}{Q:VK}{E:Value->Shared->Prop}{RR:Value->Addr->Result->Shared->Prop}
  (c:CompOk X scope N' own fr)(hc:X.calm=true)
  (eq:∀it acc env,compTurn (.ListComp elt0 (⟨target,iter,ifs,0⟩::rest) scope cpos) 0 it acc env=(do
   standAt iter.pos
   match <- pyNext it with
   | none=>pure (.done .next)
   | some v=>
    letOwnedTupleGo target it v
    assign target env v
    let mut ok:=true
    for c in ifs do
     if ok then ok <- isTrue c env (eval c env)
    if ok then emit acc env
    again (.compLoop (.ListComp elt0 (⟨target,iter,ifs,0⟩::rest) scope cpos) 0 it acc env)))
  (T:Turn X.prog X.w X.K target J fp it tn)
  (hb:∀(cl:List (Str×Addr)) (C:Addr) (s:Shared) (H:Hp) (fp:List Addr) (p:Addr),PG (cxComp X scope N' own cl C s H fp) target g/\PF (cxComp X scope N' own cl C s H fp) ifs tt/\PM (cxComp X scope N' own cl C s H fp) (emit (.ref p) (compEnvC scope cl C X.env)) (tm p))
  (I:Inv X pins σ H s)(st:tn 0 s.heap)(hf:∀b∈fp,FpOk X pins H b)
  (h:∀p,H p=none->zabk J g tt (tm p) (tau own fr σ) (upd H p (.lst [])) (λ_ H'=>Q (.ref p) H'))
  (hRR:∀(p C:Addr) (m:Str->Option Value) (H':Hp) (s':Shared),Inv X pins σ H' s'->s'.heap.Ns C m->FpOk X pins H' C->Q (.ref p) H'->RR (.ref p) C (.ok .next) s') :
  wpAny (model X.prog X.w) X.A (newList []) (λacc s₃=>wpAny (model X.prog X.w) X.A (newFunctionEnv scope X.env.globals (clos X.env.cells scope.names []) [] X.env.qual none .none (some X.env)) (λcenv s₄=>
   codeAny (model X.prog X.w) X.A (.compStart (.ListComp elt0 (⟨target,iter,ifs,0⟩::rest) scope cpos) 0 (.ref it) acc {cenv with scope:=relabel scope X.env}) (RR acc cenv.locals) s₄) E s₃) E s:=by
 refine wpAny_newObj_type ?_
 have I3:Inv X pins σ (upd H s.heap.objs.size (.lst [])) {s with heap:=s.heap.push {cls:=.type "list",dict:=none,data:=.seq ([]:List Value).toArray}}:=I.lnew (t':=s.toks) .nil (qAR _)
 have hn0:H s.heap.objs.size=none:=I.hok.fresh (qI _)
 generalize e3:({s with heap:=s.heap.push {cls:=.type "list",dict:=none,data:=.seq ([]:List Value).toArray}}:Shared)=s3 at I3 ⊢
 have k3:∀b o,s.heap.get? b=some o->s3.heap.get? b=some o:=λb o e=>by rw[<- e3];exact qg _ e
 have hne:∀b∈fp,b≠s.heap.objs.size:=λb hb=>by
  obtain⟨o,e,_⟩:=T.obj _ _ st b hb
  exact qAT (qh e)
 have hf3:∀b∈fp,FpOk X pins (upd H s.heap.objs.size (.lst [])) b:=λb hb=>⟨by rw[zbs (hne b hb)];exact(hf b hb).1,(hf b hb).2⟩
 have st3:tn 0 s3.heap:=T.keep _ _ _ st λb _ o e=>k3 b o e
 refine zwx λh' keep ns cells apart=>?_
 have I4:=zabj c I3 hf3 (T.obj _ _ st3) keep ns cells apart
 have st4:tn 0 h':=T.keep _ _ _ st3 λb _ o e=>keep b o e
 obtain⟨hg,ht,hm⟩:=hb (cellsFrom (s3.heap.objs.size+1) scope.names []++clos X.env.cells scope.names []) s3.heap.objs.size s3 (upd H s.heap.objs.size (.lst [])) fp s.heap.objs.size
 have hf4:∀b∈fp,FpOk (cxComp X scope N' own (cellsFrom (s3.heap.objs.size+1) scope.names []++clos X.env.cells scope.names []) s3.heap.objs.size s3 (upd H s.heap.objs.size (.lst [])) fp) [] (upd H s.heap.objs.size (.lst [])) b:=λb hb=>
  ⟨(hf3 b hb).1,(I4.ok.exf b hb).1,I4.ok.exfs b hb,.inl hb,(I4.ok.exf b hb).2,λp hp=>absurd (show p∈([]:List (Addr×Obj))from hp) (by simp)⟩
 have loop:codeAny (model X.prog X.w) X.A (.compLoop (.ListComp elt0 (⟨target,iter,ifs,0⟩::rest) scope cpos) 0 (.ref it) (.ref s.heap.objs.size) (compEnvC scope (cellsFrom (s3.heap.objs.size+1) scope.names []++clos X.env.cells scope.names []) s3.heap.objs.size X.env)) (RR (.ref s.heap.objs.size) s3.heap.objs.size) {s3 with heap:=h'}:=by
  refine qAn (zms (X:=cxComp X scope N' own (cellsFrom (s3.heap.objs.size+1) scope.names []++clos X.env.cells scope.names []) s3.heap.objs.size s3 (upd H s.heap.objs.size (.lst [])) fp) (pins:=[]) rfl hc (eq _ _ _) T hg ht hm I4 st4 hf4 (h _ hn0)) λr s5 hr=>?_
  obtain⟨rfl,σ5,H5,I5,q5⟩:=hr
  obtain⟨m,hn,_⟩:=id I5.loc
  have u5:Un (frs X.stack) fp (upd H s.heap.objs.size (.lst [])) H5 s3.heap s5.heap:=I5.base
  have hok5:HOk X.prog X.w H5 s5.heap:=I5.hok
  have os5:s5.os=s3.os:=I5.os
  have bare5:=I5.bare
  have free5:H5 s3.heap.objs.size=none:=I5.free
  have hn:s5.heap.Ns s3.heap.objs.size m:=hn
  clear I5
  obtain⟨hh,gg,dd,tk,os'⟩:=s5
  obtain rfl:os'=s3.os:=os5
  have I6:Inv X pins σ H5 {s3 with heap:=hh,gens:=gg,drawn:=dd,toks:=tk}:=I3.call (ch:=fp) u5 hok5 bare5 λb hb=>⟨(hf3 b hb).2.2.2.1,(hf3 b hb).2.1,(hf3 b hb).2.2.2.2.1,(hf3 b hb).2.2.2.2.2⟩
  exact hRR _ _ m H5 _ I6 hn (I3.fpOk (qI _) free5) q5
 exact codeAny_compStart_list loop (T.self _ 0 _ _ _ st4 loop)
noncomputable def zabl(wi:TI)(g:TG)(tt:TT)(tm:Addr->TM)(own:List Str)(fr:List Nat):TE:=λσ H Q=>wi σ H λJ H1=>∀p,H1 p=none->zabk J g tt (tm p) (tau own fr σ) (upd H1 p (.lst [])) (λ_ H'=>Q (.ref p) H')
theorem zvu{elt0 target iter:Expr}{ifs:List Expr}{rest:List Comprehension}{cpos:Pos}{wi:TI}{g:TG}{tt:TT}{tm:Addr->TM}{emit:Value->Env->Sem Unit}(c:CompOk X scope N' own fr)(hc:X.calm=true)
  (eq:∀it acc env,compTurn (.ListComp elt0 (⟨target,iter,ifs,0⟩::rest) scope cpos) 0 it acc env=(do
   standAt iter.pos
   match <- pyNext it with
   | none=>pure (.done .next)
   | some v=>
    letOwnedTupleGo target it v
    assign target env v
    let mut ok:=true
    for c in ifs do
     if ok then ok <- isTrue c env (eval c env)
    if ok then emit acc env
    again (.compLoop (.ListComp elt0 (⟨target,iter,ifs,0⟩::rest) scope cpos) 0 it acc env)))
  (hi:PI X target iter wi)
  (hb:∀(cl:List (Str×Addr)) (C:Addr) (s:Shared) (H:Hp) (fp:List Addr) (p:Addr),PG (cxComp X scope N' own cl C s H fp) target g/\PF (cxComp X scope N' own cl C s H fp) ifs tt/\PM (cxComp X scope N' own cl C s H fp) (emit (.ref p) (compEnvC scope cl C X.env)) (tm p))
  (hs:∀x,foldedSetIterable iter X.env x=pure x:=by intro _;rfl) :
  PE X (.ListComp elt0 (⟨target,iter,ifs,0⟩::rest) scope cpos) (zabl wi g tt tm own fr):=by
 intro pins s σ H Q I h
 rw[eval_ListComp]
 refine qBg (use:=none) rfl hs (zkk (zle c I.ok)) c.kind (λy hy e=>(c.names y hy).trans (by rw[e])) ?_
 refine thn (hi pins s σ H _ I h) λv s1 h1=>thn h1 λitv s2 h2=>?_
 obtain⟨it,fp,tn,J,H2,e,I2,T,st2,f2,q⟩:=h2
 subst e
 refine zpu (Q:=Q) c hc eq T hb I2 st2 f2 q λp C m H' s' I' hn hC q'=>?_
 exact⟨m,hn,λh' sb=>⟨.ref p,H',I'.turned (t':=s'.toks) (λb o hb e=>(sb.2 b hb).trans e) hC.1 hC.2.1 hC.2.2.2.1 hC.2.2.2.2.1 hC.2.2.2.2.2,rfl,q'⟩⟩
noncomputable def zaib(wi:TI)(g:TG)(tt:TT)(tm:Addr->TM)(own:List Str)(fr:List Nat)(i:Nat):TS:=λD σ H=>zabl wi g tt tm own fr σ H λv H'=>D.nx (σ.set i (some v)) H'
theorem zabm{elt0 target iter:Expr}{ifs:List Expr}{rest:List Comprehension}{cpos spos py:Pos}{wi:TI}{g:TG}{tt:TT}{tm:Addr->TM}{emit:Value->Env->Sem Unit}{i:Nat}{y:Str}(c:CompOk X scope N' own fr)(hc:X.calm=true)
  (eq:∀it acc env,compTurn (.ListComp elt0 (⟨target,iter,ifs,0⟩::rest) scope cpos) 0 it acc env=(do
   standAt iter.pos
   match <- pyNext it with
   | none=>pure (.done .next)
   | some v=>
    letOwnedTupleGo target it v
    assign target env v
    let mut ok:=true
    for c in ifs do
     if ok then ok <- isTrue c env (eval c env)
    if ok then emit acc env
    again (.compLoop (.ListComp elt0 (⟨target,iter,ifs,0⟩::rest) scope cpos) 0 it acc env)))
  (hi:PI X target iter wi)
  (hb:∀(cl:List (Str×Addr)) (C:Addr) (s:Shared) (H:Hp) (fp:List Addr) (p:Addr),PG (cxComp X scope N' own cl C s H fp) target g/\PF (cxComp X scope N' own cl C s H fp) ifs tt/\PM (cxComp X scope N' own cl C s H fp) (emit (.ref p) (compEnvC scope cl C X.env)) (tm p))
  (hsw:swapsWith (.ListComp elt0 (⟨target,iter,ifs,0⟩::rest) scope cpos) (some (.Name y py)) spos.line X.env=pure true)
  (hN:X.N.Nodup)(hy:X.N[i]?=some y)(hl:X.env.scope.names.lookup y=some .local)
  (hs:∀x,foldedSetIterable iter X.env x=pure x:=by intro _;rfl) :
  PS X (.Assign [.Name y py] (.ListComp elt0 (⟨target,iter,ifs,0⟩::rest) scope cpos) spos) (zaib wi g tt tm own fr i):=by
 intro pins s σ H D I h
 rw[exec_Assign_Name_used _ _ _ _ hsw]
 refine qo (qAd (qo ?_))
 show wpAny _ X.A (do let _ <- comprehension (.ListComp elt0 (⟨target,iter,ifs,0⟩::rest) scope cpos) scope X.env _ (newList []) false (eval iter X.env) (some (assign (.Name y py) X.env))) _ _ s
 refine qo (thn (qBg (use:=some (assign (.Name y py) X.env)) (Q:=λ_ s'=>SP X pins D .next s') rfl hs (zkk (zle c I.ok)) c.kind (λy hy e=>(c.names y hy).trans (by rw[e])) ?_) λ_ s' q=>qAG (qAG q))
 refine thn (hi pins s σ H _ I h) λv s1 h1=>thn h1 λitv s2 h2=>?_
 obtain⟨it,fp,tn,J,H2,e,I2,T,st2,f2,q⟩:=h2
 subst e
 refine zpu (Q:=λv H'=>D.nx (σ.set i (some v)) H') c hc eq T hb I2 st2 f2 q λp C m H' s' I' hn hC q'=>?_
 show wpAny _ X.A (assign (.Name y py) X.env (.ref p)) _ _ _
 refine wpAny_assign_Name (zrw I' hN hy (.inl hl) (v:=.ref p) rfl (λs'' I'' ⟨a,sb,ha⟩=>?_) (.inr hl))
 have hCa:C≠a:=by
  rcases ha with rfl|ha
  ·exact hC.2.1
  ·exact qA2 (hC.2.2.2.2.1 y a ha)
 refine⟨m,hn.sameBut sb hCa,λh' sb'=>⟨σ.set i (some (.ref p)),H',I''.turned (t':=s''.toks) (λb o hb e=>(sb'.2 b hb).trans e) hC.1 hC.2.1 hC.2.2.2.1 hC.2.2.2.2.1 hC.2.2.2.2.2,q'⟩⟩
end
section
variable{X:Cx}
section
variable{scope:Scope}{N' own:List Str}{fr:List Nat}{elt target iter:Expr}{ifs:List Expr}{cpos:Pos}{wi:TI}{g:TG}{tt:TT}{te:TE}
noncomputable def tComp1(wi:TI)(g:TG)(tt:TT)(te:TE)(own:List Str)(fr:List Nat):TE:=zabl wi g tt (λp=>zwy p te) own fr
theorem zabn(c:CompOk X scope N' own fr)(hc:X.calm=true)(hi:PI X target iter wi)
  (hb:∀(cl:List (Str×Addr)) (C:Addr) (s:Shared) (H:Hp) (fp:List Addr),PG (cxComp X scope N' own cl C s H fp) target g/\PF (cxComp X scope N' own cl C s H fp) ifs tt/\PE (cxComp X scope N' own cl C s H fp) elt te)
  (hs:∀x,foldedSetIterable iter X.env x=pure x:=by intro _;rfl):PE X (.ListComp elt [⟨target,iter,ifs,0⟩] scope cpos) (tComp1 wi g tt te own fr):=
 zvu (emit:=λacc env=>do let _ <- call (.builtin "list.append") [acc,<- eval elt env]) c hc (λ_ _ _=>rfl) hi
  (λcl C s H fp p=>⟨(hb cl C s H fp).1,(hb cl C s H fp).2.1,zuf (hb cl C s H fp).2.2⟩) hs
noncomputable def tAsgC1(wi:TI)(g:TG)(tt:TT)(te:TE)(own:List Str)(fr:List Nat)(i:Nat):TS:=zaib wi g tt (λp=>zwy p te) own fr i
theorem zabo{spos py:Pos}{i:Nat}{y:Str}(c:CompOk X scope N' own fr)(hc:X.calm=true)(hi:PI X target iter wi)
  (hb:∀(cl:List (Str×Addr)) (C:Addr) (s:Shared) (H:Hp) (fp:List Addr),PG (cxComp X scope N' own cl C s H fp) target g/\PF (cxComp X scope N' own cl C s H fp) ifs tt/\PE (cxComp X scope N' own cl C s H fp) elt te)
  (hsw:swapsWith (.ListComp elt [⟨target,iter,ifs,0⟩] scope cpos) (some (.Name y py)) spos.line X.env=pure true)
  (hN:X.N.Nodup)(hy:X.N[i]?=some y)(hl:X.env.scope.names.lookup y=some .local)
  (hs:∀x,foldedSetIterable iter X.env x=pure x:=by intro _;rfl):PS X (.Assign [.Name y py] (.ListComp elt [⟨target,iter,ifs,0⟩] scope cpos) spos) (tAsgC1 wi g tt te own fr i):=
 zabm (emit:=λacc env=>do let _ <- call (.builtin "list.append") [acc,<- eval elt env]) c hc (λ_ _ _=>rfl) hi
  (λcl C s H fp p=>⟨(hb cl C s H fp).1,(hb cl C s H fp).2.1,zuf (hb cl C s H fp).2.2⟩) hsw hN hy hl hs
end
noncomputable def zakr:R2:=λx y H Q=>∃z n,x=.str z/\y=.int n/\z.length<=1000/\-1000<=n/\n<=1000/\Q (.str (Txt.mul z n)) H
theorem zaep:OpR X (binaryOp .Mult) zakr:=by
 intro pins s σ H x y v u Q I rx ry h
 obtain⟨z,n,rfl,rfl,h1,h2,h3,q⟩:=h
 obtain⟨t,rfl⟩:=rx
 obtain⟨t',rfl⟩:=ry
 exact SB.mul (mulOk_of 1000 1000 h1 (by omega) (by omega) (by decide) (by decide)) λt' k=>⟨.str (Txt.mul z n),H,I.tok _,⟨_,rfl⟩,q⟩
noncomputable def rSlS:V->Option Int->Option Int->Hp->VK->Prop:=λx lo hi H Q=>∃z,x=.str z/\z.length<=qc/\Q (.str (Txt.slice z lo hi)) H
theorem zaic:SlR X rSlS:=by
 intro pins s σ H x v vl vu lo hi sl Q I rx hs pl pu h
 obtain⟨z,rfl,hz,q⟩:=h
 obtain⟨t,rfl⟩:=rx
 refine⟨"str",_,F.slot_str_getitem.lookup,qBM _ _ _,?_⟩
 have fin:∀t' k,EP X pins σ Q (.str (Txt.slice z lo hi) t') {s with toks:=k}:=λt' k=>⟨.str (Txt.slice z lo hi),H,I.tok _,⟨_,rfl⟩,q⟩
 have fz:(Txt.slice z lo hi).length<=qc:=qf (Txt.slice_le z _ _) hz
 cases pl with
 | none=>cases pu with
  | none=>exact qAe (l:=none) (u:=none) (st:=none) hs rfl (qA0 ⟨fz,fin⟩)
  | int j tj=>exact qAe (l:=none) (u:=some (j,tj)) (st:=none) hs rfl (qA0 ⟨fz,fin⟩)
 | int i ti=>cases pu with
  | none=>exact qAe (l:=some (i,ti)) (u:=none) (st:=none) hs rfl (qA0 ⟨fz,fin⟩)
  | int j tj=>exact qAe (l:=some (i,ti)) (u:=some (j,tj)) (st:=none) hs rfl (qA0 ⟨fz,fin⟩)
theorem zabp{id:String}(hid:id="isinstance"):CallR X (.builtin id) (λxs H Q=>∃x n t b,xs=[x,.ty n]/\TyOf X.K H x t/\PySem.W.kitOne X.K t (.type n)=some b/\Q (.bl b) H):=by
 subst hid
 intro pins s σ H xs us Q I r h
 obtain⟨x,n,t,b,rfl,ty,e,q⟩:=h
 obtain⟨u,w',rfl,rx,ry⟩:=zahn r
 cases ry
 exact zye I rx ty e λtk=>⟨.bl b,H,I.tok _,rfl,q⟩
end
mutual
def Rep(K:qD)(H:Hp):PyData->V->Prop
 | .none,v=>v=.non
 | .bool b,v=>v=.bl b
 | .int i,v=>v=.int i
 | .str x,v=>v=.str x
 | .list ds,v=>∃a xs,v=.ref a/\SqL K H a xs/\Reps K H ds xs
 | .tuple ds,v=>∃a xs,v=.ref a/\SqT K H a xs/\Reps K H ds xs
 | .dict _,_=>False
def Reps(K:qD)(H:Hp):List PyData->List V->Prop
 | [],xs=>xs=[]
 | d::ds,xs=>∃v vs,xs=v::vs/\Rep K H d v/\Reps K H ds vs
end
mutual
theorem zhx{X:Cx}{pins:List (Addr×Obj)}{σ:St}{H:Hp}{s:Shared}(I:Inv X pins σ H s):∀(d:PyData){v:V}{u:Value},Rep X.K H d v->RelV v u->∃as,Reads s.heap u d as
 | .none,v,u,h,r=>by unfold Rep at h;subst h;cases r;exact⟨_,.none⟩
 | .bool b,v,u,h,r=>by unfold Rep at h;subst h;cases r;exact⟨_,.bool b⟩
 | .int i,v,u,h,r=>by unfold Rep at h;subst h;obtain⟨t,rfl⟩:=r;exact⟨_,.int i t⟩
 | .str x,v,u,h,r=>by unfold Rep at h;subst h;obtain⟨t,rfl⟩:=r;exact⟨_,.str x t⟩
 | .list ds,v,u,h,r=>by
  unfold Rep at h
  obtain⟨a,xs,rfl,hq,hr⟩:=h
  cases r
  obtain⟨its,rv,p,hz⟩:=I.list hq
  obtain⟨as,q⟩:=reps_reads I ds hr rv
  obtain⟨o,h1,h2,n,h3⟩:=p.isList
  exact⟨_,reads_list_at h1 h2 h3 (by simpa using q)⟩
 | .tuple ds,v,u,h,r=>by
  unfold Rep at h
  obtain⟨a,xs,rfl,hq,hr⟩:=h
  cases r
  obtain⟨its,rv,p,hz⟩:=I.tuple hq
  obtain⟨as,q⟩:=reps_reads I ds hr rv
  obtain⟨o,h1,h2,n,h3⟩:=p
  exact⟨_,reads_tuple_at h1 h2 h3 (by simpa using q)⟩
 | .dict _,_,_,h,_=>by unfold Rep at h;exact h.elim
theorem reps_reads{X:Cx}{pins:List (Addr×Obj)}{σ:St}{H:Hp}{s:Shared}(I:Inv X pins σ H s):∀(ds:List PyData){vs:List V}{us:List Value},Reps X.K H ds vs->Vals vs us->∃as,ReadsAll s.heap us ds as
 | [],vs,us,h,r=>by unfold Reps at h;subst h;cases r;exact⟨_,.nil⟩
 | d::ds,vs,us,h,r=>by
  unfold Reps at h
  obtain⟨v,vs',rfl,h1,h2⟩:=h
  cases r with
  | cons r rr=>
   obtain⟨as,q1⟩:=zhx I d h1 r
   obtain⟨bs,q2⟩:=reps_reads I ds h2 rr
   exact⟨_,.cons q1 q2⟩
end
theorem SqT.same{K:qD}{H H':Hp}{a:Addr}{xs:List V}(h:Same H H')(q:SqT K H a xs):SqT K H' a xs:=by
 rcases q with(q|⟨o,q⟩)|q
 ·exact .inl (.inl (h _ _ q))
 ·exact .inl (.inr ⟨o,h _ _ q⟩)
 ·exact .inr q
section
variable{X:Cx}
noncomputable def rEqD(K:qD)(neg:Bool):R2:=λx y H Q=>∃d e,Rep K H d x/\Rep K H e y/\qAg d=true/\qAg e=true/\Q (.bl (if neg then !PyData.eqv d e else qAP d e)) H
theorem zaid(hu:X.A.units+64<cLine):OpR X (compareOp .Eq) (rEqD X.K false):=by
 intro pins s σ H x y v u Q I rx ry h
 obtain⟨d,e,hd,he,sd,se,q⟩:=h
 obtain⟨as,r1⟩:=zhx I d hd rx
 obtain⟨bs,r2⟩:=zhx I e he ry
 exact eq_dataH r1 r2 sd se hu ⟨.bl (qAP d e),H,I,rfl,q⟩
theorem zaie(hu:X.A.units+64<cLine):OpR X (compareOp .NotEq) (rEqD X.K true):=by
 intro pins s σ H x y v u Q I rx ry h
 obtain⟨d,e,hd,he,sd,se,q⟩:=h
 obtain⟨as,r1⟩:=zhx I d hd rx
 obtain⟨bs,r2⟩:=zhx I e he ry
 exact ne_dataH r1 r2 sd se hu ⟨.bl (!PyData.eqv d e),H,I,rfl,q⟩
end
noncomputable def zyl(o:Option NameKind):Bool:=o==some .cell||o==some .free
noncomputable def zym(sc:Scope)(N:List Str)(scope:Scope)(N' own:List Str)(fr:List Nat):Bool:=
 (scope.kind==.function)&&(scope.names.all λy=>scope.names.lookup y.1==some y.2)&&(scope.names.all λy=>!(y.2==.free)||zyl (sc.names.lookup y.1))&&
 (N'==own++fr.map λj=>N.getD j Str.empty)&&(fr.all λj=>decide (j<N.length)&&(scope.names.lookup (N.getD j Str.empty)==some .free))&&
 (own.all λx=>scope.names.lookup x==some .local||scope.names.lookup x==some .cell)
section
variable{X:Cx}
theorem zbw{scope:Scope}{N' own:List Str}{fr:List Nat}(h:zym X.env.scope X.N scope N' own fr=true):CompOk X scope N' own fr:=by
 unfold zym at h
 simp only[qy]at h
 obtain⟨⟨⟨⟨⟨h1,h2⟩,h3⟩,h4⟩,h5⟩,h6⟩:=h
 refine⟨eq_of_beq h1,λy hy=>eq_of_beq (qAO.mp h2 y hy),λy hy e=>?_,eq_of_beq h4,λj hj=>?_,λx hx=>?_⟩
 ·have q:=qAO.mp h3 y hy
  rw[e]at q
  have q:zyl (X.env.scope.names.lookup y.1)=true:=by simpa using q
  unfold zyl at q
  rcases qBj.mp q with z|z
  ·exact .inl (eq_of_beq z)
  ·exact .inr (eq_of_beq z)
 ·have q:=qAO.mp h5 j hj
  rw[qy]at q
  exact⟨of_decide_eq_true q.1,eq_of_beq q.2⟩
 ·have q:=qAO.mp h6 x hx
  rcases qBj.mp q with z|z
  ·exact .inl (eq_of_beq z)
  ·exact .inr (eq_of_beq z)
noncomputable def zaeq(K:qD):R2:=λx y H Q=>match x,y with
 | .int i,.int j=>Q (.int (i+j)) H
 | .str a,.str b=>a.length+b.length<=qc/\Q (.str (a++b)) H
 | .ref _,.ref _=>rCat x y H Q\/zaht K x y H Q
 | _,_=>False
theorem zaer:OpR X (binaryOp .Add) (zaeq X.K):=by
 intro pins s σ H x y v u Q I rx ry h
 cases x<;>cases y<;>first
  | exact h.elim
  | exact zahk pins s σ H _ _ v u Q I rx ry ⟨_,_,rfl,rfl,h⟩
  | exact zwu pins s σ H _ _ v u Q I rx ry ⟨_,_,rfl,rfl,h.1,h.2⟩
  | exact(zahy.or zaem) pins s σ H _ _ v u Q I rx ry h
noncomputable def zaif:R2:=λx y H Q=>match x,y with
 | .int i,.int j=>CMul i j/\Q (.int (i * j)) H
 | .str z,.int n=>z.length<=1000/\-1000<=n/\n<=1000/\Q (.str (Txt.mul z n)) H
 | _,_=>False
theorem zgi:OpR X (binaryOp .Mult) zaif:=by
 intro pins s σ H x y v u Q I rx ry h
 cases x<;>cases y<;>first
  | exact h.elim
  | exact zahl pins s σ H _ _ v u Q I rx ry ⟨_,_,rfl,rfl,h.1,h.2⟩
  | exact zaep pins s σ H _ _ v u Q I rx ry ⟨_,_,rfl,rfl,h.1,h.2.1,h.2.2.1,h.2.2.2⟩
noncomputable def rIxU(K:qD):R2:=λx y H Q=>match x,y with
 | .str z,.int i=>z.length<=qc/\∃c,atI z.cps.toList i=some c/\Q (.str ⟨#[c]⟩) H
 | .ref p,.int i=>∃xs v,(SqL K H p xs\/SqT K H p xs)/\atI xs i=some v/\Q v H
 | _,_=>False
theorem ix_U:IxR X (rIxU X.K):=by
 intro value slice pins s σ H x y v u Q I rx ry h hs
 cases x<;>cases y<;>first
  | exact h.elim
  | (obtain⟨h1,c,h2,h3⟩:=h;exact zahv value slice pins s σ H _ _ v u Q I rx ry ⟨_,_,c,rfl,rfl,h1,h2,h3⟩ hs)
  | (obtain⟨xs,w,h1,h2,h3⟩:=h
     rcases h1 with h1|h1
     ·exact zaen value slice pins s σ H _ _ v u Q I rx ry ⟨_,xs,_,w,rfl,rfl,h1,h2,h3⟩ hs
     ·exact zahu value slice pins s σ H _ _ v u Q I rx ry ⟨_,xs,_,w,rfl,rfl,h1,h2,h3⟩ hs)
noncomputable def rSlU(K:qD):V->Option Int->Option Int->Hp->VK->Prop:=λx lo hi H Q=>match x with
 | .str z=>z.length<=qc/\Q (.str (Txt.slice z lo hi)) H
 | .ref _=>rSlL K x lo hi H Q
 | _=>False
theorem sl_U:SlR X (rSlU X.K):=by
 intro pins s σ H x v vl vu lo hi sl Q I rx hs pl pu h
 cases x<;>first
  | exact h.elim
  | exact zaic pins s σ H _ v vl vu lo hi sl Q I rx hs pl pu ⟨_,rfl,h.1,h.2⟩
  | exact zaeo pins s σ H _ v vl vu lo hi sl Q I rx hs pl pu h
noncomputable def Dn(P:Program)(w:World)(K:qD)(mg:Str->Option Value)(base:Heap)(x:Str)(ps:List Str)(k:Nat)(sp:Sp):Prop:=
 ∃f fd,FnOk P w K mg base CX0 k f fd ps sp/\mg x=some (.ref f)/\qU K (.ref f)=true/\zwv K fd ps []
theorem zaks{x:Str}{p pos:Pos}{e:Expr}{es:List Expr}{t:TA}{ps:List Str}{k:Nat}{sp:Sp}(D:Dn X.prog X.w X.K X.mg X.base x ps k sp)(hr:Room k X.A)(hg:Gl X x)(ha:PA X (e::es) t)
  (hdb:(x==("__debug__":Str))=false:=by decide)(he:starEach (e::es) X.env=(false,eval e X.env)::starEach es X.env:=by rfl)(hpl:(backTo pos (starEach es X.env)).any (·.1)=false:=by rfl) :
  PE X (.Call (.Name x p) (e::es) [] pos) (tCall sp [] E0 t):=by
 obtain⟨f,fd,F,hm,hk,hb⟩:=D
 exact zaeh F hr hg hm hk hb .nil zahz ha hdb he hpl
end
theorem Same.upd{H H':Hp}{p:Addr}{o:HO}(h:Same H H')(hp:H p=none):Same H (upd H' p o):=λb u e=>by rw[zbs (zek e hp)];exact h b u e
theorem Same.new{H:Hp}{p:Addr}{o:HO}(hp:H p=none):Same H (L2.upd H p o):=(Same.refl H).upd hp
end L2
namespace Bc
open PySem L2
end Bc
namespace L2
open PySem PySem.Spec PyProof.Rows
section
variable{X:Cx}{K:qD}(hK:X.K=K)
include hK
theorem zaes{es:List Expr}{k:Nat}{t:TGs}{n:Nat}{pos:Pos}(hc:X.calm=true)(h:PGs X es t)
  (hn:(assignEach es X.env).length=n:=by rfl) (hst:(assignEach es X.env).findIdx? (·.1)=none:=by rfl):PG X (.Tuple es k pos) (gTup K n t):=by subst hK;exact zahg hc h hn hst
theorem zcb:IxR X (rIxU K):=by subst hK;exact ix_U
theorem zaet:SlR X (rSlU K):=by subst hK;exact sl_U
theorem zba:OpR X (binaryOp .Add) (zaeq K):=by subst hK;exact zaer
theorem zsk:OpR X (compareOp .NotIn) (rIn K true):=by subst hK;exact zsf
theorem zcc:CallR X (.builtin "len") (λxs H Q=>∃x n,xs=[x]/\LenV K x H n/\Q (.int n) H):=by subst hK;exact zabb
theorem zyn:CallR X (.builtin "isinstance") (λxs H Q=>∃x n t b,xs=[x,.ty n]/\TyOf K H x t/\PySem.W.kitOne K t (.type n)=some b/\Q (.bl b) H):=by subst hK;exact zabp rfl
theorem zaig{T:String}{name:Str}{id:String}{r:V->List V->Hp->VK->Prop}{o e:Expr}{es:List Expr}{to:TE}{t:TA}{apos cpos:Pos}(pa:PlainAttrs T)(slot:Slot T name id)(hty:typeOf (.builtin id)=pure (.type "method_descriptor"))(hm:MtR X id r)(ho:PE X o to)(ha:PA X (e::es) t)
  (hbase:attributeBase o name X.env (eval o X.env)=eval o X.env:=by rfl)
  (hfew:((backTo cpos (starEach (e::es) X.env)).all (λx=>!x.1)&&(backToKw cpos (keywordEach [] X.env)).all (λx=>x.1.isSome)
   && decide ((e::es).length+([]:List Keyword).length+(if([]:List Keyword).isEmpty then 0 else 1)<30))=true:=by rfl)
  (hline:(apos.endLine==cpos.line)=true:=by rfl)(hs:starEach (e::es) X.env=(false,eval e X.env)::starEach es X.env:=by rfl)(hplain:(backTo cpos (starEach es X.env)).any (·.1)=false:=by rfl) :
  PE X (.Call (.Attribute o name apos) (e::es) [] cpos) (tBM K T r to t):=by subst hK;exact zakq pa slot hty hm ho ha hbase hfew hline hs hplain
end
noncomputable def keyD:PyData->Option Key
 | .int i=>some (Sum.inl i)
 | .str s=>some (Sum.inr s)
 | _=>none
mutual
def Rp(H:Hp):PyData->V->Prop
 | .none,v=>v=.non
 | .bool b,v=>v=.bl b
 | .int i,v=>v=.int i
 | .str x,v=>v=.str x
 | .list ds,v=>∃a xs,v=.ref a/\H a=some (.lst xs)/\Rps H ds xs
 | .tuple ds,v=>∃a xs,v=.ref a/\H a=some (.tup xs)/\Rps H ds xs
 | .dict kvs,v=>∃a ps,v=.ref a/\H a=some (.dK ps)/\Rpd H kvs ps
def Rps(H:Hp):List PyData->List V->Prop
 | [],xs=>xs=[]
 | d::ds,xs=>∃v vs,xs=v::vs/\Rp H d v/\Rps H ds vs
def Rpd(H:Hp):List (PyData×PyData)->List (Key×V)->Prop
 | [],ps=>ps=[]
 | (k,d)::r,ps=>∃k' v vs,ps=(k',v)::vs/\keyD k=some k'/\Rp H d v/\Rpd H r vs
end
mutual
theorem Rp.same{H H':Hp}(h:Same H H'):∀(d:PyData){v:V},Rp H d v->Rp H' d v
 | .none,v,q=>by unfold Rp at q ⊢;exact q
 | .bool b,v,q=>by unfold Rp at q ⊢;exact q
 | .int i,v,q=>by unfold Rp at q ⊢;exact q
 | .str x,v,q=>by unfold Rp at q ⊢;exact q
 | .list ds,v,q=>by
  unfold Rp at q ⊢
  obtain⟨a,xs,e,hq,hr⟩:=q
  exact⟨a,xs,e,h _ _ hq,Rps.same h ds hr⟩
 | .tuple ds,v,q=>by
  unfold Rp at q ⊢
  obtain⟨a,xs,e,hq,hr⟩:=q
  exact⟨a,xs,e,h _ _ hq,Rps.same h ds hr⟩
 | .dict kvs,v,q=>by
  unfold Rp at q ⊢
  obtain⟨a,xs,e,hq,hr⟩:=q
  exact⟨a,xs,e,h _ _ hq,Rpd.same h kvs hr⟩
theorem Rps.same{H H':Hp}(h:Same H H'):∀(ds:List PyData){vs:List V},Rps H ds vs->Rps H' ds vs
 | [],vs,q=>by unfold Rps at q ⊢;exact q
 | d::ds,vs,q=>by
  unfold Rps at q ⊢
  obtain⟨v,vs',e,h1,h2⟩:=q
  exact⟨v,vs',e,Rp.same h d h1,Rps.same h ds h2⟩
theorem Rpd.same{H H':Hp}(h:Same H H'):∀(ds:List (PyData×PyData)){vs:List (Key×V)},Rpd H ds vs->Rpd H' ds vs
 | [],vs,q=>by unfold Rpd at q ⊢;exact q
 | (k,d)::ds,vs,q=>by
  unfold Rpd at q ⊢
  obtain⟨k',v,vs',e,h0,h1,h2⟩:=q
  exact⟨k',v,vs',e,h0,Rp.same h d h1,Rpd.same h ds h2⟩
end
theorem zdi{H:Hp}:∀{ds:List PyData}{xs:List V},Rps H ds xs↔Paired (Rp H) ds xs
 | [],xs=>by
  constructor
  ·intro h;unfold Rps at h;subst h;exact .nil
  ·intro h;cases h;unfold Rps;rfl
 | d::ds,xs=>by
  constructor
  ·intro h
   unfold Rps at h
   obtain⟨v,vs,rfl,h1,h2⟩:=h
   exact .cons h1 (zdi.mp h2)
  ·intro h
   cases h with
   | cons h1 h2=>unfold Rps;exact⟨_,_,rfl,h1,zdi.mpr h2⟩
theorem Rps.length{H:Hp}{ds:List PyData}{xs:List V}(h:Rps H ds xs):ds.length=xs.length:=(zdi.mp h).length
theorem zfe{H:Hp}{ds:List PyData}{v:V}(h:Rp H (.list ds) v):∃a xs,v=.ref a/\H a=some (.lst xs)/\Rps H ds xs:=by unfold Rp at h;exact h
theorem zdt{H:Hp}{ds:List PyData}{v:V}(h:Rp H (.tuple ds) v):∃a xs,v=.ref a/\H a=some (.tup xs)/\Rps H ds xs:=by unfold Rp at h;exact h
theorem zug{H:Hp}{ds:List (PyData×PyData)}{v:V}(h:Rp H (.dict ds) v):∃a xs,v=.ref a/\H a=some (.dK xs)/\Rpd H ds xs:=by unfold Rp at h;exact h
theorem zcj{H:Hp}{i:Int}{v:V}(h:Rp H (.int i) v):v=.int i:=by unfold Rp at h;exact h
theorem zhl{H:Hp}{i:Str}{v:V}(h:Rp H (.str i) v):v=.str i:=by unfold Rp at h;exact h
theorem zjx{H:Hp}{i:Bool}{v:V}(h:Rp H (.bool i) v):v=.bl i:=by unfold Rp at h;exact h
theorem zyo{H:Hp}{v:V}(h:Rp H .none v):v=.non:=by unfold Rp at h;exact h
theorem zaa{H:Hp}{i:Int}:Rp H (.int i) (.int i):=by unfold Rp;rfl
theorem zal{H:Hp}{i:Str}:Rp H (.str i) (.str i):=by unfold Rp;rfl
theorem zcg{H:Hp}{i:Bool}:Rp H (.bool i) (.bl i):=by unfold Rp;rfl
theorem zlf{H:Hp}:Rp H .none .non:=by unfold Rp;rfl
theorem zgr{H:Hp}{ds:List PyData}{a:Addr}{xs:List V}(h:H a=some (.lst xs))(r:Rps H ds xs):Rp H (.list ds) (.ref a):=by unfold Rp;exact⟨a,xs,rfl,h,r⟩
theorem zuh{H:Hp}{ds:List PyData}{a:Addr}{xs:List V}(h:H a=some (.tup xs))(r:Rps H ds xs):Rp H (.tuple ds) (.ref a):=by unfold Rp;exact⟨a,xs,rfl,h,r⟩
theorem zwz{H:Hp}{ds:List (PyData×PyData)}{a:Addr}{xs:List (Key×V)}(h:H a=some (.dK xs))(r:Rpd H ds xs):Rp H (.dict ds) (.ref a):=by unfold Rp;exact⟨a,xs,rfl,h,r⟩
theorem zca{H:Hp}:Rps H [] []:=by unfold Rps;rfl
theorem zby{H:Hp}{d:PyData}{ds:List PyData}{v:V}{vs:List V}(h:Rp H d v)(r:Rps H ds vs):Rps H (d::ds) (v::vs):=by
 show Rps H (d::ds) _
 unfold Rps;exact⟨v,vs,rfl,h,r⟩
theorem Rps.append{H:Hp}{ds es:List PyData}{vs ws:List V}(h:Rps H ds vs)(r:Rps H es ws):Rps H (ds++es) (vs++ws):=by
 replace h:=zdi.mp h
 refine zdi.mpr ?_
 induction h with
 | nil=>exact zdi.mp r
 | cons h _ ih=>exact .cons h ih
theorem Rps.get2{H:Hp}{ds:List PyData}{vs:List V}(h:Rps H ds vs){i:Nat}{d:PyData}(e:ds[i]?=some d):∃v,vs[i]?=some v/\Rp H d v:=by
 replace h:=zdi.mp h
 induction h generalizing i with
 | nil=>simp at e
 | cons h _ ih=>
  cases i with
  | zero=>simp at e;subst e;exact⟨_,rfl,h⟩
  | succ i=>simpa using ih (by simpa using e)
open Classical in
noncomputable def Offs(A:Addr->Prop)(H:Hp):Hp:=λb=>if A b then none else H b
theorem Offs.get{A:Addr->Prop}{H:Hp}{b:Addr}(h:¬A b):Offs A H b=H b:=if_neg h
theorem Offs.out{A:Addr->Prop}{H:Hp}{b:Addr}(h:A b):Offs A H b=none:=if_pos h
theorem Offs.of{A:Addr->Prop}{H:Hp}{b:Addr}{o:HO}(h:Offs A H b=some o):¬A b/\H b=some o:=by
 by_cases hb:A b
 ·rw[Offs.out hb]at h;cases h
 ·rw[Offs.get hb]at h;exact⟨hb,h⟩
theorem Offs.mono{A B:Addr->Prop}{H H':Hp}(s:Same H H')(h:∀b o,H b=some o->¬A b->¬B b):Same (Offs A H) (Offs B H'):=λb o e=>by
 obtain⟨h1,h2⟩:=Offs.of e
 rw[Offs.get (h b o h2 h1)]
 exact s b o h2
theorem Offs.same(A:Addr->Prop)(H:Hp):Same (Offs A H) H:=λb o e=>(Offs.of e).2
theorem Offs.sub{A B:Addr->Prop}{H:Hp}(h:∀b,B b->A b):Same (Offs A H) (Offs B H):=Offs.mono (Same.refl _) λb _ _ n z=>n (h b z)
theorem Offs.grow{A:Addr->Prop}{H H':Hp}(s:Same H H'):Same (Offs A H) (Offs A H'):=Offs.mono s λ_ _ _ z=>z
theorem Offs.upd{A:Addr->Prop}{H:Hp}{a:Addr}{o:HO}(h:A a):Offs A (upd H a o)=Offs A H:=by
 funext b
 by_cases hb:A b
 ·rw[Offs.out hb,Offs.out hb]
 ·rw[Offs.get hb,Offs.get hb,zbs (λe=>hb (by rw[e];exact h))]
inductive Sl where
 | no
  | pl (d:PyData)
  | ac (d:PyData)
noncomputable abbrev DEnv:=List Sl
noncomputable def own(env:DEnv)(σ:St)(a:Addr):Prop:=∃(i:Nat)(d:PyData),env[i]?=some (.ac d)/\σ[i]?=some (some (.ref a))
noncomputable def zff(Ho H:Hp)(a:Addr):PyData->Prop
 | .list ds=>∃xs,H a=some (.lst xs)/\Rps Ho ds xs
 | .dict kvs=>∃ps,H a=some (.dK ps)/\Rpd Ho kvs ps
 | _=>False
theorem zff.rp{Ho H H':Hp}{a:Addr}{d:PyData}(h:zff Ho H a d)(s:Same Ho H')(e:∀o,H a=some o->H' a=some o):Rp H' d (.ref a):=by
 cases d with
 | list ds=>
  obtain⟨xs,h1,h2⟩:=h
  exact zgr (e _ h1) (Rps.same s _ h2)
 | dict ds=>
  obtain⟨xs,h1,h2⟩:=h
  exact zwz (e _ h1) (Rpd.same s _ h2)
 | _=>exact h.elim
theorem zff.same{Ho H Ho' H':Hp}{a:Addr}{d:PyData}(h:zff Ho H a d)(s:Same Ho Ho')(e:∀o,H a=some o->H' a=some o):zff Ho' H' a d:=by
 cases d with
 | list ds=>
  obtain⟨xs,h1,h2⟩:=h
  exact⟨xs,e _ h1,Rps.same s _ h2⟩
 | dict ds=>
  obtain⟨xs,h1,h2⟩:=h
  exact⟨xs,e _ h1,Rpd.same s _ h2⟩
 | _=>exact h.elim
theorem zff.ex{Ho H:Hp}{a:Addr}{d:PyData}(h:zff Ho H a d):∃o,H a=some o:=by
 cases d with
 | list ds=>obtain⟨xs,h1,h2⟩:=h;exact⟨_,h1⟩
 | dict ds=>obtain⟨xs,h1,h2⟩:=h;exact⟨_,h1⟩
 | _=>exact h.elim
structure EnvOk(fx:Addr->Prop)(H0:Hp)(env:DEnv)(σ:St)(H:Hp):Prop where
 len:env.length=σ.length
 pl:∀(i:Nat)(d:PyData),env[i]?=some (.pl d)->∃v,σ[i]?=some (some v)/\Rp (Offs (λa=>fx a\/own env σ a) H) d v
 ac:∀(i:Nat)(d:PyData),env[i]?=some (.ac d)->∃a,σ[i]?=some (some (.ref a))/\H0 a=none/\¬fx a/\zff (Offs (λa=>fx a\/own env σ a) H) H a d
 inj:∀(i j:Nat)(d e:PyData)(a:Addr),env[i]?=some (.ac d)->env[j]?=some (.ac e)->σ[i]?=some (some (.ref a))->σ[j]?=some (some (.ref a))->i=j
 base:Same H0 H
 fxs:∀b,fx b->∃o,H b=some o
theorem EnvOk.grow{fx fx':Addr->Prop}{H0:Hp}{env:DEnv}{σ:St}{H H':Hp}(h:EnvOk fx H0 env σ H)(s:Same H H')(f:∀b o,H b=some o->¬fx b->¬fx' b)(g:∀b,fx' b->∃o,H' b=some o):EnvOk fx' H0 env σ H':=by
 have so:Same (Offs (λa=>fx a\/own env σ a) H) (Offs (λa=>fx' a\/own env σ a) H'):=Offs.mono s λb o e n=>λz=>z.elim (f b o e λy=>n (.inl y)) λy=>n (.inr y)
 refine⟨h.len,λi d e=>?_,λi d e=>?_,h.inj,h.base.trans s,g⟩
 ·obtain⟨v,h1,h2⟩:=h.pl i d e
  exact⟨v,h1,Rp.same so d h2⟩
 ·obtain⟨a,h1,h2,h3,h4⟩:=h.ac i d e
  obtain⟨o,ho⟩:=h4.ex
  exact⟨a,h1,h2,f a o ho h3,h4.same so λo=>s a o⟩
theorem EnvOk.up{fx:Addr->Prop}{H0:Hp}{env:DEnv}{σ:St}{H H':Hp}(h:EnvOk fx H0 env σ H)(s:Same H H'):EnvOk fx H0 env σ H':=
 h.grow s (λ_ _ _ z=>z) λb z=>let⟨o,e⟩:=h.fxs b z;⟨o,s b o e⟩
structure Val where
 d:PyData
 fr:Bool
 bs:List Nat
noncomputable def lim(fx:Addr->Prop)(env:DEnv)(σ:St)(bs:List Nat)(a:Addr):Prop:=fx a\/∃(i:Nat)(d:PyData),i∉bs/\env[i]?=some (.ac d)/\σ[i]?=some (some (.ref a))
structure ValOk(A:Addr->Prop)(H H':Hp)(r:Val)(v:V):Prop where
 rp:Rp (Offs A H') r.d v
 fr:r.fr=true->∃a,v=.ref a/\H a=none/\zff (Offs (λb=>A b\/b=a) H') H' a r.d
theorem zmt{fx:Addr->Prop}{env:DEnv}{σ:St}{bs cs:List Nat}(h:∀i∈bs,i∈cs):∀a,lim fx env σ cs a->lim fx env σ bs a:=by
 rintro a (z|⟨i,d,h1,h2,h3⟩)
 ·exact .inl z
 ·exact .inr ⟨i,d,λq=>h1 (h i q),h2,h3⟩
theorem zqw{fx:Addr->Prop}{env:DEnv}{σ:St}{bs:List Nat}:∀a,lim fx env σ bs a->fx a\/own env σ a:=by
 rintro a (z|⟨i,d,h1,h2,h3⟩)
 ·exact .inl z
 ·exact .inr ⟨i,d,h2,h3⟩
theorem zyp{fx:Addr->Prop}{env:DEnv}{σ:St}:∀a,fx a\/own env σ a->lim fx env σ [] a:=by
 rintro a (z|⟨i,d,h2,h3⟩)
 ·exact .inl z
 ·exact .inr ⟨i,d,by simp,h2,h3⟩
theorem EnvOk.lims{fx:Addr->Prop}{H0:Hp}{env:DEnv}{σ:St}{H:Hp}(h:EnvOk fx H0 env σ H)(bs:List Nat):∀b,lim fx env σ bs b->∃o,H b=some o:=by
 rintro b (z|⟨i,d,h1,h2,h3⟩)
 ·exact h.fxs b z
 ·obtain⟨a,g1,g2,g3,g4⟩:=h.ac i d h2
  rw[h3]at g1
  cases g1
  exact g4.ex
theorem ValOk.later{A B:Addr->Prop}{H0 H H' H'':Hp}{r:Val}{v:V}(h:ValOk A H H' r v)(s0:Same H0 H)(s:Same H' H'')(hB:∀b,B b->A b):ValOk B H0 H'' r v:=by
 refine⟨Rp.same (Offs.mono s λb _ _ n z=>n (hB b z)) _ h.rp,λe=>?_⟩
 obtain⟨a,h1,h2,h3⟩:=h.fr e
 exact⟨a,h1,s0.free h2,h3.same (Offs.mono s λb _ _ n z=>n (z.elim (λy=>.inl (hB b y)) .inr)) λo=>s a o⟩
noncomputable def zfb:PyData->Bool
 | .list _=>false
 | .tuple _=>false
 | .dict _=>false
 | _=>true
theorem zqx{H H':Hp}{d:PyData}{v:V}(f:zfb d=true)(h:Rp H d v):Rp H' d v:=by
 cases d<;>first
  | (unfold Rp at h ⊢;exact h)
  | cases f
noncomputable def bsOf(d:PyData)(bs:List Nat):List Nat:=if zfb d=true then[]else bs
theorem ziu{fx:Addr->Prop}{env:DEnv}{σ:St}{bs:List Nat}{H:Hp}{d:PyData}{v:V}(h:Rp (Offs (lim fx env σ bs) H) d v):Rp (Offs (lim fx env σ (bsOf d bs)) H) d v:=by
 unfold bsOf
 split
 ·rename_i e;exact zqx e h
 ·exact h
noncomputable abbrev EF:=DEnv->Option Val
noncomputable def SE(te:TE)(f:EF):Prop:=∀(fx:Addr->Prop)(H0:Hp)(env:DEnv)(σ:St)(H:Hp),EnvOk fx H0 env σ H->∀r,f env=some r->∀Q:VK,(∀v H',Same H H'->ValOk (lim fx env σ r.bs) H H' r v->Q v H')->te σ H Q
noncomputable abbrev TF:=DEnv->Option Bool
noncomputable def ST(tt:TT)(f:TF):Prop:=∀(fx:Addr->Prop)(H0:Hp)(env:DEnv)(σ:St)(H:Hp),EnvOk fx H0 env σ H->∀b,f env=some b->∀Q:Bool->Hp->Prop,(∀H',Same H H'->Q b H')->tt σ H Q
noncomputable abbrev AF:=DEnv->Option (List Val)
noncomputable def SA(ta:TA)(f:AF):Prop:=∀(fx:Addr->Prop)(H0:Hp)(env:DEnv)(σ:St)(H:Hp),EnvOk fx H0 env σ H->∀rs,f env=some rs->∀Q:List V->Hp->Prop,
 (∀vs H',Same H H'->Paired (λr v=>ValOk (lim fx env σ r.bs) H H' r v) rs vs->Q vs H')->ta σ H Q
section
variable{X:Cx}
noncomputable def eVar(i:Nat):EF:=λenv=>match env[i]? with
 | some (.pl d)=>some ⟨d,false,[]⟩
 | some (.ac d)=>some ⟨d,false,[i]⟩
 | _=>none
theorem zae(i:Nat):SE (tVar i) (eVar i):=by
 intro fx H0 env σ H h r hr Q q
 unfold eVar at hr
 cases e:env[i]? with
 | none=>rw[e]at hr;cases hr
 | some sl=>
  rw[e]at hr
  cases sl with
  | no=>cases hr
  | pl d=>
   cases hr
   obtain⟨v,h1,h2⟩:=h.pl i d e
   exact⟨v,h1,q v H (Same.refl _) ⟨Rp.same (Offs.sub zqw) _ h2,λz=>by cases z⟩⟩
  | ac d=>
   cases hr
   obtain⟨a,h1,h2,h3,h4⟩:=h.ac i d e
   have hna:¬lim fx env σ [i] a:=by
    rintro(z|⟨j,d',g1,g2,g3⟩)
    ·exact h3 z
    ·exact g1 (qR.mpr (h.inj j i d' d a g2 e g3 h1))
   exact⟨_,h1,q _ H (Same.refl _) ⟨h4.rp (Offs.sub zqw) λo z=>by rw[Offs.get hna];exact z,λz=>by cases z⟩⟩
noncomputable def eC(d:PyData):EF:=λ_=>some ⟨d,false,[]⟩
theorem se_c{d:PyData}{v:V}(h:∀H,Rp H d v):SE (tC v) (eC d):=by
 intro fx H0 env σ H _ r hr Q q
 cases hr
 exact q v H (Same.refl _) ⟨h _,λz=>by cases z⟩
noncomputable abbrev OF:=PyData->PyData->Option (PyData×Bool)
noncomputable def SO(r:R2)(f:OF):Prop:=∀(A:Addr->Prop)(H:Hp)(x y:V)(dx dy:PyData),(∀b,A b->∃o,H b=some o)->Rp (Offs A H) dx x->Rp (Offs A H) dy y->∀d fr,f dx dy=some (d,fr)->∀Q:VK,
 (∀v H',Same H H'->Rp (Offs A H') d v->(fr=true->∃a,v=.ref a/\H a=none/\zff (Offs (λb=>A b\/b=a) H') H' a d)->Q v H')->r x y H Q
noncomputable def eOp(f:OF)(a b:EF):EF:=λenv=>(a env).bind λx=>(b env).bind λy=>(f x.d y.d).bind λz=>some ⟨z.1,z.2,bsOf z.1 (x.bs++y.bs)⟩
theorem zbc{r:R2}{f:OF}{ta tb:TE}{fa fb:EF}(ho:SO r f)(ha:SE ta fa)(hb:SE tb fb):SE (tOp r ta tb) (eOp f fa fb):=by
 intro fx H0 env σ H h rr hr Q q
 unfold eOp at hr
 obtain⟨x,ex,hr⟩:=qA.mp hr
 obtain⟨y,ey,hr⟩:=qA.mp hr
 obtain⟨⟨d,fr⟩,ez,hr⟩:=qA.mp hr
 cases hr
 refine ha fx H0 env σ H h x ex _ λv H1 s1 v1=>hb fx H0 env σ H1 (h.up s1) y ey _ λu H2 s2 v2=>?_
 have l1:∀b,lim fx env σ (x.bs++y.bs) b->lim fx env σ x.bs b:=zmt λi hi=>qAK _ hi
 have l2:∀b,lim fx env σ (x.bs++y.bs) b->lim fx env σ y.bs b:=zmt λi hi=>qq _ hi
 refine ho (lim fx env σ (x.bs++y.bs)) H2 v u x.d y.d ((h.up (s1.trans s2)).lims _) (v1.later (Same.refl _) s2 l1).rp (v2.later (Same.refl _) (Same.refl _) l2).rp d fr ez _ λw H3 s3 rp fr3=>q w H3 ((s1.trans s2).trans s3) ⟨ziu rp,λe=>?_⟩
 obtain⟨a,g1,g2,g3⟩:=fr3 e
 refine⟨a,g1,(s1.trans s2).free g2,?_⟩
 have nf:zfb d=false:=by cases d<;>first|rfl|exact g3.elim
 show zff (Offs (λb=>lim fx env σ (bsOf d (x.bs++y.bs)) b\/b=a) H3) H3 a d
 rw[show bsOf d (x.bs++y.bs)=x.bs++y.bs by unfold bsOf;rw[if_neg (by rw[nf];decide)]]
 exact g3
end
theorem zeq{n:Nat}(h:n<=100000):n<=qc:=qf h (by decide)
theorem zjy{n:Nat}(h:n<100000):n<qc:=Nat.lt_trans h (by decide)
theorem zfg{A:Addr->Prop}{H:Hp}(hA:∀b,A b->∃o,H b=some o){p:Addr}(hp:H p=none):¬A p:=λz=>by
 obtain⟨o,e⟩:=hA p z
 rw[hp]at e;cases e
theorem zjz{A:Addr->Prop}{H:Hp}{p:Addr}{ds:List PyData}{xs:List V}(hp:H p=none)(r:Rps (Offs A H) ds xs):zff (Offs (λb=>A b\/b=p) (upd H p (.lst xs))) (upd H p (.lst xs)) p (.list ds):=by
 refine⟨xs,zbk,Rps.same (Offs.mono (Same.new hp) λb o e n z=>?_) _ r⟩
 rcases z with z|z
 ·exact n z
 ·rw[z,hp]at e;cases e
theorem zmu{A:Addr->Prop}{H:Hp}{p:Addr}{ds:List PyData}{xs:List V}(hp:H p=none)(hA:¬A p)(r:Rps (Offs A H) ds xs):Rp (Offs A (upd H p (.lst xs))) (.list ds) (.ref p):=
 zgr (by rw[Offs.get hA];exact zbk) (Rps.same (Offs.grow (Same.new hp)) _ r)
theorem zmv{A:Addr->Prop}{H:Hp}{p:Addr}{ds:List PyData}{xs:List V}(hp:H p=none)(hA:¬A p)(r:Rps (Offs A H) ds xs):Rp (Offs A (upd H p (.tup xs))) (.tuple ds) (.ref p):=
 zuh (by rw[Offs.get hA];exact zbk) (Rps.same (Offs.grow (Same.new hp)) _ r)
theorem zgc{A:Addr->Prop}{H:Hp}{a:Addr}{o:HO}(h:Offs A H a=some o):H a=some o:=(Offs.of h).2
noncomputable def addD:OF
 | .int i,.int j=>some (.int (i+j),false)
 | .str a,.str b=>if a.length+b.length<=100000 then some (.str (a++b),false)else none
 | .list a,.list b=>if a.length+b.length<=100000 then some (.list (a++b),true)else none
 | .tuple a,.tuple b=>if a.isEmpty=false/\a.length+b.length<=100000 then some (.tuple (a++b),false)else none
 | _,_=>none
theorem zbm{K:qD}:SO (zaeq K) addD:=by
 intro A H x y dx dy hA rx ry d fr e Q q
 unfold addD at e
 split at e
 ·cases e
  cases zcj rx;cases zcj ry
  exact q _ H (Same.refl _) zaa (λz=>by cases z)
 ·split at e
  ·rename_i hl
   cases e
   cases zhl rx;cases zhl ry
   exact⟨zeq hl,q _ H (Same.refl _) zal (λz=>by cases z)⟩
  ·cases e
 ·split at e
  ·rename_i hl
   cases e
   obtain⟨p,xs,rfl,hp,r1⟩:=zfe rx
   obtain⟨p',ys,rfl,hp',r2⟩:=zfe ry
   refine .inl ⟨p,p',xs,ys,rfl,rfl,zgc hp,zgc hp',zeq (by rw[<- r1.length,<- r2.length];exact hl),λb hb=>?_⟩
   exact q _ _ (Same.new hb) (zmu hb (zfg hA hb) (r1.append r2)) λ_=>⟨b,rfl,hb,zjz hb (r1.append r2)⟩
  ·cases e
 ·split at e
  ·rename_i hl
   cases e
   obtain⟨p,xs,rfl,hp,r1⟩:=zdt rx
   obtain⟨p',ys,rfl,hp',r2⟩:=zdt ry
   refine .inr ⟨p,p',xs,ys,rfl,rfl,SqT.of (zgc hp),SqT.of (zgc hp'),λz=>?_,zeq (by rw[<- r1.length,<- r2.length];exact hl.2),λz=>?_,λ_ b hb=>?_⟩
   ·have h1:=r1.length
    have h0:=hl.1
    rw[z]at h1
    rw[List.isEmpty_eq_false_iff]at h0
    exact h0 (qAV.mp h1)
   ·have h2:=r2.length
    rw[z]at h2
    have:=qAV.mp h2
    subst this
    rw[q9]at q
    exact q _ H (Same.refl _) rx (λz=>by cases z)
   ·exact q _ _ (Same.new hb) (zmv hb (zfg hA hb) (r1.append r2)) (λz=>by cases z)
  ·cases e
 ·cases e
noncomputable def intD(c:Int->Int->Bool)(f:Int->Int->PyData):OF
 | .int i,.int j=>if c i j=true then some (f i j,false)else none
 | _,_=>none
theorem zyq{C:Int->Int->Prop}{g:Int->Int->V}{c:Int->Int->Bool}{f:Int->Int->PyData}(hc:∀i j,c i j=true->C i j)(hf:∀H i j,Rp H (f i j) (g i j)):SO (rI C g) (intD c f):=by
 intro A H x y dx dy hA rx ry d fr e Q q
 unfold intD at e
 split at e
 ·split at e
  ·rename_i h
   cases e
   cases zcj rx;cases zcj ry
   exact⟨_,_,rfl,rfl,hc _ _ h,q _ H (Same.refl _) (hf _ _ _) (λz=>by cases z)⟩
  ·cases e
 ·cases e
theorem zqy{g:Int->Int->V}{f:Int->Int->PyData}(hf:∀H i j,Rp H (f i j) (g i j)):SO (rI0 g) (intD (λ_ _=>true) f):=by
 intro A H x y dx dy hA rx ry d fr e Q q
 unfold intD at e
 split at e
 ·split at e
  ·cases e
   cases zcj rx;cases zcj ry
   exact⟨_,_,rfl,rfl,q _ H (Same.refl _) (hf _ _ _) (λz=>by cases z)⟩
  ·cases e
 ·cases e
noncomputable def subD:OF:=intD (λ_ _=>true) λi j=>.int (i - j)
theorem zadg:SO (rI0 λi j=>.int (i - j)) subD:=zqy λ_ _ _=>zaa
noncomputable def ltD:OF:=intD (λ_ _=>true) λi j=>.bool (decide (i<j))
theorem zabq:SO (rI0 λi j=>.bl (decide (i<j))) ltD:=zqy λ_ _ _=>zcg
noncomputable def gtD:OF:=intD (λ_ _=>true) λi j=>.bool (decide (j<i))
theorem zyr:SO (rI0 λi j=>.bl (decide (j<i))) gtD:=zqy λ_ _ _=>zcg
noncomputable def geD:OF:=intD (λ_ _=>true) λi j=>.bool (decide (j<=i))
theorem zakt:SO (rI0 λi j=>.bl (decide (j<=i))) geD:=zqy λ_ _ _=>zcg
noncomputable def modD:OF:=intD (λ_ j=>decide (0<j)) λi j=>.int (i % j)
theorem zin:SO (rI (λ_ j=>0<j) λi j=>.int (i % j)) modD:=zyq (λ_ _ h=>of_decide_eq_true h) λ_ _ _=>zaa
noncomputable def zlx:OF:=intD (λ_ j=>decide (0<j/\j<1073741824)) λi j=>.int (i / j)
theorem zmw:SO (rI CDiv λi j=>.int (i / j)) zlx:=zyq (λi j h=>(of_decide_eq_true h:0<j/\j<1073741824)) λ_ _ _=>zaa
noncomputable def mulD:OF
 | .int i,.int j=>if(-(2 ^ 64)<i/\i<2 ^ 64)\/(-(2 ^ 64)<j/\j<2 ^ 64)then some (.int (i * j),false)else none
 | .str z,.int n=>if z.length<=1000/\-1000<=n/\n<=1000 then some (.str (Txt.mul z n),false)else none
 | _,_=>none
theorem zio:SO zaif mulD:=by
 intro A H x y dx dy hA rx ry d fr e Q q
 unfold mulD at e
 split at e
 ·split at e
  ·rename_i h
   cases e
   cases zcj rx;cases zcj ry
   exact⟨h,q _ H (Same.refl _) zaa (λz=>by cases z)⟩
  ·cases e
 ·split at e
  ·rename_i h
   cases e
   cases zhl rx;cases zcj ry
   exact⟨h.1,h.2.1,h.2.2,q _ H (Same.refl _) zal (λz=>by cases z)⟩
  ·cases e
 ·cases e
mutual
theorem zpv{K:qD}{H:Hp}:∀{d:PyData}{v:V},d.canLay0=true->Rp H d v->Rep K H d v
 | .none,v,_,h=>by unfold Rp at h;unfold Rep;exact h
 | .bool b,v,_,h=>by unfold Rp at h;unfold Rep;exact h
 | .int i,v,_,h=>by unfold Rp at h;unfold Rep;exact h
 | .str x,v,_,h=>by unfold Rp at h;unfold Rep;exact h
 | .list ds,v,c,h=>by
  obtain⟨a,xs,e,h1,h2⟩:=zfe h
  unfold Rep
  exact⟨a,xs,e,SqL.of h1,rps_reps (by simpa [PyData.canLay0]using c) h2⟩
 | .tuple ds,v,c,h=>by
  obtain⟨a,xs,e,h1,h2⟩:=zdt h
  unfold Rep
  exact⟨a,xs,e,SqT.of h1,rps_reps (by simpa [PyData.canLay0]using c) h2⟩
 | .dict _,v,c,h=>by simp[PyData.canLay0]at c
theorem rps_reps{K:qD}{H:Hp}:∀{ds:List PyData}{vs:List V},qAX ds=true->Rps H ds vs->Reps K H ds vs
 | [],vs,_,h=>by unfold Rps at h;unfold Reps;exact h
 | d::ds,vs,c,h=>by
  unfold Rps at h
  obtain⟨v,ws,e,h1,h2⟩:=h
  have c:d.canLay0=true/\qAX ds=true:=by simpa [qAX]using c
  unfold Reps
  exact⟨v,ws,e,zpv c.1 h1,rps_reps c.2 h2⟩
end
noncomputable def zabr:PyData->PyData->Bool
 | .none,.none=>true|.none,.int _=>true|.int _,.none=>true|.none,.bool _=>true|.bool _,.none=>true|.none,.str _=>true|.str _,.none=>true
 | .int _,.int _=>true|.bool _,.bool _=>true|.str _,.str _=>true
 | .int _,.str _=>true|.str _,.int _=>true|.bool _,.str _=>true|.str _,.bool _=>true
 | _,_=>false
noncomputable def eqOk(dx dy:PyData):Bool:=zabr dx dy||(qAg dx&&qAg dy)
noncomputable def eqD:OF:=λdx dy=>if eqOk dx dy=true then some (.bool (qAP dx dy),false)else none
noncomputable def neD:OF:=λdx dy=>if eqOk dx dy=true then some (.bool (!PyData.eqv dx dy),false)else none
theorem zys{H:Hp}{dx dy:PyData}{x y:V}(s:zabr dx dy=true)(rx:Rp H dx x)(ry:Rp H dy y):scal x y=true/\decide (x=y)=qAP dx dy:=by
 cases dx<;>cases dy<;>first
  | (exact absurd (show false=true from s) qK)
  | (unfold Rp at rx ry;subst rx;subst ry;refine⟨rfl,?_⟩;first|rfl|exact zua|exact zya|exact zub|simp[qAP])
theorem zka{K:qD}:SO (λx y H Q=>rEq x y H Q\/rEqD K false x y H Q) eqD:=by
 intro A H x y dx dy hA rx ry d fr e Q q
 unfold eqD at e
 split at e
 ·rename_i h
  cases e
  cases hs:zabr dx dy with
  | true=>
   obtain⟨h1,h2⟩:=zys hs rx ry
   exact .inl ⟨h1,by rw[h2];exact q _ H (Same.refl _) zcg (λz=>by cases z)⟩
  | false=>
   unfold eqOk at h
   rw[hs,Bool.false_or,qy]at h
   have rx:=Rp.same (Offs.same A H) _ rx
   have ry:=Rp.same (Offs.same A H) _ ry
   exact .inr ⟨dx,dy,zpv (qAc h.1) rx,zpv (qAc h.2) ry,h.1,h.2,q _ H (Same.refl _) zcg (λz=>by cases z)⟩
 ·cases e
theorem zaih{K:qD}:SO (λx y H Q=>rNe x y H Q\/rEqD K true x y H Q) neD:=by
 intro A H x y dx dy hA rx ry d fr e Q q
 unfold neD at e
 split at e
 ·rename_i h
  cases e
  cases hs:zabr dx dy with
  | true=>
   obtain⟨h1,h2⟩:=zys hs rx ry
   exact .inl ⟨h1,by rw[h2];exact q _ H (Same.refl _) zcg (λz=>by cases z)⟩
  | false=>
   unfold eqOk at h
   rw[hs,Bool.false_or,qy]at h
   have rx:=Rp.same (Offs.same A H) _ rx
   have ry:=Rp.same (Offs.same A H) _ ry
   exact .inr ⟨dx,dy,zpv (qAc h.1) rx,zpv (qAc h.2) ry,h.1,h.2,q _ H (Same.refl _) zcg (λz=>by cases z)⟩
 ·cases e
noncomputable def zda(ds:List PyData):Bool:=ds.all zfb
theorem zadh{H:Hp}{d:PyData}{v:V}(f:zfb d=true)(h:Rp H d v):zpj v=true:=by
 cases d<;>first
  | (unfold Rp at h;subst h;rfl)
  | cases f
theorem zaeu{H:Hp}{ds:List PyData}{vs:List V}(f:zda ds=true)(h:Rps H ds vs):vs.all zpj=true:=by
 replace h:=zdi.mp h
 induction h with
 | nil=>rfl
 | cons h _ ih=>
  unfold zda at f
  rw[qAk,qy]at f
  rw[qAk,zadh f.1 h,ih f.2];rfl
theorem zaev{H:Hp}{d e:PyData}{v u:V}(f:zfb d=true)(g:zfb e=true)(h:Rp H d v)(k:Rp H e u):eqV v u=qAP d e:=by
 cases d<;>cases e<;>first
  | (unfold Rp at h k;subst h;subst k;rfl)
  | exact absurd (show false=true from f) qK
  | exact absurd (show false=true from g) qK
theorem zaew{H:Hp}{d:PyData}{v:V}(f:zfb d=true)(h:Rp H d v){ds:List PyData}{vs:List V}(g:zda ds=true)(r:Rps H ds vs):inV v vs=ds.any λe=>qAP e d:=by
 replace r:=zdi.mp r
 unfold inV
 induction r with
 | nil=>rfl
 | cons r _ ih=>
  unfold zda at g
  rw[qAk,qy]at g
  rw[qA3,qA3,zaev g.1 f r h,ih g.2]
noncomputable def zkl:PyData->Option (List PyData)
 | .list ds=>some ds
 | .tuple ds=>some ds
 | _=>none
noncomputable def inD(neg:Bool):OF:=λd c=>match zkl c with
 | some ds=>if zfb d=true/\zda ds=true then some (.bool (if neg then !(ds.any λe=>qAP e d)else ds.any λe=>qAP e d),false)else none
 | none=>none
theorem zvv{K:qD}{H:Hp}{c:PyData}{v:V}{ds:List PyData}(h:Rp H c v)(e:zkl c=some ds):∃p xs,v=.ref p/\(SqL K H p xs\/SqT K H p xs)/\Rps H ds xs:=by
 cases c<;>first
  | cases e
  | skip
 ·obtain⟨a,xs,e,h1,h2⟩:=zfe h;exact⟨a,xs,e,.inl (SqL.of h1),h2⟩
 ·obtain⟨a,xs,e,h1,h2⟩:=zdt h;exact⟨a,xs,e,.inr (SqT.of h1),h2⟩
theorem zaii{K:qD}{neg:Bool}:SO (rIn K neg) (inD neg):=by
 intro A H x y dx dy hA rx ry d fr e Q q
 unfold inD at e
 split at e
 ·rename_i ds hi
  split at e
  ·rename_i h
   cases e
   have rx:=Rp.same (Offs.same A H) _ rx
   obtain⟨p,xs,rfl,hq,r⟩:=zvv (K:=K) (Rp.same (Offs.same A H) _ ry) hi
   refine⟨p,xs,rfl,hq,zadh h.1 rx,zaeu h.2 r,?_⟩
   rw[zaew h.1 rx h.2 r]
   refine q _ H (Same.refl _) ?_ (λz=>by cases z)
   cases neg<;>exact zcg
  ·cases e
 ·cases e
noncomputable def ixD:OF
 | .str z,.int i=>if z.length<=100000 then(atI z.cps.toList i).map λc=>(.str ⟨#[c]⟩,false)else none
 | .list ds,.int i=>(atI ds i).map λd=>(d,false)
 | .tuple ds,.int i=>(atI ds i).map λd=>(d,false)
 | _,_=>none
theorem Rps.atI{H:Hp}{ds:List PyData}{vs:List V}(h:Rps H ds vs){i:Int}{d:PyData}(e:atI ds i=some d):∃v,L2.atI vs i=some v/\Rp H d v:=by
 unfold L2.atI at e ⊢
 rw[<- h.length]
 cases g:ixN ds.length i with
 | none=>rw[g]at e;cases e
 | some j=>
  rw[g]at e
  exact h.get2 e
theorem zly{K:qD}:SO (rIxU K) ixD:=by
 intro A H x y dx dy hA rx ry d fr e Q q
 unfold ixD at e
 split at e
 ·split at e
  ·rename_i z i hl
   obtain⟨c,hc,e⟩:=qE.mp e
   cases e
   cases zhl rx;cases zcj ry
   exact⟨zeq hl,c,hc,q _ H (Same.refl _) zal (λz=>by cases z)⟩
  ·cases e
 ·obtain⟨c,hc,e⟩:=qE.mp e
  cases e
  obtain⟨p,xs,rfl,hp,r⟩:=zfe rx
  cases zcj ry
  obtain⟨v,hv,rv⟩:=r.atI hc
  exact⟨xs,v,.inl (SqL.of (zgc hp)),hv,q _ H (Same.refl _) rv (λz=>by cases z)⟩
 ·obtain⟨c,hc,e⟩:=qE.mp e
  cases e
  obtain⟨p,xs,rfl,hp,r⟩:=zdt rx
  cases zcj ry
  obtain⟨v,hv,rv⟩:=r.atI hc
  exact⟨xs,v,.inr (SqT.of (zgc hp)),hv,q _ H (Same.refl _) rv (λz=>by cases z)⟩
 ·cases e
noncomputable def zaex:List (PyData×PyData)->Key->Option PyData
 | [],_=>none
 | (k,d)::r,j=>if keyD k=some j then some d else zaex r j
theorem zxa{H:Hp}{k d:PyData}{r:List (PyData×PyData)}{ps:List (Key×V)}(h:Rpd H ((k,d)::r) ps):∃k' v vs,ps=(k',v)::vs/\keyD k=some k'/\Rp H d v/\Rpd H r vs:=by
 unfold Rpd at h;exact h
theorem Rpd.length{H:Hp}:∀{kvs:List (PyData×PyData)}{ps:List (Key×V)},Rpd H kvs ps->kvs.length=ps.length
 | [],ps,h=>by unfold Rpd at h;subst h;rfl
 | (k,d)::r,ps,h=>by
  obtain⟨k',v,vs,rfl,_,_,h3⟩:=zxa h
  rw[qs,qs,h3.length]
noncomputable def zfh(f:EF):TF:=λenv=>(f env).bind λr=>match r.d with|.bool b=>some b|_=>none
theorem st_b{te:TE}{f:EF}(h:SE te f):ST (tB te) (zfh f):=by
 intro fx H0 env σ H hE b hb Q q
 unfold zfh at hb
 obtain⟨⟨d,fr,bs⟩,e,hb⟩:=qA.mp hb
 cases d with
 | bool c=>
  have hb:some c=some b:=hb
  cases hb
  exact h fx H0 env σ H hE _ e _ λv H' s v1=>⟨_,zjx v1.rp,q H' s⟩
 | _=>cases hb
theorem st_t{te:TE}{f:EF}(h:SE te f):ST (tTest te) (zfh f):=st_b h
noncomputable def truD:PyData->Option Bool
 | .none=>some false
 | .bool b=>some b
 | .int i=>some (i != 0)
 | .str x=>if x.length<=100000 then some ((x.length:Int) != 0)else none
 | .list ds=>some (!ds.isEmpty)
 | .tuple ds=>some (!ds.isEmpty)
 | .dict ds=>some (!ds.isEmpty)
noncomputable def tTru(f:EF):TF:=λenv=>(f env).bind λr=>truD r.d
theorem zkb{α β:Type}{xs:List α}{ys:List β}(h:xs.length=ys.length):xs.isEmpty=ys.isEmpty:=by
 cases xs<;>cases ys<;>simp at h<;>rfl
theorem zaku{K:qD}{H:Hp}{d:PyData}{v:V}{b:Bool}(h:Rp H d v)(e:truD d=some b):TruV K v H b:=by
 cases d with
 | none=>cases e;cases zyo h;rfl
 | bool c=>cases e;cases zjx h;rfl
 | int i=>cases e;cases zcj h;rfl
 | str x=>
  have e:(if x.length<=100000 then some ((x.length:Int) != 0)else none)=some b:=e
  split at e
  ·rename_i hl;cases e;cases zhl h;exact⟨zeq hl,rfl⟩
  ·cases e
 | list ds=>cases e;obtain⟨a,xs,rfl,h1,h2⟩:=zfe h;exact .inl ⟨xs,SqL.of h1,by rw[zkb h2.length]⟩
 | tuple ds=>cases e;obtain⟨a,xs,rfl,h1,h2⟩:=zdt h;exact .inr (.inl ⟨xs,SqT.of h1,by rw[zkb h2.length]⟩)
 | dict ds=>cases e;obtain⟨a,xs,rfl,h1,h2⟩:=zug h;exact .inr (.inr ⟨xs,h1,by rw[zkb h2.length]⟩)
theorem zyt{K:qD}{te:TE}{f:EF}(h:SE te f):ST (λσ H Q=>te σ H λx H1=>∃k,TruV K x H1 k/\Q k H1) (tTru f):=by
 intro fx H0 env σ H hE b hb Q q
 unfold tTru at hb
 obtain⟨r,e,hb⟩:=qA.mp hb
 exact h fx H0 env σ H hE _ e _ λv H' s v1=>⟨b,zaku (Rp.same (Offs.same _ _) _ v1.rp) hb,q H' s⟩
noncomputable def zyu(f g:TF):TF:=λenv=>(f env).bind λb=>if b=true then g env else some false
noncomputable def zxb(f:TF):TF:=λenv=>(f env).map λb=>!b
theorem zaij{t u:TT}{f g:TF}(h:ST t f)(k:ST u g):ST (tAnd t u) (zyu f g):=by
 intro fx H0 env σ H hE b hb Q q
 unfold zyu at hb
 obtain⟨c,e,hb⟩:=qA.mp hb
 refine h fx H0 env σ H hE c e _ λH' s=>?_
 cases c with
 | true=>exact iteT (k fx H0 env σ H' (hE.up s) b hb _ λH'' s'=>q H'' (s.trans s'))
 | false=>cases hb;exact iteF (q H' s)
theorem zyv{t:TT}{f:TF}(h:ST t f):ST (tNot t) (zxb f):=by
 intro fx H0 env σ H hE b hb Q q
 unfold zxb at hb
 obtain⟨c,e,rfl⟩:=qE.mp hb
 exact h fx H0 env σ H hE c e _ λH' s=>q H' s
noncomputable def asB:PyData->Option Bool|.bool b=>some b|_=>none
noncomputable def eAnd(a b:EF):EF:=λenv=>(a env).bind λx=>(asB x.d).bind λc=>if c=true then b env else some ⟨.bool false,false,[]⟩
theorem as_b{H:Hp}{d:PyData}{v:V}{c:Bool}(h:Rp H d v)(e:asB d=some c):v=.bl c:=by
 cases d<;>first
  | (cases e;exact zjx h)
  | cases e
theorem zyw{ta tb:TE}{fa fb:EF}(ha:SE ta fa)(hb:SE tb fb):SE (tAndV ta tb) (eAnd fa fb):=by
 intro fx H0 env σ H h rr hr Q q
 unfold eAnd at hr
 obtain⟨x,ex,hr⟩:=qA.mp hr
 obtain⟨c,ec,hr⟩:=qA.mp hr
 refine ha fx H0 env σ H h _ ex _ λv H1 s1 v1=>⟨c,as_b v1.rp ec,?_⟩
 cases c with
 | true=>exact iteT (hb fx H0 env σ H1 (h.up s1) _ hr _ λu H2 s2 v2=>q u H2 (s1.trans s2) (v2.later s1 (Same.refl _) λ_ z=>z))
 | false=>cases hr;exact iteF (q _ H1 s1 ⟨zcg,λz=>by cases z⟩)
noncomputable def aNil:AF:=λ_=>some []
noncomputable def zag(a:EF)(r:AF):AF:=λenv=>(a env).bind λx=>(r env).map λxs=>x::xs
theorem zat:SA tNil aNil:=by
 intro fx H0 env σ H h rs hr Q q
 cases hr
 exact q [] H (Same.refl _) .nil
theorem zah{te:TE}{ta:TA}{f:EF}{g:AF}(h1:SE te f)(h2:SA ta g):SA (tCons te ta) (zag f g):=by
 intro fx H0 env σ H h rs hr Q q
 unfold zag at hr
 obtain⟨x,ex,hr⟩:=qA.mp hr
 obtain⟨xs,exs,rfl⟩:=qE.mp hr
 exact h1 fx H0 env σ H h x ex _ λv H1 s1 v1=>h2 fx H0 env σ H1 (h.up s1) xs exs _ λvs H2 s2 vs2=>q (v::vs) H2 (s1.trans s2)
  (.cons (v1.later (Same.refl _) s2 λ_ z=>z) (Paired.mapP vs2 λ_ _ z=>z.later s1 (Same.refl _) λ_ y=>y))
noncomputable def zdb(rs:List Val):List PyData:=rs.map (·.d)
noncomputable def bss(rs:List Val):List Nat:=rs.flatMap (·.bs)
theorem zer{fx:Addr->Prop}{env:DEnv}{σ:St}{H H':Hp}:∀{rs:List Val}{vs:List V}{cs:List Nat},(∀i∈bss rs,i∈cs)->Paired (λr v=>ValOk (lim fx env σ r.bs) H H' r v) rs vs->Rps (Offs (lim fx env σ cs) H') (zdb rs) vs
 | _,_,_,_,.nil=>zca
 | r::rs,v::vs,cs,hc,.cons h t=>zby (Rp.same (Offs.sub (zmt λi hi=>hc i (qAq.mpr ⟨r,qAE,hi⟩))) _ h.rp)
   (zer (λi hi=>hc i (by obtain⟨x,h1,h2⟩:=qAq.mp hi;exact qAq.mpr ⟨x,qL _ h1,h2⟩)) t)
noncomputable def eTup(f:AF):EF:=λenv=>(f env).bind λrs=>if rs.length<=100000 then some ⟨.tuple (zdb rs),false,bss rs⟩else none
noncomputable def eLst(f:AF):EF:=λenv=>(f env).bind λrs=>if rs.length<=100000 then some ⟨.list (zdb rs),true,bss rs⟩else none
theorem zes(rs:List Val):(zdb rs).length=rs.length:=by unfold zdb;rw[qC]
theorem zmx{ta:TA}{f:AF}(ha:SA ta f):SE (tTup ta) (eTup f):=by
 intro fx H0 env σ H h rr hr Q q
 unfold eTup at hr
 obtain⟨rs,er,hr⟩:=qA.mp hr
 split at hr
 ·rename_i hl
  cases hr
  refine ha fx H0 env σ H h rs er _ λvs H1 s1 v1=>?_
  have r:=zer (λi hi=>hi) v1
  have hA:=(h.up s1).lims (bss rs)
  refine⟨zeq (by rw[<- r.length,zes];exact hl),λp hp=>q _ _ (s1.trans (Same.new hp)) ⟨zmv hp (zfg hA hp) r,λz=>by cases z⟩⟩
 ·cases hr
theorem zdl{ta:TA}{f:AF}(ha:SA ta f):SE (tLst ta) (eLst f):=by
 intro fx H0 env σ H h rr hr Q q
 unfold eLst at hr
 obtain⟨rs,er,hr⟩:=qA.mp hr
 split at hr
 ·rename_i hl
  cases hr
  refine ha fx H0 env σ H h rs er _ λvs H1 s1 v1=>?_
  have r:=zer (λi hi=>hi) v1
  have hA:=(h.up s1).lims (bss rs)
  refine⟨zeq (by rw[<- r.length,zes];exact hl),λp hp=>q _ _ (s1.trans (Same.new hp)) ⟨zmu hp (zfg hA hp) r,λ_=>⟨p,rfl,s1.free hp,zjz hp r⟩⟩⟩
 ·cases hr
noncomputable abbrev GF:=List PyData->Option (PyData×Bool)
noncomputable def SC(r:List V->Hp->VK->Prop)(g:GF):Prop:=∀(A:Addr->Prop)(H:Hp)(vs:List V)(ds:List PyData),(∀b,A b->∃o,H b=some o)->Rps (Offs A H) ds vs->∀d fr,g ds=some (d,fr)->∀Q:VK,
 (∀v H',Same H H'->Rp (Offs A H') d v->(fr=true->∃a,v=.ref a/\H a=none/\zff (Offs (λb=>A b\/b=a) H') H' a d)->Q v H')->r vs H Q
noncomputable def eCB(g:GF)(f:AF):EF:=λenv=>(f env).bind λrs=>(g (zdb rs)).bind λz=>some ⟨z.1,z.2,bsOf z.1 (bss rs)⟩
theorem zeh{r:List V->Hp->VK->Prop}{g:GF}{ta:TA}{f:AF}(hc:SC r g)(ha:SA ta f):SE (tCB r ta) (eCB g f):=by
 intro fx H0 env σ H h rr hr Q q
 unfold eCB at hr
 obtain⟨rs,er,hr⟩:=qA.mp hr
 obtain⟨⟨d,fr⟩,ez,hr⟩:=qA.mp hr
 cases hr
 refine ha fx H0 env σ H h rs er _ λvs H1 s1 v1=>hc (lim fx env σ (bss rs)) H1 vs (zdb rs) ((h.up s1).lims _) (zer (λi hi=>hi) v1) d fr ez _ λw H3 s3 rp fr3=>q w H3 (s1.trans s3) ⟨ziu rp,λe=>?_⟩
 obtain⟨a,g1,g2,g3⟩:=fr3 e
 refine⟨a,g1,s1.free g2,?_⟩
 have nf:zfb d=false:=by cases d<;>first|rfl|exact g3.elim
 show zff (Offs (λb=>lim fx env σ (bsOf d (bss rs)) b\/b=a) H3) H3 a d
 rw[show bsOf d (bss rs)=bss rs by unfold bsOf;rw[if_neg (by rw[nf];decide)]]
 exact g3
theorem rps1{H:Hp}{d:PyData}{vs:List V}(h:Rps H [d] vs):∃v,vs=[v]/\Rp H d v:=by
 unfold Rps at h
 obtain⟨v,ws,rfl,h1,h2⟩:=h
 unfold Rps at h2
 subst h2
 exact⟨v,rfl,h1⟩
theorem rps2{H:Hp}{d e:PyData}{vs:List V}(h:Rps H [d,e] vs):∃v u,vs=[v,u]/\Rp H d v/\Rp H e u:=by
 unfold Rps at h
 obtain⟨v,ws,rfl,h1,h2⟩:=h
 obtain⟨u,rfl,h3⟩:=rps1 h2
 exact⟨v,u,rfl,h1,h3⟩
noncomputable def lenD:GF
 | [.str x]=>if x.length<=100000 then some (.int x.length,false)else none
 | [.list ds]=>some (.int ds.length,false)
 | [.tuple ds]=>some (.int ds.length,false)
 | _=>none
theorem ziq{K:qD}:SC (λxs H Q=>∃x n,xs=[x]/\LenV K x H n/\Q (.int n) H) lenD:=by
 intro A H vs ds hA rv d fr e Q q
 unfold lenD at e
 split at e
 ·split at e
  ·rename_i hl
   cases e
   obtain⟨v,rfl,r⟩:=rps1 rv
   cases zhl r
   exact⟨_,_,rfl,⟨zeq hl,rfl⟩,q _ H (Same.refl _) zaa (λz=>by cases z)⟩
  ·cases e
 ·cases e
  obtain⟨v,rfl,r⟩:=rps1 rv
  obtain⟨a,xs,rfl,h1,h2⟩:=zfe r
  exact⟨_,_,rfl,.inl ⟨xs,SqL.of (zgc h1),rfl⟩,by rw[<- h2.length];exact q _ H (Same.refl _) zaa (λz=>by cases z)⟩
 ·cases e
  obtain⟨v,rfl,r⟩:=rps1 rv
  obtain⟨a,xs,rfl,h1,h2⟩:=zdt r
  exact⟨_,_,rfl,.inr ⟨xs,SqT.of (zgc h1),rfl⟩,by rw[<- h2.length];exact q _ H (Same.refl _) zaa (λz=>by cases z)⟩
 ·cases e
noncomputable def minD:GF
 | [.int i,.int j]=>some (.int (if j<i then j else i),false)
 | _=>none
theorem zadi:SC (λxs H Q=>∃i j,xs=[.int i,.int j]/\Q (.int (if j<i then j else i)) H) minD:=by
 intro A H vs ds hA rv d fr e Q q
 unfold minD at e
 split at e
 ·cases e
  obtain⟨v,u,rfl,r1,r2⟩:=rps2 rv
  cases zcj r1;cases zcj r2
  exact⟨_,_,rfl,q _ H (Same.refl _) zaa (λz=>by cases z)⟩
 ·cases e
noncomputable def absD:GF
 | [.int i]=>some (.int (if i<0 then -i else i),false)
 | _=>none
theorem zyx:SC (λxs H Q=>∃i,xs=[.int i]/\Q (.int (if i<0 then -i else i)) H) absD:=by
 intro A H vs ds hA rv d fr e Q q
 unfold absD at e
 split at e
 ·cases e
  obtain⟨v,rfl,r1⟩:=rps1 rv
  cases zcj r1
  exact⟨_,rfl,q _ H (Same.refl _) zaa (λz=>by cases z)⟩
 ·cases e
noncomputable def zaey:GF
 | [c]=>(zkl c).map λds=>(.list ds,true)
 | _=>none
theorem zaez{K:qD}:SC (λxs H Q=>∃p ys,xs=[.ref p]/\(SqL K H p ys\/SqT K H p ys)/\∀l,H l=none->Q (.ref l) (upd H l (.lst ys))) zaey:=by
 intro A H vs ds hA rv d fr e Q q
 unfold zaey at e
 split at e
 ·obtain⟨es,he,e⟩:=qE.mp e
  cases e
  obtain⟨v,rfl,r1⟩:=rps1 rv
  obtain⟨p,xs,rfl,hq,r⟩:=zvv (K:=K) r1 he
  refine⟨p,xs,rfl,hq.imp (Offs.same A H).seq (SqT.same (Offs.same A H)),λl hl=>?_⟩
  exact q _ _ (Same.new hl) (zmu hl (zfg hA hl) r) λ_=>⟨l,rfl,hl,zjz hl r⟩
 ·cases e
noncomputable def zyy:GF
 | [c]=>(zkl c).map λds=>(.tuple ds,false)
 | _=>none
theorem zabs{K:qD}:SC (λxs H Q=>∃p ys,xs=[.ref p]/\((SqL K H p ys/\∀l,H l=none->Q (.ref l) (upd H l (.tup ys)))\/(SqT K H p ys/\Q (.ref p) H))) zyy:=by
 intro A H vs ds hA rv d fr e Q q
 unfold zyy at e
 split at e
 ·obtain⟨es,he,e⟩:=qE.mp e
  cases e
  obtain⟨v,rfl,r1⟩:=rps1 rv
  rename_i c
  cases c with
  | list ds=>
   cases he
   obtain⟨p,xs,rfl,h1,r⟩:=zfe r1
   exact⟨p,xs,rfl,.inl ⟨SqL.of (zgc h1),λl hl=>q _ _ (Same.new hl) (zmv hl (zfg hA hl) r) (λz=>by cases z)⟩⟩
  | tuple ds=>
   cases he
   obtain⟨p,xs,rfl,h1,r⟩:=zdt r1
   exact⟨p,xs,rfl,.inr ⟨SqT.of (zgc h1),q _ H (Same.refl _) r1 (λz=>by cases z)⟩⟩
  | _=>cases he
 ·cases e
noncomputable def zsl:PyData->String
 | .none=>"NoneType"|.bool _=>"bool"|.int _=>"int"|.str _=>"str"|.list _=>"list"|.tuple _=>"tuple"|.dict _=>"dict"
theorem zakv{K:qD}{H:Hp}{d:PyData}{v:V}(h:Rp H d v):TyOf K H v (.type (zsl d)):=by
 cases d with
 | list ds=>obtain⟨a,xs,rfl,h1,_⟩:=zfe h;exact .lst h1
 | tuple ds=>obtain⟨a,xs,rfl,h1,_⟩:=zdt h;exact .tup h1
 | dict ds=>obtain⟨a,xs,rfl,h1,_⟩:=zug h;exact .dK h1
 | none=>cases zyo h;exact .non
 | bool b=>cases zjx h;exact .bl _
 | int b=>cases zcj h;exact .int _
 | str b=>cases zhl h;exact .str _
noncomputable def isiB(n:String)(d:PyData):Bool:=zsl d==n||(zsl d=="bool"&&n=="int")
noncomputable def eIsi(n:String)(a:EF):EF:=λenv=>(a env).map λx=>⟨.bool (isiB n x.d),false,[]⟩
theorem zaik{K:qD}{n:String}{te:TE}{f:EF}(h1:SE te f)(hk:∀d,PySem.W.kitOne K (.type (zsl d)) (.type n)=some (isiB n d)) :
  SE (tCB (λxs H Q=>∃x n t b,xs=[x,.ty n]/\TyOf K H x t/\PySem.W.kitOne K t (.type n)=some b/\Q (.bl b) H) (tCons te (tCons (tC (.ty n)) tNil))) (eIsi n f):=by
 intro fx H0 env σ H h rr hr Q q
 unfold eIsi at hr
 obtain⟨x,ex,rfl⟩:=qE.mp hr
 refine h1 fx H0 env σ H h _ ex _ λv H1 s1 v1=>?_
 exact⟨v,n,_,_,rfl,zakv (Rp.same (Offs.same _ _) _ v1.rp),hk _,q _ H1 s1 ⟨zcg,λz=>by cases z⟩⟩
theorem zafa{K:qD}:∀d,PySem.W.kitOne K (.type (zsl d)) (.type "str")=some (isiB "str" d):=by intro d;cases d<;>rfl
noncomputable abbrev PF':=DEnv->Option (Option Int)
noncomputable def SPt(t:TO)(f:PF'):Prop:=∀(fx:Addr->Prop)(H0:Hp)(env:DEnv)(σ:St)(H:Hp),EnvOk fx H0 env σ H->∀r,f env=some r->∀Q:Option Int->Hp->Prop,(∀H',Same H H'->Q r H')->t σ H Q
noncomputable def zpk:PF':=λ_=>some none
noncomputable def zmy(a:EF):PF':=λenv=>(a env).bind λx=>match x.d with|.int i=>some (some i)|_=>none
theorem zui:SPt tNoPart zpk:=by
 intro fx H0 env σ H h r hr Q q
 cases hr
 exact q H (Same.refl _)
theorem zuj{te:TE}{f:EF}(h1:SE te f):SPt (tPart te) (zmy f):=by
 intro fx H0 env σ H h r hr Q q
 unfold zmy at hr
 obtain⟨⟨d,fr,bs⟩,ex,hr⟩:=qA.mp hr
 cases d with
 | int i=>
  cases hr
  exact h1 fx H0 env σ H h _ ex _ λv H1 s1 v1=>⟨i,zcj v1.rp,q H1 s1⟩
 | _=>cases hr
noncomputable def cutD(xs:List PyData)(lo hi:Option Int):List PyData:=(xs.drop (HT.sIx xs.length 0 lo)).take (HT.sIx xs.length xs.length hi - HT.sIx xs.length 0 lo)
theorem Rps.drop{H:Hp}{ds:List PyData}{vs:List V}(h:Rps H ds vs)(n:Nat):Rps H (ds.drop n) (vs.drop n):=by
 induction n generalizing ds vs with
 | zero=>exact h
 | succ n ih=>
  cases ds with
  | nil=>unfold Rps at h;subst h;exact zca
  | cons d ds=>unfold Rps at h;obtain⟨v,ws,rfl,h1,h2⟩:=h;exact ih h2
theorem Rps.take{H:Hp}{ds:List PyData}{vs:List V}(h:Rps H ds vs)(n:Nat):Rps H (ds.take n) (vs.take n):=by
 induction n generalizing ds vs with
 | zero=>exact zca
 | succ n ih=>
  cases ds with
  | nil=>unfold Rps at h;subst h;exact zca
  | cons d ds=>unfold Rps at h;obtain⟨v,ws,rfl,h1,h2⟩:=h;exact zby h1 (ih h2)
theorem Rps.cut{H:Hp}{ds:List PyData}{vs:List V}(h:Rps H ds vs)(lo hi:Option Int):Rps H (cutD ds lo hi) (cutV vs lo hi):=by
 unfold cutD cutV
 rw[<- h.length]
 exact(h.drop _).take _
noncomputable def slD(d:PyData)(lo hi:Option Int):Option (PyData×Bool):=match d with
 | .str z=>if z.length<=100000 then some (.str (Txt.slice z lo hi),false)else none
 | .list ds=>some (.list (cutD ds lo hi),true)
 | _=>none
noncomputable def eSl(a:EF)(l h:PF'):EF:=λenv=>(a env).bind λx=>(l env).bind λlo=>(h env).bind λhi=>(slD x.d lo hi).bind λz=>some ⟨z.1,z.2,bsOf z.1 x.bs⟩
theorem zafb{K:qD}{te:TE}{tl th:TO}{f:EF}{fl fh:PF'}(h1:SE te f)(h2:SPt tl fl)(h3:SPt th fh):SE (tSl (rSlU K) te tl th) (eSl f fl fh):=by
 intro fx H0 env σ H h rr hr Q q
 unfold eSl at hr
 obtain⟨⟨d,frd,bs⟩,ex,hr⟩:=qA.mp hr
 obtain⟨lo,el,hr⟩:=qA.mp hr
 obtain⟨hi,eh,hr⟩:=qA.mp hr
 obtain⟨⟨d',fr'⟩,ez,hr⟩:=qA.mp hr
 cases hr
 refine h1 fx H0 env σ H h _ ex _ λv H1 s1 v1=>h2 fx H0 env σ H1 (h.up s1) _ el _ λH2 s2=>h3 fx H0 env σ H2 (h.up (s1.trans s2)) _ eh _ λH3 s3=>?_
 have v3:=(v1.later (Same.refl _) (s2.trans s3) λ_ z=>z).rp
 have t3:=(s1.trans s2).trans s3
 cases d with
 | str z=>
  have ez:(if z.length<=100000 then some (PyData.str (Txt.slice z lo hi),false)else none)=some (d',fr'):=ez
  split at ez
  ·rename_i hl
   cases ez
   cases zhl v3
   exact⟨zeq hl,q _ H3 t3 ⟨zal,λz=>by cases z⟩⟩
  ·cases ez
 | list ds=>
  cases ez
  obtain⟨p,xs,rfl,hp,r⟩:=zfe v3
  refine⟨p,xs,rfl,SqL.of (zgc hp),λl hl=>q _ _ (t3.trans (Same.new hl)) ?_⟩
  have hA:=(h.up t3).lims bs
  exact⟨zmu hl (zfg hA hl) (r.cut lo hi),λ_=>⟨l,rfl,t3.free hl,zjz hl (r.cut lo hi)⟩⟩
 | _=>cases ez
noncomputable def zsm(fx:Addr->Prop)(H0:Hp)(d:PyData)(fr:Bool)(v:V)(H:Hp):Prop:=Rp (Offs fx H) d v/\(fr=true->∃a,v=.ref a/\H0 a=none/\zff (Offs (λb=>fx b\/b=a) H) H a d)
noncomputable def spD(n:Nat)(g:GF):Sp:=λvs H Q _=>∃(fx:Addr->Prop)(ds:List PyData)(d:PyData)(fr:Bool),ds.length=n/\(∀b,fx b->∃o,H b=some o)/\Rps (Offs fx H) ds vs/\g ds=some (d,fr)/\∀v H',Same H H'->zsm fx H d fr v H'->Q v H'
noncomputable def zef(n:Nat)(g:GF)(f:AF):EF:=λenv=>(f env).bind λrs=>if rs.length=n then(g (zdb rs)).bind λz=>some ⟨z.1,z.2,bsOf z.1 (bss rs)⟩else none
theorem zgj{n:Nat}{g:GF}{ta:TA}{f:AF}(ha:SA ta f):SE (tCall (spD n g) [] E0 ta) (zef n g f):=by
 intro fx H0 env σ H h rr hr Q q
 unfold zef at hr
 obtain⟨rs,er,hr⟩:=qA.mp hr
 split at hr
 ·rename_i hn
  obtain⟨⟨d,fr⟩,ez,hr⟩:=qA.mp hr
  cases hr
  refine ha fx H0 env σ H h rs er _ λvs H1 s1 v1=>?_
  rw[q9]
  refine⟨lim fx env σ (bss rs),zdb rs,d,fr,by rw[zes];exact hn,(h.up s1).lims _,zer (λi hi=>hi) v1,ez,λw H3 s3 ⟨rp,fr3⟩=>q w H3 (s1.trans s3) ⟨ziu rp,λe=>?_⟩⟩
  obtain⟨a,g1,g2,g3⟩:=fr3 e
  refine⟨a,g1,s1.free g2,?_⟩
  have nf:zfb d=false:=by cases d<;>first|rfl|exact g3.elim
  show zff (Offs (λb=>lim fx env σ (bsOf d (bss rs)) b\/b=a) H3) H3 a d
  rw[show bsOf d (bss rs)=bss rs by unfold bsOf;rw[if_neg (by rw[nf];decide)]]
  exact g3
 ·cases hr
inductive Out where
 | nx (env:DEnv)
 | bk (env:DEnv)
 | ct (env:DEnv)
 | rt (d:PyData) (fr:Bool)
noncomputable def Sat(fx:Addr->Prop)(H0:Hp)(D:Ends):Out->Prop
 | .nx env=>∀σ H,EnvOk fx H0 env σ H->D.nx σ H
 | .bk env=>∀σ H,EnvOk fx H0 env σ H->D.bk σ H
 | .ct env=>∀σ H,EnvOk fx H0 env σ H->D.ct σ H
 | .rt d fr=>∀v H,Same H0 H->zsm fx H0 d fr v H->D.rt v H
noncomputable abbrev SF:=DEnv->Option Out
noncomputable def SS(ts:TS)(F:SF):Prop:=∀(fx:Addr->Prop)(H0:Hp)(env:DEnv)(σ:St)(H:Hp)(D:Ends),EnvOk fx H0 env σ H->∀o,F env=some o->Sat fx H0 D o->ts D σ H
noncomputable def frz1(env:DEnv)(i:Nat):DEnv:=match env[i]? with
 | some (.ac d)=>env.set i (.pl d)
 | _=>env
noncomputable def frzs(env:DEnv)(bs:List Nat):DEnv:=bs.foldl frz1 env
theorem zabt(env:DEnv)(i:Nat):(frz1 env i).length=env.length:=by
 unfold frz1;split
 ·rw[qe]
 ·rfl
theorem zcv{α:Type}{l:List α}{i j:Nat}{x y:α}(h:(l.set i x)[j]?=some y):(j=i/\y=x)\/(j≠i/\l[j]?=some y):=by
 rw[List.getElem?_set]at h
 by_cases e:i=j
 ·subst e
  rw[if_pos rfl]at h
  split at h
  ·exact .inl ⟨rfl,(qu h).symm⟩
  ·cases h
 ·rw[if_neg e]at h
  exact .inr ⟨λz=>e z.symm,h⟩
theorem zlg{env:DEnv}{i j:Nat}{d:PyData}(h:(frz1 env i)[j]?=some (.ac d)):env[j]?=some (.ac d)/\j≠i:=by
 unfold frz1 at h
 split at h
 ·rcases zcv h with⟨_,e⟩|⟨e,h⟩
  ·cases e
  ·exact⟨h,e⟩
 ·rename_i hn
  refine⟨h,λe=>?_⟩
  subst e
  exact hn d h
theorem zafc{env:DEnv}{i j:Nat}{d:PyData}(h:(frz1 env i)[j]?=some (.pl d)):env[j]?=some (.pl d)\/(j=i/\env[i]?=some (.ac d)):=by
 unfold frz1 at h
 split at h
 ·rename_i d' hd
  rcases zcv h with⟨e1,e⟩|⟨e,h⟩
  ·cases e;exact .inr ⟨e1,hd⟩
  ·exact .inl h
 ·exact .inl h
theorem zabu{env:DEnv}{σ:St}{i:Nat}:∀a,own (frz1 env i) σ a->own env σ a:=by
 rintro a ⟨j,d,h1,h2⟩
 exact⟨j,d,(zlg h1).1,h2⟩
theorem EnvOk.frz1{fx:Addr->Prop}{H0:Hp}{env:DEnv}{σ:St}{H:Hp}(h:EnvOk fx H0 env σ H)(i:Nat):EnvOk fx H0 (frz1 env i) σ H:=by
 have so:Same (Offs (λa=>fx a\/own env σ a) H) (Offs (λa=>fx a\/own (L2.frz1 env i) σ a) H):=Offs.sub λb z=>z.imp (λy=>y) (zabu b)
 refine⟨by rw[zabt];exact h.len,λj d e=>?_,λj d e=>?_,λj k d d' a h1 h2 h3 h4=>h.inj j k d d' a (zlg h1).1 (zlg h2).1 h3 h4,h.base,h.fxs⟩
 ·rcases zafc e with e|⟨rfl,e⟩
  ·obtain⟨v,h1,h2⟩:=h.pl j d e
   exact⟨v,h1,Rp.same so _ h2⟩
  ·obtain⟨a,h1,h2,h3,h4⟩:=h.ac j d e
   refine⟨_,h1,h4.rp so λo eo=>?_⟩
   rw[Offs.get]
   ·exact eo
   ·rintro(z|⟨k,d',z1,z2⟩)
    ·exact h3 z
    ·obtain⟨z1,z3⟩:=zlg z1
     exact z3 (h.inj k j d' d a z1 e z2 h1)
 ·obtain⟨a,h1,h2,h3,h4⟩:=h.ac j d (zlg e).1
  exact⟨a,h1,h2,h3,h4.same so λo z=>z⟩
theorem EnvOk.frzs{fx:Addr->Prop}{H0:Hp}{σ:St}{H:Hp}:∀(bs:List Nat){env:DEnv},EnvOk fx H0 env σ H->EnvOk fx H0 (frzs env bs) σ H
 | [],_,h=>h
 | i::bs,_,h=>EnvOk.frzs bs (h.frz1 i)
theorem zyz:∀{bs:List Nat}{env:DEnv}{j:Nat}{d:PyData},(frzs env bs)[j]?=some (.ac d)->env[j]?=some (.ac d)/\j∉bs
 | [],_,_,_,h=>⟨h,by simp⟩
 | i::bs,env,j,d,h=>by
  obtain⟨h1,h2⟩:=zyz (bs:=bs) h
  obtain⟨h3,h4⟩:=zlg h1
  exact⟨h3,by simp[h4,h2]⟩
theorem zgo{fx:Addr->Prop}{env:DEnv}{σ:St}{bs:List Nat}:∀a,fx a\/own (frzs env bs) σ a->lim fx env σ bs a:=by
 rintro a (z|⟨i,d,h1,h2⟩)
 ·exact .inl z
 ·obtain⟨h3,h4⟩:=zyz h1
  exact .inr ⟨i,d,h4,h3,h2⟩
theorem zuk{env:DEnv}{σ:St}{i:Nat}{d:PyData}{v:V}:∀a,own (env.set i (.pl d)) (σ.set i (some v)) a->own env σ a:=by
 rintro a ⟨j,e,h1,h2⟩
 rcases zcv h1 with⟨_,z⟩|⟨ne,h1⟩
 ·cases z
 ·rcases zcv h2 with⟨z,_⟩|⟨_,h2⟩
  ·exact absurd z ne
  ·exact⟨j,e,h1,h2⟩
theorem EnvOk.setPl{fx:Addr->Prop}{H0:Hp}{env:DEnv}{σ:St}{H:Hp}(h:EnvOk fx H0 env σ H)(i:Nat){d:PyData}{v:V}(r:Rp (Offs (λa=>fx a\/own env σ a) H) d v):EnvOk fx H0 (env.set i (.pl d)) (σ.set i (some v)) H:=by
 have so:Same (Offs (λa=>fx a\/own env σ a) H) (Offs (λa=>fx a\/own (env.set i (.pl d)) (σ.set i (some v)) a) H):=Offs.sub λb z=>z.imp (λy=>y) (zuk b)
 have kept:∀{j:Nat},j≠i->(σ.set i (some v))[j]?=σ[j]?:=λ{j} n=>qG λz=>n z.symm
 refine⟨by rw[qe,qe];exact h.len,λj e hj=>?_,λj e hj=>?_,λj k d1 d2 a h1 h2 h3 h4=>?_,h.base,h.fxs⟩
 ·rcases zcv hj with⟨rfl,z⟩|⟨ne,hj'⟩
  ·cases z
   have hl:j<env.length:=by have:=(qb.mp hj).1;rwa [qe]at this
   exact⟨v,by rw[qt (by rw[<- h.len];exact hl)],Rp.same so _ r⟩
  ·obtain⟨u,h1,h2⟩:=h.pl j e hj'
   exact⟨u,by rw[kept ne];exact h1,Rp.same so _ h2⟩
 ·rcases zcv hj with⟨_,z⟩|⟨ne,hj'⟩
  ·cases z
  ·obtain⟨a,h1,h2,h3,h4⟩:=h.ac j e hj'
   exact⟨a,by rw[kept ne];exact h1,h2,h3,h4.same so λo z=>z⟩
 ·rcases zcv h1 with⟨_,z⟩|⟨n1,h1⟩
  ·cases z
  rcases zcv h2 with⟨_,z⟩|⟨n2,h2⟩
  ·cases z
  rw[kept n1]at h3
  rw[kept n2]at h4
  exact h.inj j k d1 d2 a h1 h2 h3 h4
theorem EnvOk.setAc {fx:Addr->Prop} {H0:Hp} {env:DEnv} {σ:St} {H:Hp} {a:Addr} (h:EnvOk (λb=>fx b\/b=a) H0 env σ H) (i:Nat) {d:PyData} (r:zff (Offs (λb=>(fx b\/own env σ b)\/b=a) H) H a d) (h0:H0 a=none) (hf:¬fx a) :
  EnvOk fx H0 (env.set i (.ac d)) (σ.set i (some (.ref a))) H:=by
 have kept:∀{j:Nat},j≠i->(σ.set i (some (V.ref a)))[j]?=σ[j]?:=λ{j} n=>qG λz=>n z.symm
 have sub:∀b,fx b\/own (env.set i (.ac d)) (σ.set i (some (.ref a))) b->(fx b\/b=a)\/own env σ b:=by
  rintro b (z|⟨j,e,h1,h2⟩)
  ·exact .inl (.inl z)
  ·rcases zcv h1 with⟨rfl,z⟩|⟨ne,h1⟩
   ·have hl:j<env.length:=by have:=(qb.mp ‹(env.set j (.ac d))[j]?=_›).1;rwa [qe]at this
    rw[qt (by rw[<- h.len];exact hl)]at h2
    cases h2
    exact .inl (.inr rfl)
   ·rw[kept ne]at h2
    exact .inr ⟨j,e,h1,h2⟩
 have so:Same (Offs (λb=>(fx b\/b=a)\/own env σ b) H) (Offs (λb=>fx b\/own (env.set i (.ac d)) (σ.set i (some (.ref a))) b) H):=Offs.sub sub
 have so2:Same (Offs (λb=>(fx b\/own env σ b)\/b=a) H) (Offs (λb=>fx b\/own (env.set i (.ac d)) (σ.set i (some (.ref a))) b) H):=Offs.sub λb z=>by
  rcases sub b z with(y|y)|y
  ·exact .inl (.inl y)
  ·exact .inr y
  ·exact .inl (.inr y)
 refine⟨by rw[qe,qe];exact h.len,λj e hj=>?_,λj e hj=>?_,λj k d1 d2 b h1 h2 h3 h4=>?_,h.base,λb z=>h.fxs b (.inl z)⟩
 ·rcases zcv hj with⟨_,z⟩|⟨ne,hj'⟩
  ·cases z
  ·obtain⟨u,h1,h2⟩:=h.pl j e hj'
   exact⟨u,by rw[kept ne];exact h1,Rp.same so _ h2⟩
 ·rcases zcv hj with⟨rfl,z⟩|⟨ne,hj'⟩
  ·cases z
   have hl:j<env.length:=by have:=(qb.mp hj).1;rwa [qe]at this
   exact⟨a,by rw[qt (by rw[<- h.len];exact hl)],h0,hf,r.same so2 λo z=>z⟩
  ·obtain⟨b,h1,h2,h3,h4⟩:=h.ac j e hj'
   exact⟨b,by rw[kept ne];exact h1,h2,λz=>h3 (.inl z),h4.same so λo z=>z⟩
 ·rcases zcv h1 with⟨e1,z1⟩|⟨n1,h1'⟩<;>rcases zcv h2 with⟨e2,z2⟩|⟨n2,h2'⟩
  ·rw[e1,e2]
  ·subst e1
   have hl:j<env.length:=by have:=(qb.mp h1).1;rwa [qe]at this
   rw[qt (by rw[<- h.len];exact hl)]at h3
   rw[kept n2]at h4
   cases h3
   obtain⟨b,g1,g2,g3,g4⟩:=h.ac k d2 h2'
   rw[h4]at g1
   cases g1
   exact absurd (.inr rfl) g3
  ·subst e2
   have hl:k<env.length:=by have:=(qb.mp h2).1;rwa [qe]at this
   rw[qt (by rw[<- h.len];exact hl)]at h4
   rw[kept n1]at h3
   cases h4
   obtain⟨b,g1,g2,g3,g4⟩:=h.ac j d1 h1'
   rw[h3]at g1
   cases g1
   exact absurd (.inr rfl) g3
  ·rw[kept n1]at h3
   rw[kept n2]at h4
   exact h.inj j k d1 d2 b h1' h2' h3 h4
noncomputable def slOf(r:Val):Sl:=if r.fr=true then .ac r.d else .pl r.d
noncomputable def putV(env:DEnv)(i:Nat)(r:Val):DEnv:=(frzs env r.bs).set i (slOf r)
theorem EnvOk.put{fx:Addr->Prop}{H0:Hp}{env:DEnv}{σ:St}{H H':Hp}(h:EnvOk fx H0 env σ H)(s:Same H H'){r:Val}{v:V}(hv:ValOk (lim fx env σ r.bs) H H' r v)(i:Nat):EnvOk fx H0 (putV env i r) (σ.set i (some v)) H':=by
 unfold putV slOf
 cases e:r.fr with
 | false=>
  rw[if_neg qK]
  exact((h.up s).frzs r.bs).setPl i (Rp.same (Offs.sub zgo) _ hv.rp)
 | true=>
  rw[if_pos rfl]
  obtain⟨a,rfl,ha,hacc⟩:=hv.fr e
  have nfx:¬fx a:=zfg h.fxs ha
  have g:EnvOk (λb=>fx b\/b=a) H0 env σ H':=h.grow s (λb o eo n z=>z.elim n λy=>by rw[y,ha]at eo;cases eo) λb z=>by
   rcases z with z|z
   ·obtain⟨o,eo⟩:=h.fxs b z;exact⟨o,s b o eo⟩
   ·rw[z];exact hacc.ex
  refine(g.frzs r.bs).setAc i (hacc.same (Offs.sub λb z=>?_) λo z=>z) (h.base.free ha) nfx
  rcases z with z|z
  ·exact .inl (zgo b z)
  ·exact .inr z
noncomputable def sNil:SF:=λenv=>some (.nx env)
noncomputable def sSeq(f g:SF):SF:=λenv=>(f env).bind λo=>match o with
 | .nx env'=>g env'
 | o=>some o
theorem zmz:SS tNext sNil:=by
 intro fx H0 env σ H D h o e q
 cases e
 exact q σ H h
theorem zdo{t u:TS}{f g:SF}(h1:SS t f)(h2:SS u g):SS (tSeq t u) (sSeq f g):=by
 intro fx H0 env σ H D h o e q
 unfold sSeq at e
 obtain⟨o1,e1,e⟩:=qA.mp e
 refine h1 fx H0 env σ H _ h o1 e1 ?_
 cases o1 with
 | nx env'=>exact λσ' H' h'=>h2 fx H0 env' σ' H' D h' o e q
 | bk env'=>cases e;exact q
 | ct env'=>cases e;exact q
 | rt d fr=>cases e;exact q
noncomputable def sRet(f:EF):SF:=λenv=>(f env).map λr=>.rt r.d r.fr
theorem zgy{te:TE}{f:EF}(h1:SE te f):SS (tRet te) (sRet f):=by
 intro fx H0 env σ H D h o e q
 unfold sRet at e
 obtain⟨r,er,rfl⟩:=qE.mp e
 refine h1 fx H0 env σ H h r er _ λv H' s hv=>q v H' (h.base.trans s) ⟨Rp.same (Offs.sub λb z=>.inl z) _ hv.rp,λz=>?_⟩
 obtain⟨a,g1,g2,g3⟩:=hv.fr z
 exact⟨a,g1,h.base.free g2,g3.same (Offs.sub λb y=>y.imp .inl id) λo z=>z⟩
noncomputable def zkc(i:Nat):SF:=λenv=>match env[i]? with
 | some (.pl d)=>some (.rt d false)
 | some (.ac d)=>some (.rt d true)
 | _=>none
theorem zul{i:Nat}:SS (tRet (tVar i)) (zkc i):=by
 intro fx H0 env σ H D h o e q
 unfold zkc at e
 cases ei:env[i]? with
 | none=>rw[ei]at e;cases e
 | some sl=>
  rw[ei]at e
  cases sl with
  | no=>cases e
  | pl d=>
   cases e
   obtain⟨v,h1,h2⟩:=h.pl i d ei
   exact⟨v,h1,q v H h.base ⟨Rp.same (Offs.sub λb z=>.inl z) _ h2,λz=>by cases z⟩⟩
  | ac d=>
   cases e
   obtain⟨a,h1,h2,h3,h4⟩:=h.ac i d ei
   refine⟨_,h1,q _ H h.base ⟨h4.rp (Offs.sub λb z=>.inl z) λo eo=>by rw[Offs.get h3];exact eo,λ_=>⟨a,rfl,h2,h4.same (Offs.sub λb z=>?_) λo z=>z⟩⟩⟩
   rcases z with z|z
   ·exact .inl z
   ·rw[z];exact .inr ⟨i,d,ei,h1⟩
noncomputable def sIf(c:TF)(f g:SF):SF:=λenv=>(c env).bind λb=>if b=true then f env else g env
theorem zum{tc:TT}{t u:TS}{c:TF}{f g:SF}(hc:ST tc c)(h1:SS t f)(h2:SS u g):SS (tIfS tc t u) (sIf c f g):=by
 intro fx H0 env σ H D h o e q
 unfold sIf at e
 obtain⟨b,eb,e⟩:=qA.mp e
 refine hc fx H0 env σ H h b eb _ λH' s=>?_
 cases b with
 | true=>exact iteT (h1 fx H0 env σ H' D (h.up s) o e q)
 | false=>exact iteF (h2 fx H0 env σ H' D (h.up s) o e q)
noncomputable def sSet(i:Nat)(f:EF):SF:=λenv=>(f env).map λr=>.nx (putV env i r)
theorem zlo{te:TE}{f:EF}{i:Nat}(h1:SE te f):SS (tAsg te (gName i)) (sSet i f):=by
 intro fx H0 env σ H D h o e q
 unfold sSet at e
 obtain⟨r,er,rfl⟩:=qE.mp e
 exact h1 fx H0 env σ H h r er _ λv H' s hv=>q _ H' (h.put s hv i)
noncomputable abbrev GT:=PyData->DEnv->Option DEnv
noncomputable def SG(g:TG)(f:GT):Prop:=∀(fx:Addr->Prop)(H0:Hp)(env:DEnv)(σ:St)(H:Hp)(d:PyData)(v:V),EnvOk fx H0 env σ H->Rp (Offs (λa=>fx a\/own env σ a) H) d v->∀env',f d env=some env'->∀Q:St->Hp->Prop,
 (∀σ',EnvOk fx H0 env' σ' H->Q σ' H)->g v σ H Q
noncomputable abbrev GTs:=List PyData->DEnv->Option DEnv
noncomputable def SGs(g:TGs)(f:GTs):Prop:=∀(fx:Addr->Prop)(H0:Hp)(env:DEnv)(σ:St)(H:Hp)(ds:List PyData)(vs:List V),EnvOk fx H0 env σ H->Rps (Offs (λa=>fx a\/own env σ a) H) ds vs->∀env',f ds env=some env'->∀Q:St->Hp->Prop,
 (∀σ',EnvOk fx H0 env' σ' H->Q σ' H)->g vs σ H Q
noncomputable def gN(i:Nat):GT:=λd env=>some (env.set i (.pl d))
theorem zfi{i:Nat}:SG (gName i) (gN i):=by
 intro fx H0 env σ H d v h r env' e Q q
 cases e
 exact q _ (h.setPl i r)
noncomputable def zeg:GTs:=λds env=>match ds with|[]=>some env|_=>none
noncomputable def zax(i:Nat)(g:GTs):GTs:=λds env=>match ds with|d::r=>g r (env.set i (.pl d))|[]=>none
theorem zgz:SGs gNil zeg:=by
 intro fx H0 env σ H ds vs h r env' e Q q
 cases ds with
 | nil=>cases e;unfold Rps at r;exact⟨r,q _ h⟩
 | cons _ _=>cases e
theorem zbh{i:Nat}{t:TGs}{g:GTs}(h1:SGs t g):SGs (gCons (gName i) t) (zax i g):=by
 intro fx H0 env σ H ds vs h r env' e Q q
 cases ds with
 | nil=>cases e
 | cons d ds=>
  unfold Rps at r
  obtain⟨v,ws,rfl,r1,r2⟩:=r
  refine⟨v,ws,rfl,h1 fx H0 (env.set i (.pl d)) _ H ds ws (h.setPl i r1) (Rps.same (Offs.sub λb z=>z.imp (λy=>y) (zuk b)) _ r2) env' e Q q⟩
noncomputable def gT(n:Nat)(g:GTs):GT:=λd env=>match d with|.tuple ds=>if ds.length=n then g ds env else none|_=>none
theorem ziv{K:qD}{n:Nat}{t:TGs}{g:GTs}(h1:SGs t g):SG (gTup K n t) (gT n g):=by
 intro fx H0 env σ H d v h r env' e Q q
 unfold gT at e
 cases d with
 | tuple ds=>
  have e:(if ds.length=n then g ds env else none)=some env':=e
  split at e
  ·rename_i hn
   obtain⟨a,xs,rfl,ha,rs⟩:=zdt r
   exact⟨a,xs,rfl,SqT.of (zgc ha),by rw[<- rs.length];exact hn,h1 fx H0 env σ H ds xs h rs env' e Q q⟩
  ·cases e
 | _=>cases e
noncomputable def sAsg(f:EF)(g:GT):SF:=λenv=>(f env).bind λr=>(g r.d (frzs env r.bs)).map .nx
theorem zza{te:TE}{f:EF}{g:TG}{gf:GT}(h1:SE te f)(h2:SG g gf):SS (tAsg te g) (sAsg f gf):=by
 intro fx H0 env σ H D h o e q
 unfold sAsg at e
 obtain⟨r,er,e⟩:=qA.mp e
 obtain⟨env',e',rfl⟩:=qE.mp e
 exact h1 fx H0 env σ H h r er _ λv H' s hv=>h2 fx H0 _ σ H' r.d v ((h.up s).frzs r.bs) (Rp.same (Offs.sub zgo) _ hv.rp) env' e' _ λσ' h'=>q σ' H' h'
theorem EnvOk.mut{fx:Addr->Prop}{H0:Hp}{env:DEnv}{σ:St}{H:Hp}(h:EnvOk fx H0 env σ H){i:Nat}{d d':PyData}{a:Addr}{o:HO}(e:env[i]?=some (.ac d))(ea:σ[i]?=some (some (.ref a)))
  (r:zff (Offs (λb=>fx b\/own env σ b) H) (upd H a o) a d'):EnvOk fx H0 (env.set i (.ac d')) σ (upd H a o):=by
 have hl:i<env.length:=(qb.mp e).1
 have oa:own env σ a:=⟨i,d,e,ea⟩
 have ow:∀b,own (env.set i (.ac d')) σ b↔own env σ b:=by
  intro b
  constructor
  ·rintro⟨j,d1,h1,h2⟩
   rcases zcv h1 with⟨rfl,z⟩|⟨ne,h1⟩
   ·exact⟨j,d,e,h2⟩
   ·exact⟨j,d1,h1,h2⟩
  ·rintro⟨j,d1,h1,h2⟩
   by_cases hj:j=i
   ·subst hj;exact⟨j,d',by rw[qt hl],h2⟩
   ·exact⟨j,d1,by rw[qG λz=>hj z.symm];exact h1,h2⟩
 have so:Same (Offs (λb=>fx b\/own env σ b) H) (Offs (λb=>fx b\/own (env.set i (.ac d')) σ b) (upd H a o)):=by
  have:Same (Offs (λb=>fx b\/own env σ b) (upd H a o)) (Offs (λb=>fx b\/own (env.set i (.ac d')) σ b) (upd H a o)):=Offs.sub λb z=>z.imp (λy=>y) (ow b).mp
  rw[Offs.upd (.inr oa)]at this
  exact this
 obtain⟨a',g1,g2,g3,g4⟩:=h.ac i d e
 rw[ea]at g1
 cases g1
 refine⟨by rw[qe];exact h.len,λj d1 hj=>?_,λj d1 hj=>?_,λj k d1 d2 b h1 h2 h3 h4=>?_,λb u eb=>by rw[zbs (zek eb g2)];exact h.base b u eb,λb z=>?_⟩
 ·rcases zcv hj with⟨_,z⟩|⟨ne,hj'⟩
  ·cases z
  ·obtain⟨u,h1,h2⟩:=h.pl j d1 hj'
   exact⟨u,h1,Rp.same so _ h2⟩
 ·rcases zcv hj with⟨rfl,z⟩|⟨ne,hj'⟩
  ·cases z
   exact⟨a,ea,g2,g3,r.same so λo z=>z⟩
  ·obtain⟨b,h1,h2,h3,h4⟩:=h.ac j d1 hj'
   refine⟨b,h1,h2,h3,h4.same so λo' z=>?_⟩
   rw[zbs λy=>ne (h.inj j i d1 d a hj' e (by rw[<- y];exact h1) ea)]
   exact z
 ·have f:∀{j:Nat}{d1:PyData},(env.set i (.ac d'))[j]?=some (.ac d1)->∃d2,env[j]?=some (.ac d2):=λ{j d1} hj=>by
   rcases zcv hj with⟨rfl,z⟩|⟨ne,hj'⟩
   ·exact⟨d,e⟩
   ·exact⟨d1,hj'⟩
  obtain⟨e1,h1⟩:=f h1
  obtain⟨e2,h2⟩:=f h2
  exact h.inj j k e1 e2 b h1 h2 h3 h4
 ·obtain⟨u,eu⟩:=h.fxs b z
  exact⟨u,by rw[zbs λy=>g3 (by rw[<- y];exact z)];exact eu⟩
noncomputable def sApp(i:Nat)(f:EF):SF:=λenv=>match env[i]? with
 | some (.ac (.list ds))=>(f env).bind λr=>if ds.length<100000/\i∉r.bs then some (.nx ((frzs env r.bs).set i (.ac (.list (ds++[r.d])))))else none
 | _=>none
theorem zie{env:DEnv}{i:Nat}{d:PyData}:∀{bs:List Nat},i∉bs->env[i]?=some (.ac d)->(frzs env bs)[i]?=some (.ac d):=by
 intro bs
 induction bs generalizing env with
 | nil=>intro _ e;exact e
 | cons j bs ih=>
  intro hn e
  have hj:i≠j:=λz=>hn (by simp[z])
  refine ih (λz=>hn (qL _ z)) ?_
  unfold frz1
  split
  ·rw[qG λz=>hj z.symm];exact e
  ·exact e
theorem zzb{K:qD}{i:Nat}{te:TE}{f:EF}(h1:SE te f):SS (tDrop (tBM K "list" zld (tVar i) (tCons te tNil))) (sApp i f):=by
 intro fx H0 env σ H D h o e q
 unfold sApp at e
 split at e
 ·rename_i ds ei
  obtain⟨r,er,e⟩:=qA.mp e
  split at e
  ·rename_i hl
   cases e
   obtain⟨a,g1,g2,g3,g4⟩:=h.ac i _ ei
   obtain⟨xs,hx,rx⟩:=g4
   refine⟨_,g1,.inl ⟨rfl,_,SqL.of hx⟩,h1 fx H0 env σ H h r er _ λv H' s hv=>?_⟩
   have h':=(h.up s).frzs r.bs
   have ei':=zie hl.2 ei
   have hx':=s _ _ hx
   have rx':Rps (Offs (λb=>fx b\/own (frzs env r.bs) σ b) H') ds xs:=by
    obtain⟨a',z1,_,_,z4⟩:=h'.ac i _ ei'
    rw[g1]at z1
    cases z1
    obtain⟨ys,y1,y2⟩:=z4
    rw[hx']at y1
    cases y1
    exact y2
   refine⟨a,xs,v,rfl,rfl,hx',zjy (by rw[<- rx.length];exact hl.1),?_⟩
   refine q σ _ (h'.mut ei' g1 ⟨_,zbk,rx'.append (zby (Rp.same (Offs.sub zgo) _ hv.rp) zca)⟩)
  ·cases e
 ·cases e
theorem EnvOk.rebase{fx:Addr->Prop}{H0:Hp}{env:DEnv}{σ:St}{H:Hp}(h:EnvOk fx H0 env σ H):EnvOk fx (Offs (own env σ) H) env σ H:=by
 refine⟨h.len,h.pl,λi d e=>?_,h.inj,Offs.same _ _,h.fxs⟩
 obtain⟨a,h1,h2,h3,h4⟩:=h.ac i d e
 exact⟨a,h1,Offs.out ⟨i,d,e,h1⟩,h3,h4⟩
theorem EnvOk.floor{fx:Addr->Prop}{H0:Hp}{env:DEnv}{σ:St}{H:Hp}(h:EnvOk fx H0 env σ H):Same H0 (Offs (own env σ) H):=λb o e=>by
 rw[Offs.get]
 ·exact h.base b o e
 ·rintro⟨i,d,h1,h2⟩
  obtain⟨a,g1,g2,_⟩:=h.ac i d h1
  rw[h2]at g1
  cases g1
  rw[g2]at e
  cases e
theorem EnvOk.unbase{fx:Addr->Prop}{H0 F:Hp}{env:DEnv}{σ:St}{H:Hp}(h:EnvOk fx F env σ H)(s:Same H0 F):EnvOk fx H0 env σ H:=by
 refine⟨h.len,h.pl,λi d e=>?_,h.inj,s.trans h.base,h.fxs⟩
 obtain⟨a,h1,h2,h3,h4⟩:=h.ac i d e
 exact⟨a,h1,s.free h2,h3,h4⟩
theorem zsm.unbase{fx:Addr->Prop}{H0 F:Hp}{d:PyData}{fr:Bool}{v:V}{H:Hp}(h:zsm fx F d fr v H)(s:Same H0 F):zsm fx H0 d fr v H:=
 ⟨h.1,λe=>let⟨a,h1,h2,h3⟩:=h.2 e;⟨a,h1,s.free h2,h3⟩⟩
theorem EnvOk.seen{fx:Addr->Prop}{env env':DEnv}{σ σ':St}{H H':Hp}(h:EnvOk fx (Offs (own env σ) H) env' σ' H'):Same (Offs (λb=>fx b\/own env σ b) H) (Offs (λb=>fx b\/own env' σ' b) H'):=λb o e=>by
 obtain⟨h1,h2⟩:=Offs.of e
 have hF:Offs (own env σ) H b=some o:=by rw[Offs.get λz=>h1 (.inr z)];exact h2
 rw[Offs.get]
 ·exact h.base b o hF
 ·rintro(z|⟨i,d,g1,g2⟩)
  ·exact h1 (.inl z)
  ·obtain⟨a,k1,k2,_⟩:=h.ac i d g1
   rw[g2]at k1
   cases k1
   rw[k2]at hF
   cases hF
theorem EnvOk.all{fx:Addr->Prop}{H0:Hp}{env:DEnv}{σ:St}{H:Hp}(h:EnvOk fx H0 env σ H):∀b,fx b\/own env σ b->∃o,H b=some o:=λb z=>h.lims [] b (zyp b z)
noncomputable def Yl(A0:Addr->Prop)(H1:Hp)(J:It)(ds:List PyData):Prop:=∀(A:Addr->Prop)(H':Hp),(∀b,A b->∃o,H' b=some o)->Same (Offs A0 H1) (Offs A H')->
 (∀i d,ds[i]?=some d->J.go i H'/\∀x H'',J.yld i H' x H''->Same H' H''/\Rp (Offs A H'') d x)/\J.stop ds.length H'
noncomputable abbrev IF':=DEnv->Option (List PyData×List Nat)
noncomputable def SI(wi:TI)(f:IF'):Prop:=∀(fx:Addr->Prop)(H0:Hp)(env:DEnv)(σ:St)(H:Hp),EnvOk fx H0 env σ H->∀ds bs,f env=some (ds,bs)->∀R:It->Hp->Prop,
 (∀J H1,Same H H1->Yl (λb=>fx b\/own (frzs env bs) σ b) H1 J ds->R J H1)->wi σ H R
noncomputable def iSeq(K:qD)(te:TE):TI:=λσ H R=>te σ H λx H1=>∃a,x=.ref a/\((∃xs,SqL K H1 a xs)/\R (Itl K a) H1\/(∃xs,SqT K H1 a xs)/\R (Itt K a) H1)
theorem zail{X:Cx}{tg l:Expr}{tl:TE}(hl:PE X l tl):PI X tg l (iSeq X.K tl):=by
 intro pins s σ H R I h
 refine thn (hl pins s σ H _ I h) λv s1 ⟨x,H1,I1,r1,q1⟩=>?_
 obtain⟨a,e,q⟩:=q1
 subst e
 cases r1
 rcases q with⟨⟨xs,hq⟩,q⟩|⟨⟨xs,hq⟩,q⟩
 ·obtain⟨its,rv,p,hz⟩:=I1.list hq
  refine wpAny_pyIter_list p.isList ?_
  refine⟨s1.heap.objs.size,[s1.heap.objs.size],_,_,H1,rfl,I1.kept (t':=s1.toks) λb o e=>qg _ e,zxx a _,⟨_,qAQ _ rfl,rfl,rfl⟩,λb hb=>?_,q⟩
  have e:b=s1.heap.objs.size:=by simpa using hb
  subst e
  exact I1.fpOk (qI _) (I1.hok.fresh (qI _))
 ·obtain⟨its,rv,p,hz⟩:=I1.tuple hq
  refine wpAny_pyIter_tuple (show s1.heap.IsTuple a its.toArray from p) ?_
  refine⟨s1.heap.objs.size,[s1.heap.objs.size],_,_,H1,rfl,I1.kept (t':=s1.toks) λb o e=>qg _ e,zwr a _,⟨_,qAQ _ rfl,rfl,rfl⟩,λb hb=>?_,q⟩
  have e:b=s1.heap.objs.size:=by simpa using hb
  subst e
  exact I1.fpOk (qI _) (I1.hok.fresh (qI _))
theorem zafd{X:Cx}{K:qD}(hK:X.K=K){tg l:Expr}{tl:TE}(hl:PE X l tl):PI X tg l (iSeq K tl):=by subst hK;exact zail hl
noncomputable def zbg(f:EF):IF':=λenv=>(f env).bind λr=>(zkl r.d).map λds=>(ds,r.bs)
theorem zafe{K:qD}{A0:Addr->Prop}{H1:Hp}{a:Addr}{ds:List PyData}{xs:List V}(h:Offs A0 H1 a=some (.lst xs))(r:Rps (Offs A0 H1) ds xs):Yl A0 H1 (Itl K a) ds:=by
 intro A H' hA s
 have ha:=zgc (s _ _ h)
 have r':=Rps.same s _ r
 refine⟨λi d e=>?_,⟨xs,SqL.of ha,by rw[r.length];exact qI _⟩⟩
 obtain⟨v,hv,rv⟩:=r'.get2 e
 refine⟨⟨xs,v,SqL.of ha,hv⟩,λx H'' y=>?_⟩
 obtain⟨rfl,y⟩:=y
 have:=y xs (SqL.of ha)
 rw[hv]at this
 cases this
 exact⟨Same.refl _,rv⟩
theorem zaim{K:qD}{A0:Addr->Prop}{H1:Hp}{a:Addr}{ds:List PyData}{xs:List V}(h:Offs A0 H1 a=some (.tup xs))(r:Rps (Offs A0 H1) ds xs):Yl A0 H1 (Itt K a) ds:=by
 intro A H' hA s
 have ha:=zgc (s _ _ h)
 have r':=Rps.same s _ r
 refine⟨λi d e=>?_,⟨xs,SqT.of ha,by rw[r.length];exact qI _⟩⟩
 obtain⟨v,hv,rv⟩:=r'.get2 e
 refine⟨⟨xs,v,SqT.of ha,hv⟩,λx H'' y=>?_⟩
 obtain⟨rfl,y⟩:=y
 have:=y xs (SqT.of ha)
 rw[hv]at this
 cases this
 exact⟨Same.refl _,rv⟩
theorem zdc{K:qD}{te:TE}{f:EF}(h1:SE te f):SI (iSeq K te) (zbg f):=by
 intro fx H0 env σ H h ds bs e R q
 unfold zbg at e
 obtain⟨⟨d,fr,bs'⟩,er,e⟩:=qA.mp e
 obtain⟨es,he,e⟩:=qE.mp e
 cases e
 refine h1 fx H0 env σ H h _ er _ λv H1 s hv=>?_
 have rp:=Rp.same (Offs.sub (zgo (bs:=bs'))) _ hv.rp
 cases d with
 | list ds=>
  cases he
  obtain⟨a,xs,rfl,ha,r⟩:=zfe rp
  exact⟨a,rfl,.inl ⟨⟨xs,SqL.of (zgc ha)⟩,q _ H1 s (zafe ha r)⟩⟩
 | tuple ds=>
  cases he
  obtain⟨a,xs,rfl,ha,r⟩:=zdt rp
  exact⟨a,rfl,.inr ⟨⟨xs,SqT.of (zgc ha)⟩,q _ H1 s (zaim ha r)⟩⟩
 | _=>cases he
noncomputable def zakw(ds:List PyData):List PyData:=ds.zipIdx.map λp=>.tuple [.int p.2,p.1]
noncomputable def zalf(f:AF):IF':=λenv=>(f env).bind λrs=>match rs with
 | [r]=>match r.d with
  | .list ds=>some (zakw ds,r.bs)
  | _=>none
 | _=>none
noncomputable def zna(lo:Int)(n:Nat):List PyData:=(List.range n).map λ(k:Nat)=>.int (lo+(k:Int))
theorem zabv{A0:Addr->Prop}{H1:Hp}{lo:Int}{n:Nat}:Yl A0 H1 (Itr lo n) (zna lo n):=by
 intro A H' hA s
 have hl:(zna lo n).length=n:=by unfold zna;simp
 refine⟨λi d e=>?_,by rw[hl];exact qI _⟩
 unfold zna at e
 rw[qa]at e
 by_cases hi:i<n
 ·rw[List.getElem?_range hi]at e
  cases e
  exact⟨hi,λx H'' ⟨e1,e2⟩=>by subst e1;subst e2;exact⟨Same.refl _,zaa⟩⟩
 ·rw[qBa (by simpa using hi)]at e
  cases e
noncomputable def zcw(f:AF):IF':=λenv=>(f env).bind λrs=>match rs with
 | [⟨.int j,_,_⟩]=>if -(2 ^ 62)<=j/\j<2 ^ 62 then some (zna 0 j.toNat,[])else none
 | _=>none
theorem zet{ta:TA}{f:AF}(h1:SA ta f):SI (iRng1 ta) (zcw f):=by
 intro fx H0 env σ H h ds bs e R q
 unfold zcw at e
 obtain⟨rs,er,e⟩:=qA.mp e
 split at e
 ·split at e
  ·rename_i hj
   cases e
   refine h1 fx H0 env σ H h _ er _ λvs H1 s hv=>?_
   cases hv with
   | cons hv t=>
    cases t
    cases zcj hv.rp
    exact⟨_,rfl,hj.1,hj.2,q _ H1 s zabv⟩
  ·cases e
 ·cases e
noncomputable def forL(g:GT)(body:SF):List PyData->DEnv->Option Out
 | [],env=>some (.nx env)
 | d::ds,env=>(g d env).bind λe1=>(body e1).bind λo=>match o with
  | .nx e2=>forL g body ds e2
  | .ct e2=>forL g body ds e2
  | .bk e2=>some (.nx e2)
  | .rt d fr=>some (.rt d fr)
noncomputable def sFor(f:IF')(g:GT)(body:SF):SF:=λenv=>(f env).bind λz=>forL g body z.1 (frzs env z.2)
theorem zvw{wi:TI}{g:TG}{tb:TS}{f:IF'}{gf:GT}{body:SF}(h1:SI wi f)(h2:SG g gf)(h3:SS tb body):SS (tFor wi g tb) (sFor f gf body):=by
 intro fx H0 env σ H D h o e q
 unfold sFor at e
 obtain⟨⟨ds,bs⟩,er,e⟩:=qA.mp e
 refine h1 fx H0 env σ H h ds bs er _ λJ H1 s yl=>?_
 have hE:=(h.up s).frzs bs
 have fl:=hE.floor
 refine⟨λi m σ' H'=>m=ds.length - i/\i<=ds.length/\∃env',forL gf body (ds.drop i) env'=some o/\EnvOk fx (Offs (own (frzs env bs) σ) H1) env' σ' H',⟨ds.length,rfl,qAR _,_,e,hE.rebase⟩,?_⟩
 rintro i m σ' H' ⟨rfl,hi,env',e',h'⟩
 obtain⟨yi,ys⟩:=yl _ H' h'.all h'.seen
 by_cases hlt:i<ds.length
 ·obtain⟨yg,yy⟩:=yi i ds[i] (qN hlt)
  refine .inr ⟨yg,λσ'' H''=>i+1<=ds.length/\∃env'',forL gf body (ds.drop (i+1)) env''=some o/\EnvOk fx (Offs (own (frzs env bs) σ) H1) env'' σ'' H'',?_,?_⟩
  ·rintro σ'' H'' ⟨hle,env'',e'',h''⟩
   exact⟨ds.length - (i+1),by omega,rfl,hle,env'',e'',h''⟩
  ·intro x H'' hy
   obtain⟨sy,ry⟩:=yy x H'' hy
   rw[qAL hlt]at e'
   obtain⟨e1,ee1,e'⟩:=qA.mp e'
   obtain⟨o1,eo1,e'⟩:=qA.mp e'
   refine h2 fx _ env' σ' H'' _ x (h'.up sy) ry e1 ee1 _ λσ2 h2'=>h3 fx _ e1 σ2 H'' _ h2' o1 eo1 ?_
   cases o1 with
   | nx e2=>exact λσ3 H3 hh=>⟨hlt,e2,e',hh⟩
   | ct e2=>exact λσ3 H3 hh=>⟨hlt,e2,e',hh⟩
   | bk e2=>cases e';exact λσ3 H3 hh=>q σ3 H3 (hh.unbase fl)
   | rt d fr=>cases e';exact λv H3 sh rt=>q v H3 (fl.trans sh) (rt.unbase fl)
 ·have hi':i=ds.length:=by omega
  subst hi'
  rw[qAa]at e'
  cases e'
  exact .inl ⟨ys,q σ' H' (h'.unbase fl)⟩
noncomputable def zju(n:Nat)(ds:List PyData):DEnv:=ds.map .pl++List.replicate (n - ds.length) .no
noncomputable def fnD(n:Nat)(f:SF):GF:=λds=>match f (zju n ds)with
 | some (.rt d fr)=>some (d,fr)
 | some (.nx _)=>some (.none,false)
 | _=>none
theorem znb{ds:List PyData}{n i:Nat}{sl:Sl}(e:(zju n ds)[i]?=some sl):(∃d,ds[i]?=some d/\sl=.pl d)\/sl=.no:=by
 unfold zju at e
 by_cases hi:i<ds.length
 ·rw[qAI (by simpa using hi),qa,qN hi]at e
  cases e
  exact .inl ⟨_,qN hi,rfl⟩
 ·rw[qAA (by simpa using hi),qAp]at e
  split at e
  ·cases e;exact .inr rfl
  ·cases e
theorem znc{fx:Addr->Prop}{H:Hp}{N:List Str}{ds:List PyData}{vs:List V}(hf:∀b,fx b->∃o,H b=some o)(r:Rps (Offs fx H) ds vs):EnvOk fx H (zju N.length ds) (zgx N vs) H:=by
 have no:∀(i:Nat)(d:PyData),(zju N.length ds)[i]?≠some (Sl.ac d):=λi d e=>by
  rcases znb e with⟨d',_,z⟩|z<;>cases z
 refine⟨?_,λi d e=>?_,λi d e=>absurd e (no i d),λi j d e a h1=>absurd h1 (no i d),Same.refl _,hf⟩
 ·unfold zju zgx
  rw[qF,qF,qC,qC,qAu,qAu,r.length]
 ·rcases znb e with⟨d',hd,z⟩|z
  ·cases z
   obtain⟨v,hv,rv⟩:=r.get2 hd
   refine⟨v,?_,Rp.same (Offs.sub λb z=>?_) _ rv⟩
   ·unfold zgx
    have hi:i<vs.length:=(qb.mp hv).1
    rw[qAI (by simpa using hi),qa,hv];rfl
   ·rcases z with z|⟨j,d',z,_⟩
    ·exact z
    ·exact absurd z (no j d')
  ·cases z
theorem fn_d{N:List Str}{n:Nat}{f:SF}{t:TS}(hs:SS t f){vs:List V}{H:Hp}{Q:VK}{E:XK}(h:spD n (fnD N.length f) vs H Q E):t {nx:=λ_ H'=>Q .non H',rt:=Q} (zgx N vs) H:=by
 obtain⟨fx,ds,d,fr,hn,hf,r,g,k⟩:=h
 unfold fnD at g
 split at g
 ·rename_i d' fr' eo
  cases g
  exact hs fx H _ _ H _ (znc hf r) _ eo λv H' s rt=>k v H' s rt
 ·rename_i e' eo
  cases g
  exact hs fx H _ _ H _ (znc hf r) _ eo λσ H' hE=>k .non H' hE.base ⟨zlf,λz=>by cases z⟩
 ·cases g
theorem zhn{n:Nat}{g:GF}{vs:List V}{H:Hp}{Q:VK}{E:XK}(h:spD n g vs H Q E):vs.length=n:=by
 obtain⟨fx,ds,d,fr,hn,hf,r,_⟩:=h
 rw[<- r.length];exact hn
noncomputable def zaff:Sl->Sl
 | .ac d=>.pl d
 | s=>s
noncomputable def envB(own:List Str)(fr:List Nat)(env:DEnv):DEnv:=own.map (λ_=>Sl.no)++fr.map (λj=>zaff (env.getD j .no))
noncomputable def isAc:Option Sl->Bool
 | some (.ac _)=>true
 | _=>false
noncomputable def capA(fr:List Nat)(env:DEnv):List Nat:=fr.filter λj=>isAc env[j]?
theorem zmi{own:List Str}{fr:List Nat}{env:DEnv}{i:Nat}{d:PyData}(e:(envB own fr env)[i]?=some (.pl d)):∃j k,i=own.length+k/\fr[k]?=some j/\(env[j]?=some (.pl d)\/env[j]?=some (.ac d)):=by
 unfold envB at e
 by_cases hi:i<own.length
 ·rw[qAI (by simpa using hi),qa,qN hi]at e
  cases e
 ·rw[qAA (by simpa using hi),qC,qa]at e
  cases ej:fr[i - own.length]? with
  | none=>rw[ej]at e;cases e
  | some j=>
   rw[ej]at e
   refine⟨j,i - own.length,by omega,ej,?_⟩
   have e:zaff (env.getD j .no)=.pl d:=qu e
   rw[qx]at e
   cases ev:env[j]? with
   | none=>rw[ev]at e;cases e
   | some s=>
    rw[ev]at e
    cases s with
    | no=>cases e
    | pl d'=>cases e;exact .inl rfl
    | ac d'=>cases e;exact .inr rfl
theorem zha{own:List Str}{fr:List Nat}{env:DEnv}{i:Nat}{d:PyData}:(envB own fr env)[i]?≠some (.ac d):=by
 intro e
 unfold envB at e
 by_cases hi:i<own.length
 ·rw[qAI (by simpa using hi),qa,qN hi]at e
  cases e
 ·rw[qAA (by simpa using hi),qC,qa]at e
  cases ej:fr[i - own.length]? with
  | none=>rw[ej]at e;cases e
  | some j=>
   rw[ej]at e
   have e:zaff (env.getD j .no)=.ac d:=qu e
   cases ev:env.getD j .no with
   | no=>rw[ev]at e;cases e
   | pl d'=>rw[ev]at e;cases e
   | ac d'=>rw[ev]at e;cases e
theorem zun{own:List Str}{fr:List Nat}{σ:St}{k j:Nat}{v:V}(hk:fr[k]?=some j)(hv:σ[j]?=some (some v)):(tau own fr σ)[own.length+k]?=some (some v):=by
 unfold tau
 rw[qAA (by simp),qC,qBV,qa,hk]
 show some (σ.getD j none)=_
 rw[qx,hv];rfl
theorem znd{fx:Addr->Prop}{H0:Hp}{env:DEnv}{σ:St}{H H1:Hp}{p:Addr}(h:EnvOk fx H0 env σ H)(s:Same H H1)(hp:H1 p=none)(own:List Str)(fr:List Nat)(bs:List Nat) :
  EnvOk (λb=>lim fx env σ (bs++capA fr env) b\/b=p) H1 (envB own fr env) (tau own fr σ) (upd H1 p (.lst [])):=by
 have h1:=h.up s
 have sp:Same H1 (upd H1 p (.lst [])):=Same.new hp
 have so:Same (Offs (λb=>fx b\/L2.own env σ b) H1) (Offs (λb=>(lim fx env σ (bs++capA fr env) b\/b=p)\/L2.own (envB own fr env) (tau own fr σ) b) (upd H1 p (.lst []))):=Offs.mono sp λb o e n z=>by
  rcases z with(z|z)|⟨i,d,z,_⟩
  ·exact n (zqw b z)
  ·rw[z,hp]at e;cases e
  ·exact absurd z zha
 refine⟨?_,λi d e=>?_,λi d e=>absurd e zha,λi j d e a z=>absurd z zha,sp,λb z=>?_⟩
 ·unfold envB tau;simp
 ·obtain⟨j,k,rfl,hk,hj⟩:=zmi e
  rcases hj with hj|hj
  ·obtain⟨v,h2,h3⟩:=h1.pl j d hj
   exact⟨v,zun hk h2,Rp.same so _ h3⟩
  ·obtain⟨a,h2,h3,h4,h5⟩:=h1.ac j d hj
   refine⟨_,zun hk h2,h5.rp so λo eo=>?_⟩
   rw[Offs.get]
   ·exact sp _ _ eo
   ·rintro((z|⟨i',d',z1,z2,z3⟩)|⟨i',d',z,_⟩)
    ·rcases z with z|⟨i',d',z1,z2,z3⟩
     ·exact h4 z
     ·have e2:=h1.inj i' j d' d a z2 hj z3 h2
      subst e2
      refine z1 (qq _ (qBI.mpr ⟨qAj hk,?_⟩))
      rw[hj];rfl
    ·rw[hp]at eo;cases eo
    ·exact absurd z zha
 ·rcases z with z|z
  ·obtain⟨o,e⟩:=h1.lims _ b z;exact⟨o,sp b o e⟩
  ·rw[z];exact⟨_,zbk⟩
theorem EnvOk.weaken{fx:Addr->Prop}{H0:Hp}{env e1:DEnv}{σ:St}{H:Hp}(h:EnvOk fx H0 e1 σ H)(hl:env.length=e1.length)(hp:∀(i:Nat) (d:PyData),env[i]?=some (.pl d)->e1[i]?=some (.pl d))(ha:∀(i:Nat) (d:PyData),env[i]?≠some (.ac d)):EnvOk fx H0 env σ H:=by
 refine⟨hl.trans h.len,λi d e=>?_,λi d e=>absurd e (ha i d),λi j d e a z=>absurd z (ha i d),h.base,h.fxs⟩
 obtain⟨v,h1,h2⟩:=h.pl i d (hp i d e)
 exact⟨v,h1,Rp.same (Offs.sub λb z=>z.imp (λy=>y) λ⟨j,d',z,_⟩=>absurd z (ha j d')) _ h2⟩
theorem EnvOk.updFx{fx:Addr->Prop}{H0:Hp}{env:DEnv}{σ:St}{H:Hp}{p:Addr}{o:HO}(h:EnvOk fx H0 env σ H)(hp:fx p)(h0:H0 p=none):EnvOk fx H0 env σ (upd H p o):=by
 have so:Offs (λb=>fx b\/own env σ b) (upd H p o)=Offs (λb=>fx b\/own env σ b) H:=Offs.upd (.inl hp)
 refine⟨h.len,λi d e=>?_,λi d e=>?_,h.inj,λb u e=>by rw[zbs (zek e h0)];exact h.base b u e,λb z=>?_⟩
 ·rw[so];exact h.pl i d e
 ·obtain⟨a,h1,h2,h3,h4⟩:=h.ac i d e
  rw[so]
  exact⟨a,h1,h2,h3,h4.same (Same.refl _) λu z=>by rw[zbs λy=>h3 (by rw[y];exact hp)];exact z⟩
 ·by_cases e:b=p
  ·rw[e];exact⟨_,zbk⟩
  ·obtain⟨u,hu⟩:=h.fxs b z
   exact⟨u,by rw[zbs e];exact hu⟩
noncomputable def GX(n:Nat)(g:GT):Prop:=∀d env e1,g d env=some e1->e1.length=env.length/\∀i,n<=i->e1[i]?=env[i]?
noncomputable def GXs(n:Nat)(g:GTs):Prop:=∀ds env e1,g ds env=some e1->e1.length=env.length/\∀i,n<=i->e1[i]?=env[i]?
theorem zfj{n i:Nat}(h:i<n):GX n (gN i):=by
 intro d env e1 e
 cases e
 exact⟨qe,λj hj=>qG (by omega)⟩
theorem zuo{n:Nat}:GXs n zeg:=by
 intro ds env e1 e
 cases ds with
 | nil=>cases e;exact⟨rfl,λ_ _=>rfl⟩
 | cons _ _=>cases e
theorem zif{n i:Nat}{g:GTs}(h:i<n)(hg:GXs n g):GXs n (zax i g):=by
 intro ds env e1 e
 cases ds with
 | nil=>cases e
 | cons d ds=>
  obtain⟨h1,h2⟩:=hg ds _ e1 e
  rw[qe]at h1
  exact⟨h1,λj hj=>(h2 j hj).trans (qG (by omega))⟩
theorem zzc{n m:Nat}{g:GTs}(hg:GXs n g):GX n (gT m g):=by
 intro d env e1 e
 unfold gT at e
 cases d with
 | tuple ds=>
  have e:(if ds.length=m then g ds env else none)=some e1:=e
  split at e
  ·exact hg ds env e1 e
  ·cases e
 | _=>cases e
noncomputable def zgp(g:GT)(t:TF)(e:EF)(env:DEnv):List PyData->Option (List PyData)
 | []=>some []
 | d::ds=>(g d env).bind λe1=>(t e1).bind λb=>if b=true then(e e1).bind λr=>(zgp g t e env ds).map λrs=>r.d::rs else zgp g t e env ds
noncomputable def zep(own:List Str)(fr:List Nat)(fi:IF')(g:GT)(t:TF)(e:EF):EF:=λenv=>(fi env).bind λz=>if z.1.length<100000 then
 (zgp g t e (envB own fr env) z.1).map λrs=>⟨.list rs,true,if zda rs=true then[]else z.2++capA fr env⟩else none
theorem zhb{H H':Hp}{ds:List PyData}{vs:List V}(f:zda ds=true)(h:Rps H ds vs):Rps H' ds vs:=by
 replace h:=zdi.mp h
 induction h with
 | nil=>exact zca
 | cons h _ ih=>
  unfold zda at f
  rw[qAk,qy]at f
  exact zby (zqx f.1 h) (ih f.2)
theorem zei{own:List Str}{fr:List Nat}{wi:TI}{g:TG}{tt:TT}{te:TE}{fi:IF'}{gf:GT}{t:TF}{e:EF}(h1:SI wi fi)(h2:SG g gf)(hx:GX own.length gf)(h3:ST tt t)(h4:SE te e) :
  SE (tComp1 wi g tt te own fr) (zep own fr fi gf t e):=by
 intro fx H0 env σ H h rr hr Q q
 unfold zep at hr
 obtain⟨⟨ds,bs⟩,ei,hr⟩:=qA.mp hr
 split at hr
 ·rename_i hlen
  have hlen:ds.length<100000:=hlen
  obtain⟨rs,ers,rfl⟩:=qE.mp hr
  refine h1 fx H0 env σ H h ds bs ei _ λJ H1 s yl=>λp hp=>?_
  have hB:=znd h s hp own fr bs
  generalize hA:(λb=>lim fx env σ (bs++capA fr env) b)=A
  have hA':∀b,lim fx env σ (bs++capA fr env) b↔A b:=λb=>by rw[<- hA]
  have eA:(λb=>lim fx env σ (bs++capA fr env) b\/b=p)=λb=>A b\/b=p:=by rw[<- hA]
  rw[eA]at hB
  have nA:¬A p:=λz=>by
   obtain⟨o,eo⟩:=(h.up s).lims _ p ((hA' p).mpr z)
   rw[hp]at eo;cases eo
  have seen:∀{σ':St}{H':Hp},EnvOk (λb=>A b\/b=p) H1 (envB own fr env) σ' H'->Same (Offs (λb=>fx b\/L2.own (frzs env bs) σ b) H1) (Offs (λb=>A b\/b=p) H'):=λ{σ' H'} hE=>Offs.mono hE.base λb o eo n z=>by
   rcases z with z|z
   ·rcases(hA' b).mpr z with z|⟨i,d,z1,z2,z3⟩
    ·exact n (.inl z)
    ·exact n (.inr ⟨i,d,zie (λy=>z1 (qAK _ y)) z2,z3⟩)
   ·rw[z,hp]at eo;cases eo
  refine⟨λi m σ' H'=>m=ds.length - i/\i<=ds.length/\∃vs done rest,H' p=some (.lst vs)/\Rps (Offs (λb=>A b\/b=p) H') done vs/\done.length<=i/\zgp gf t e (envB own fr env) (ds.drop i)=some rest/\done++rest=rs/\EnvOk (λb=>A b\/b=p) H1 (envB own fr env) σ' H',
   ⟨ds.length,rfl,qAR _,[],[],rs,zbk,zca,qAR _,ers,rfl,hB⟩,?_⟩
  rintro i m σ' H' ⟨rfl,hi,vs,done,rest,ep,rd,dl,ec,edr,hE⟩
  obtain⟨yi,ys⟩:=yl _ H' hE.fxs (seen hE)
  by_cases hlt:i<ds.length
  ·obtain⟨yg,yy⟩:=yi i ds[i] (qN hlt)
   refine .inr ⟨yg,λσ'' H''=>i+1<=ds.length/\∃vs done rest,H'' p=some (.lst vs)/\Rps (Offs (λb=>A b\/b=p) H'') done vs/\done.length<=i+1/\zgp gf t e (envB own fr env) (ds.drop (i+1))=some rest/\done++rest=rs/\EnvOk (λb=>A b\/b=p) H1 (envB own fr env) σ'' H'',?_,?_⟩
   ·rintro σ'' H'' ⟨hle,hh⟩
    exact⟨ds.length - (i+1),by omega,rfl,hle,hh⟩
   ·intro x H'' hy
    obtain⟨sy,ry⟩:=yy x H'' hy
    rw[qAL hlt]at ec
    obtain⟨e1,ee1,ec⟩:=qA.mp ec
    obtain⟨b,eb,ec⟩:=qA.mp ec
    have ry':Rp (Offs (λa=>(A a\/a=p)\/L2.own (envB own fr env) σ' a) H'') ds[i] x:=Rp.same (Offs.sub λb z=>z.elim (λy=>y) λ⟨j,d',z,_⟩=>absurd z zha) _ ry
    refine h2 _ H1 (envB own fr env) σ' H'' _ x (hE.up sy) ry' e1 ee1 _ λσ2 hE2=>?_
    refine h3 _ H1 e1 σ2 H'' hE2 b eb _ λH3 s3=>?_
    have hE3:=hE2.up s3
    obtain⟨gl,gk⟩:=hx _ _ _ ee1
    have back:∀{H4:Hp},EnvOk (λb=>A b\/b=p) H1 e1 σ2 H4->EnvOk (λb=>A b\/b=p) H1 (envB own fr env) σ2 H4:=λ{H4} hh=>hh.weaken gl.symm (λj d' ej=>by
     by_cases hj:own.length<=j
     ·rw[gk j hj];exact ej
     ·obtain⟨_,k,rfl,_⟩:=zmi ej;omega) λj d'=>zha
    cases b with
    | false=>
     have ec:zgp gf t e (envB own fr env) (ds.drop (i+1))=some rest:=ec
     exact iteF ⟨hlt,vs,done,rest,s3 _ _ (sy _ _ ep),Rps.same (Offs.grow (sy.trans s3)) _ rd,qA7 dl,ec,edr,back hE3⟩
    | true=>
     have ec:((e e1).bind λr=>(zgp gf t e (envB own fr env) (ds.drop (i+1))).map λrs=>r.d::rs)=some rest:=ec
     obtain⟨r,er,ec⟩:=qA.mp ec
     obtain⟨rest',er',rfl⟩:=qE.mp ec
     refine iteT (h4 _ H1 e1 σ2 H3 hE3 r er _ λv H4 s4 hv=>?_)
     have t4:=(sy.trans s3).trans s4
     refine⟨vs,t4 _ _ ep,zjy (by rw[<- rd.length];omega),hlt,vs++[v],done++[r.d],rest',zbk,?_,by rw[qF];simp;omega,er',by rw[<- edr];simp,(back (hE3.up s4)).updFx (.inr rfl) hp⟩
     rw[Offs.upd (.inr rfl)]
     exact(Rps.same (Offs.grow t4) _ rd).append (zby (Rp.same (Offs.sub λb z=>.inl z) _ hv.rp) zca)
  ·have hi':i=ds.length:=by omega
   subst hi'
   rw[qAa]at ec
   cases ec
   rw[q9]at edr
   subst edr
   refine .inl ⟨ys,q _ H' (s.trans hE.base) ⟨?_,λ_=>⟨p,rfl,s.free hp,?_⟩⟩⟩
   ·show Rp (Offs (lim fx env σ (if zda done=true then[]else bs++capA fr env)) H') (.list done) (.ref p)
    have nl:∀cs,¬lim fx env σ cs p:=λcs z=>by
     obtain⟨o,eo⟩:=(h.up s).lims _ p z
     rw[hp]at eo;cases eo
    refine zgr (by rw[Offs.get (nl _)];exact ep) ?_
    split
    ·rename_i f;exact zhb f rd
    ·exact Rps.same (Offs.sub λb z=>.inl ((hA' b).mp z)) _ rd
   ·show zff (Offs (λb=>lim fx env σ (if zda done=true then[]else bs++capA fr env) b\/b=p) H') H' p (.list done)
    refine⟨vs,ep,?_⟩
    split
    ·rename_i f;exact zhb f rd
    ·exact Rps.same (Offs.sub λb z=>z.imp (hA' b).mp id) _ rd
 ·cases hr
section
variable{X:Cx}{K:qD}
theorem zzd(hK:X.K=K){a:Expr}{ta:TE}(ha:PE X a ta)(he:∀whole,isTrue a X.env whole=(do let v <- whole;standAt a.pos;holding [v] (truthy v))) :
  PT X a (λσ H Q=>ta σ H λx H'=>∃k,TruV K x H' k/\Q k H'):=by subst hK;exact zaba ha he
theorem zup(hK:X.K=K):CallR X (.type "tuple") (λxs H Q=>∃p ys,xs=[.ref p]/\((SqL K H p ys/\∀l,H l=none->Q (.ref l) (upd H l (.tup ys)))\/(SqT K H p ys/\Q (.ref p) H))):=by subst hK;exact zqs
theorem zhc(hK:X.K=K)(hu:X.A.units+64<cLine):OpR X (compareOp .Eq) (λx y H Q=>rEq x y H Q\/rEqD K false x y H Q):=by subst hK;exact zakl.or (zaid hu)
theorem zadj(hK:X.K=K)(hu:X.A.units+64<cLine):OpR X (compareOp .NotEq) (λx y H Q=>rNe x y H Q\/rEqD K true x y H Q):=by subst hK;exact zakm.or (zaie hu)
noncomputable def zci:TF:=λ_=>some true
theorem zfd:ST tAll zci:=by
 intro fx H0 env σ H hE b hb Q q
 cases hb
 exact q H (Same.refl _)
noncomputable def eNeg(a:EF):EF:=λenv=>(a env).bind λx=>match x.d with|.int i=>some ⟨.int (-i),false,[]⟩|_=>none
theorem zadk{te:TE}{f:EF}(h1:SE te f):SE (tUn (rU λi=>.int (-i)) te) (eNeg f):=by
 intro fx H0 env σ H h rr hr Q q
 unfold eNeg at hr
 obtain⟨⟨d,fr,bs⟩,ex,hr⟩:=qA.mp hr
 cases d with
 | int i=>
  cases hr
  exact h1 fx H0 env σ H h _ ex _ λv H1 s1 v1=>⟨i,zcj v1.rp,q _ H1 s1 ⟨zaa,λz=>by cases z⟩⟩
 | _=>cases hr
end
end L2
namespace PySem
open Sem (wp)
end PySem
namespace L2
open PySem PySem.Spec PyProof.Rows
theorem Rps.erase{H:Hp}{ds:List PyData}{vs:List V}(h:Rps H ds vs)(n:Nat):Rps H (ds.eraseIdx n) (vs.eraseIdx n):=by
 induction n generalizing ds vs with
 | zero=>
  cases ds with
  | nil=>unfold Rps at h;subst h;exact zca
  | cons d ds=>unfold Rps at h;obtain⟨v,ws,rfl,h1,h2⟩:=h;exact h2
 | succ n ih=>
  cases ds with
  | nil=>unfold Rps at h;subst h;exact zca
  | cons d ds=>unfold Rps at h;obtain⟨v,ws,rfl,h1,h2⟩:=h;exact zby h1 (ih h2)
noncomputable def gPerm{α:Type}(d:α)(perm:List Nat)(n:Nat)(us ws:List α):List α:=if us.length=0/\ws.length=n then perm.map λj=>ws.getD j d else[]
theorem zze{zs:List V}{ws:List Value}(r:Vals zs ws)(j:Nat):RelV (zs.getD j .non) (ws.getD j .none):=by
 rw[qx,qx]
 cases e:zs[j]? with
 | none=>rw[r.none_of e];rfl
 | some v=>
  obtain⟨u,hu,ru⟩:=r.get e
  rw[hu];exact ru
theorem zsn{zs:List V}{ws:List Value}(r:Vals zs ws):∀perm:List Nat,Vals (perm.map λj=>zs.getD j .non) (perm.map λj=>ws.getD j .none)
 | []=>.nil
 | j::p=>.cons (zze r j) (zsn r p)
theorem zzf{K:qD}{fd:qw}{ps ks:List Str}{perm:List Nat}(hp:perm.length=ps.length)(h0:0<ps.length)(h:∀(s:Shared) (ws:List Value),ws.length=ks.length->BindsTo s fd ⟨[],ks.zip ws⟩ (ps.zip (perm.map λj=>ws.getD j .none))) :
  KBinds K fd ps ks (gPerm .none perm ks.length) (gPerm .non perm ks.length):=by
 refine⟨λs us ws _ hl=>?_,λ{vs us zs ws} r rz=>?_⟩
 ·unfold gPerm at hl ⊢
  split at hl
  ·rename_i hc
   rw[if_pos hc]
   have hu:us=[]:=qAV.mp hc.1
   subst hu
   exact h s ws hc.2
  ·simp at hl;omega
 ·unfold gPerm
  rw[r.length,rz.length]
  split
  ·exact zsn rz perm
  ·exact .nil
noncomputable def DnK(P:Program)(w:World)(K:qD)(mg:Str->Option Value)(base:Heap)(x:Str)(ps ks:List Str)(perm:List Nat)(k:Nat)(sp:Sp):Prop:=
 ∃f fd,FnOk P w K mg base CX0 k f fd ps sp/\mg x=some (.ref f)/\qU K (.ref f)=true/\KBinds K fd ps ks (gPerm .none perm ks.length) (gPerm .non perm ks.length)
theorem zain{X:Cx}{x:Str}{p pos:Pos}{kws:List Keyword}{tk:TA}{ps ks:List Str}{perm:List Nat}{k:Nat}{sp:Sp}(D:DnK X.prog X.w X.K X.mg X.base x ps ks perm k sp)(hr:Room k X.A)(hg:Gl X x)(hkw:PK X kws tk)
  (hall:(backToKw pos (keywordEach kws X.env)).all (·.1.isSome)=true:=by rfl)(hks:(backToKw pos (keywordEach kws X.env)).filterMap (·.1)=ks:=by rfl)
  (hdb:(x==("__debug__":Str))=false:=by decide) (hpl:((backTo pos (starEach [] X.env)).any (·.1)||(backToKw pos (keywordEach kws X.env)).any (·.1.isNone))=false:=by rfl) :
  PE X (.Call (.Name x p) [] kws pos) (tCallK sp (gPerm .non perm ks.length) E0 tNil tk):=by
 obtain⟨f,fd,F,hm,hk,hb⟩:=D
 intro pins s σ H Q I h
 refine qAY (zxw I hg hm ?_ hdb)
 refine PySem.W.callWith_KW0 (h₀:=X.base) I.ok.mod.kin hk hall ?_ hpl
 refine thn (hkw pos pins s σ H _ I h) λws s2 ⟨zs,H2,I2,rz,q2⟩=>⟨I2.kIn,?_⟩
 rw[hks]
 exact zaej (us:=[]) (vs:=[]) F hr hb zahz I2 .nil rz q2
noncomputable def zvx(n:Nat)(g:GF)(perm:List Nat)(m:Nat)(f:AF):EF:=λenv=>(f env).bind λrs=>if rs.length=m/\perm.length=n/\perm.all (λj=>decide (j<m))=true then(g (perm.map λj=>(zdb rs).getD j .none)).bind λz=>some ⟨z.1,z.2,bsOf z.1 (bss rs)⟩else none
theorem zvy{H:Hp}{ds:List PyData}{vs:List V}(h:Rps H ds vs):∀perm:List Nat,Rps H (perm.map λj=>ds.getD j .none) (perm.map λj=>vs.getD j .non)
 | []=>zca
 | j::p=>by
  refine zby ?_ (zvy h p)
  show Rp H (ds.getD j .none) (vs.getD j .non)
  rw[qx,qx]
  cases e:ds[j]? with
  | none=>
   have:vs[j]?=none:=qAZ.mpr (by rw[<- h.length];exact qAZ.mp e)
   rw[this];exact zlf
  | some d=>
   obtain⟨v,hv,rv⟩:=h.get2 e
   rw[hv];exact rv
theorem zabw{n:Nat}{g:GF}{perm:List Nat}{m:Nat}{ta:TA}{f:AF}(ha:SA ta f):SE (tCallK (spD n g) (gPerm .non perm m) E0 tNil ta) (zvx n g perm m f):=by
 intro fx H0 env σ H h rr hr Q q
 unfold zvx at hr
 obtain⟨rs,er,hr⟩:=qA.mp hr
 split at hr
 ·rename_i hn
  obtain⟨⟨d,fr⟩,ez,hr⟩:=qA.mp hr
  cases hr
  refine ha fx H0 env σ H h rs er _ λvs H1 s1 v1=>?_
  have r:=zer (λi hi=>hi) v1
  have hlen:vs.length=m:=by rw[<- r.length,zes];exact hn.1
  unfold gPerm
  rw[if_pos ⟨rfl,hlen⟩]
  refine⟨lim fx env σ (bss rs),_,d,fr,by rw[qC];exact hn.2.1,(h.up s1).lims _,zvy r perm,ez,λw H3 s3 ⟨rp,fr3⟩=>q w H3 (s1.trans s3) ⟨ziu rp,λe=>?_⟩⟩
  obtain⟨a,g1,g2,g3⟩:=fr3 e
  refine⟨a,g1,s1.free g2,?_⟩
  have nf:zfb d=false:=by cases d<;>first|rfl|exact g3.elim
  show zff (Offs (λb=>lim fx env σ (bsOf d (bss rs)) b\/b=a) H3) H3 a d
  rw[show bsOf d (bss rs)=bss rs by unfold bsOf;rw[if_neg (by rw[nf];decide)]]
  exact g3
 ·cases hr
noncomputable def zalg(i:Nat)(b:EF):EF:=λenv=>match env[i]? with
 | some (.pl (.dict kvs))=>(b env).bind λy=>(keyD y.d).bind λk=>(zaex kvs k).bind λd=>some ⟨d,false,[]⟩
 | some (.ac (.dict kvs))=>(b env).bind λy=>(keyD y.d).bind λk=>(zaex kvs k).bind λd=>some ⟨d,false,[]⟩
 | _=>none
noncomputable def eIxV(i:Nat)(b:EF):EF:=λenv=>match env[i]? with
 | some (.ac (.list ds))=>(b env).bind λy=>match y.d with
  | .int k=>(atI ds k).map λd=>⟨d,false,[]⟩
  | _=>none
 | _=>eOp ixD (eVar i) b env
theorem zcp{K:qD}{i:Nat}{tb:TE}{fb:EF}(hb:SE tb fb):SE (tOp (rIxU K) (tVar i) tb) (eIxV i fb):=by
 intro fx H0 env σ H h rr hr Q q
 unfold eIxV at hr
 split at hr
 ·rename_i ds ei
  obtain⟨⟨dy,fy,bys⟩,ey,hr⟩:=qA.mp hr
  cases dy with
  | int k=>
   obtain⟨d,ed,rfl⟩:=qE.mp hr
   obtain⟨a,h1,h2,h3,xs,ha,r⟩:=h.ac i _ ei
   refine⟨_,h1,hb fx H0 env σ H h _ ey _ λu H2 s2 v2=>?_⟩
   cases zcj v2.rp
   obtain⟨v,hv,rv⟩:=(Rps.same (Offs.grow s2) _ r).atI ed
   exact⟨xs,v,.inl (SqL.of (s2 _ _ ha)),hv,q _ H2 s2 ⟨Rp.same (Offs.sub zqw) _ rv,λz=>by cases z⟩⟩
  | _=>cases hr
 ·exact zbc zly (zae i) hb fx H0 env σ H h rr hr Q q
noncomputable def zzg(wi:TI)(g:TG)(tt:TT)(tm:TM):TM:=λσ H Q=>wi σ H λJ H1=>zabk J g tt tm σ H1 Q
section
variable{X:Cx}
theorem zuq{M:Model}{P:Program}{w:World}{A:Around}{R:Result->Shared->Prop}{s:Shared}{elt:Expr}{g0:Comprehension}{target iter:Expr}{ifs:List Expr}{rest:List Comprehension}{scope:Scope}{cpos:Pos}{it acc:Value}{env:Env}
  (l:codeAny (model P w) A (.compLoop (.ListComp elt (g0::⟨target,iter,ifs,0⟩::rest) scope cpos) 1 it acc env) R s)
  (t:∀(A:Around) (E:Value->Shared->Prop),wpAny (model P w) A (pyIter it) (λu s'=>u=it/\s'=s) E s) :
  codeAny (model P w) A (.compStart (.ListComp elt (g0::⟨target,iter,ifs,0⟩::rest) scope cpos) 1 it acc env) R s:=by
 refine codeAny_of_tree ?_
 show wpAny _ _ ((compStart (.ListComp elt (g0::⟨target,iter,ifs,0⟩::rest) scope cpos) 1 it acc env).onRaise (λx=>do noteFrame x env;standAt theWindowsPlace)) _ _ s
 refine wpAny_notedAt ?_
 unfold compStart
 show wpAny _ _ (ask >>=_) _ _ s
 refine qo (wpAny_askSetting (wpAny_ite ?_))
 split
 ·first
   | exact qo (qAG (qAG (And.intro rfl l)))
   | exact qAG (And.intro rfl l)
 ·refine qo (wpAny_rule ?_)
  first
   | exact qo (qAd (qo (thn (t _ _) λu s' z=>by obtain⟨e1,e2⟩:=z;subst e1;subst e2;exact qAG (And.intro rfl l))))
   | (show wpAny _ _ (standAt iter.pos >>=_) _ _ s;exact qo (qAd (qo (thn (t _ _) λu s' z=>by obtain⟨e1,e2⟩:=z;subst e1;subst e2;exact qAG (And.intro rfl l)))))
theorem zabx{elt0:Expr}{g0:Comprehension}{scope:Scope}{cpos:Pos}{target iter:Expr}{ifs:List Expr}{wi:TI}{g:TG}{tt:TT}{te:TE}{p:Addr}
  (hx:X.xe=λ_ _=>False)(hc:X.calm=true)(hi:PI X target iter wi)(hg:PG X target g)(ht:PF X ifs tt)(he:PE X elt0 te)
  (hs:∀x,foldedSetIterable iter X.env x=pure x) :
  PM X (do
   let x <- eval iter X.env
   standAt iter.pos
   let x <- foldedSetIterable iter X.env x
   let _ <- runOwn (.compStart (.ListComp elt0 [g0,⟨target,iter,ifs,0⟩] scope cpos) 1 (<- holding [x] (pyIter x)) (.ref p) X.env) X.env) (zzg wi g tt (zwy p te)):=by
 intro pins s σ H Q I h
 refine qo (thn (hi pins s σ H _ I h) λv s1 h1=>?_)
 refine qo (qAd ?_)
 rw[hs]
 refine qo (qAG (qo (qBC (thn h1 λitv s2 h2=>?_))))
 obtain⟨it,fp,tn,J,H2,e,I2,T,st2,f2,q⟩:=h2
 subst e
 refine qo (thn (wpAny_runOwn (h:=none) (Q:=λ_ s'=>∃σ' H',Inv X pins σ' H' s'/\Q σ' H') ?_) λ_ _ z=>qAG z)
 refine zuq (M:=model X.prog X.w) ?_ λA E=>T.self A 0 s2 _ E st2 ⟨rfl,rfl⟩
 refine qAn (zms (X:=X) (pins:=pins) hx hc (elt0:=elt0) (gens:=[g0,⟨target,iter,ifs,0⟩]) (depth:=1) (ip:=iter.pos) (emit:=(do let _ <- call (.builtin "list.append") [.ref p,<- eval elt0 X.env])) rfl T hg ht (zuf he) I2 st2 f2 q) λr s5 hr=>?_
 obtain⟨rfl,z⟩:=hr
 exact z
theorem zakx(elt target iter target2 iter2:Expr)(ifs ifs2:List Expr)(scope:Scope)(cpos:Pos)(it acc:Value)(env:Env) :
  compTurn (.ListComp elt [⟨target,iter,ifs,0⟩,⟨target2,iter2,ifs2,0⟩] scope cpos) 0 it acc env=(do
   standAt iter.pos
   match <- pyNext it with
   | none=>pure (.done .next)
   | some v=>
    letOwnedTupleGo target it v
    assign target env v
    let mut ok:=true
    for c in ifs do
     if ok then ok <- isTrue c env (eval c env)
    if ok then do
     let x <- eval iter2 env
     standAt iter2.pos
     let x <- foldedSetIterable iter2 env x
     let i <- holding [x] (pyIter x)
     let _ <- runOwn (.compStart (.ListComp elt [⟨target,iter,ifs,0⟩,⟨target2,iter2,ifs2,0⟩] scope cpos) 1 i acc env) env
     again (.compLoop (.ListComp elt [⟨target,iter,ifs,0⟩,⟨target2,iter2,ifs2,0⟩] scope cpos) 0 it acc env)
    else again (.compLoop (.ListComp elt [⟨target,iter,ifs,0⟩,⟨target2,iter2,ifs2,0⟩] scope cpos) 0 it acc env)):=rfl
noncomputable def tComp2(wi:TI)(g:TG)(tt:TT)(wi2:TI)(g2:TG)(tt2:TT)(te:TE)(own:List Str)(fr:List Nat):TE:=zabl wi g tt (λp=>zzg wi2 g2 tt2 (zwy p te)) own fr
theorem zaby{scope:Scope}{N' own:List Str}{fr:List Nat}{elt target iter target2 iter2:Expr}{ifs ifs2:List Expr}{cpos:Pos}{wi wi2:TI}{g g2:TG}{tt tt2:TT}{te:TE}(c:CompOk X scope N' own fr)(hc:X.calm=true)(hi:PI X target iter wi)
  (hb:∀(cl:List (Str×Addr)) (C:Addr) (s:Shared) (H:Hp) (fp:List Addr),PG (cxComp X scope N' own cl C s H fp) target g/\PF (cxComp X scope N' own cl C s H fp) ifs tt/\PI (cxComp X scope N' own cl C s H fp) target2 iter2 wi2/\PG (cxComp X scope N' own cl C s H fp) target2 g2/\PF (cxComp X scope N' own cl C s H fp) ifs2 tt2/\PE (cxComp X scope N' own cl C s H fp) elt te)
  (hs:∀x,foldedSetIterable iter X.env x=pure x:=by intro _;rfl)(hs2:∀env x,foldedSetIterable iter2 env x=pure x:=by intro _ _;rfl) :
  PE X (.ListComp elt [⟨target,iter,ifs,0⟩,⟨target2,iter2,ifs2,0⟩] scope cpos) (tComp2 wi g tt wi2 g2 tt2 te own fr):=
 zvu (emit:=λacc env=>do
   let x <- eval iter2 env
   standAt iter2.pos
   let x <- foldedSetIterable iter2 env x
   let _ <- runOwn (.compStart (.ListComp elt [⟨target,iter,ifs,0⟩,⟨target2,iter2,ifs2,0⟩] scope cpos) 1 (<- holding [x] (pyIter x)) acc env) env) c hc (λit acc env=>by
   rw[zakx]
   refine bind_congr λ_=>bind_congr λr=>?_
   cases r with
   | none=>rfl
   | some v=>
    refine bind_congr λ_=>bind_congr λ_=>bind_congr λok=>?_
    cases ok with
    | false=>rfl
    | true=>simp only[if_true,bind_assoc,pure_bind]) hi
  (λcl C s H fp p=>let⟨h1,h2,h3,h4,h5,h6⟩:=hb cl C s H fp;⟨h1,h2,zabx (X:=cxComp X scope N' own cl C s H fp) rfl hc h3 h4 h5 h6 (λx=>hs2 _ x)⟩) hs
end
noncomputable def NoAc(env:DEnv):Prop:=∀(i:Nat)(d:PyData),env[i]?≠some (.ac d)
noncomputable def GZ(lo hi:Nat)(g:GT):Prop:=∀d env e1,g d env=some e1->e1.length=env.length/\(∀i,(i<lo\/hi<=i)->e1[i]?=env[i]?)/\(NoAc env->NoAc e1)
noncomputable def GZs(lo hi:Nat)(g:GTs):Prop:=∀ds env e1,g ds env=some e1->e1.length=env.length/\(∀i,(i<lo\/hi<=i)->e1[i]?=env[i]?)/\(NoAc env->NoAc e1)
theorem zvz{env:DEnv}{i:Nat}{d:PyData}(h:NoAc env):NoAc (env.set i (.pl d)):=by
 intro j d' e
 by_cases q:i=j
 ·subst q
  by_cases l:i<env.length
  ·rw[qt l]at e;cases e
  ·rw[qBa (by simp;omega)]at e;cases e
 ·rw[qG q]at e;exact h j d' e
theorem zafg{lo hi i:Nat}(h:lo<=i)(h':i<hi):GZ lo hi (gN i):=by
 intro d env e1 e
 cases e
 exact⟨qe,λj hj=>qG (by omega),zvz⟩
theorem zafh{lo hi:Nat}:GZs lo hi zeg:=by
 intro ds env e1 e
 cases ds with
 | nil=>cases e;exact⟨rfl,λ_ _=>rfl,id⟩
 | cons _ _=>cases e
theorem zqz{lo hi i:Nat}{g:GTs}(h:lo<=i)(h':i<hi)(hg:GZs lo hi g):GZs lo hi (zax i g):=by
 intro ds env e1 e
 cases ds with
 | nil=>cases e
 | cons d ds=>
  obtain⟨h1,h2,h3⟩:=hg ds _ e1 e
  rw[qe]at h1
  exact⟨h1,λj hj=>(h2 j hj).trans (qG (by omega)),λz=>h3 (zvz z)⟩
theorem zaio{lo hi m:Nat}{g:GTs}(hg:GZs lo hi g):GZ lo hi (gT m g):=by
 intro d env e1 e
 unfold gT at e
 cases d with
 | tuple ds=>
  have e:(if ds.length=m then g ds env else none)=some e1:=e
  split at e
  ·exact hg ds env e1 e
  ·cases e
 | _=>cases e
theorem zne{g:GT}{t:TF}{e:EF}{env:DEnv}:∀{ds rs:List PyData},zgp g t e env ds=some rs->rs.length<=ds.length
 | [],rs,h=>by cases h;exact qI _
 | d::ds,rs,h=>by
  unfold zgp at h
  obtain⟨e1,_,h⟩:=qA.mp h
  obtain⟨b,_,h⟩:=qA.mp h
  split at h
  ·obtain⟨r,_,h⟩:=qA.mp h
   obtain⟨rs',h',rfl⟩:=qE.mp h
   have:=zne h'
   simp;omega
  ·have:=zne h
   simp;omega
noncomputable def innL(f2:IF')(g2:GT)(t2:TF)(e:EF)(e1:DEnv):Option (List PyData):=(f2 e1).bind λz=>if z.1.length<300 then zgp g2 t2 e e1 z.1 else none
noncomputable def ziw(g:GT)(t:TF)(f2:IF')(g2:GT)(t2:TF)(e:EF)(env:DEnv):List PyData->Option (List PyData)
 | []=>some []
 | d::ds=>(g d env).bind λe1=>(t e1).bind λb=>if b=true then(innL f2 g2 t2 e e1).bind λr1=>(ziw g t f2 g2 t2 e env ds).map λrs=>r1++rs else ziw g t f2 g2 t2 e env ds
noncomputable def zpw(own:List Str)(fr:List Nat)(fi:IF')(g:GT)(t:TF)(f2:IF')(g2:GT)(t2:TF)(e:EF):EF:=λenv=>(fi env).bind λz=>if z.1.length<300 then
 (ziw g t f2 g2 t2 e (envB own fr env) z.1).map λrs=>⟨.list rs,true,if zda rs=true then[]else z.2++capA fr env⟩else none
theorem zabz{wi2:TI}{g2:TG}{tt2:TT}{te:TE}{f2:IF'}{gf2:GT}{t2:TF}{e:EF}{B:Addr->Prop}{H1:Hp}{e1:DEnv}{σ:St}{H:Hp}{p:Addr}{vs:List V}{done rest ds:List PyData}{bs:List Nat}{Q:St->Hp->Prop}{k n:Nat}
  (h5:SI wi2 f2)(h6:SG g2 gf2)(hy:GZ k n gf2)(h7:ST tt2 t2)(h4:SE te e)(na:NoAc e1)(no:∀(i:Nat) (d:PyData),k<=i->i<n->e1[i]?≠some (.pl d))
  (hB:B p)(hp:H1 p=none)(hE:EnvOk B H1 e1 σ H)(ep:H p=some (.lst vs))(rd:Rps (Offs B H) done vs)(ei:f2 e1=some (ds,bs))(dl:done.length+ds.length<100000)(ec:zgp gf2 t2 e e1 ds=some rest)
  (q:∀σ' H' vs',H' p=some (.lst vs')->Rps (Offs B H') (done++rest) vs'->EnvOk B H1 e1 σ' H'->Q σ' H'):zzg wi2 g2 tt2 (zwy p te) σ H Q:=by
 refine h5 B H1 e1 σ H hE ds bs ei _ λJ H4 s4 yl=>?_
 have hE4:=hE.up s4
 have n4:Offs (λb=>b=p) H4 p=none:=Offs.out rfl
 refine⟨λi m σ' H'=>m=ds.length - i/\i<=ds.length/\∃vs done' rest',H' p=some (.lst vs)/\Rps (Offs B H') done' vs/\done'.length<=done.length+i/\zgp gf2 t2 e e1 (ds.drop i)=some rest'/\done'++rest'=done++rest/\EnvOk B (Offs (λb=>b=p) H4) e1 σ' H',
  ⟨ds.length,rfl,qAR _,vs,done,rest,s4 _ _ ep,Rps.same (Offs.grow s4) _ rd,qI _,ec,rfl,⟨hE4.len,hE4.pl,λi d z=>absurd z (na i d),hE4.inj,Offs.same _ _,hE4.fxs⟩⟩,?_⟩
 rintro i m σ' H' ⟨rfl,hi,vs,done',rest',ep',rd',dl',ec',edr,hE'⟩
 obtain⟨yi,ys⟩:=yl B H' hE'.fxs λb o z=>by
  obtain⟨z1,z2⟩:=Offs.of z
  have hb:¬B b:=λy=>z1 (.inl y)
  rw[Offs.get hb]
  exact hE'.base b o (by rw[Offs.get λy=>hb (by rw[y];exact hB)];exact z2)
 by_cases hlt:i<ds.length
 ·obtain⟨yg,yy⟩:=yi i ds[i] (qN hlt)
  refine .inr ⟨yg,λσ'' H''=>i+1<=ds.length/\∃vs done' rest',H'' p=some (.lst vs)/\Rps (Offs B H'') done' vs/\done'.length<=done.length+(i+1)/\zgp gf2 t2 e e1 (ds.drop (i+1))=some rest'/\done'++rest'=done++rest/\EnvOk B (Offs (λb=>b=p) H4) e1 σ'' H'',?_,?_⟩
  ·rintro σ'' H'' ⟨hle,hh⟩
   exact⟨ds.length - (i+1),by omega,rfl,hle,hh⟩
  ·intro x H'' hyx
   obtain⟨sy,ry⟩:=yy x H'' hyx
   rw[qAL hlt]at ec'
   obtain⟨e2,ee2,ec'⟩:=qA.mp ec'
   obtain⟨b,eb,ec'⟩:=qA.mp ec'
   have ry':Rp (Offs (λa=>B a\/L2.own e1 σ' a) H'') ds[i] x:=Rp.same (Offs.sub λb z=>z.elim (λy=>y) λ⟨j,d',z,_⟩=>absurd z (na _ _)) _ ry
   refine h6 _ _ e1 σ' H'' _ x (hE'.up sy) ry' e2 ee2 _ λσ2 hE2=>?_
   refine h7 _ _ e2 σ2 H'' hE2 b eb _ λH3 s3=>?_
   have hE3:=hE2.up s3
   obtain⟨gl,gk,_⟩:=hy _ _ _ ee2
   have back:∀{H4':Hp},EnvOk B (Offs (λb=>b=p) H4) e2 σ2 H4'->EnvOk B (Offs (λb=>b=p) H4) e1 σ2 H4':=λ{H4'} hh=>hh.weaken gl.symm (λj d' ej=>by
    by_cases hj:j<k\/n<=j
    ·rw[gk j hj];exact ej
    ·exact absurd ej (no j d' (by omega) (by omega))) na
   cases b with
   | false=>
    have ec':zgp gf2 t2 e e1 (ds.drop (i+1))=some rest':=ec'
    exact iteF ⟨hlt,vs,done',rest',s3 _ _ (sy _ _ ep'),Rps.same (Offs.grow (sy.trans s3)) _ rd',qA7 dl',ec',edr,back hE3⟩
   | true=>
    have ec':((e e2).bind λr=>(zgp gf2 t2 e e1 (ds.drop (i+1))).map λrs=>r.d::rs)=some rest':=ec'
    obtain⟨r,er,ec'⟩:=qA.mp ec'
    obtain⟨rest2,er',rfl⟩:=qE.mp ec'
    refine iteT (h4 _ _ e2 σ2 H3 hE3 r er _ λv H5 s5 hv=>?_)
    have t5:=(sy.trans s3).trans s5
    refine⟨vs,t5 _ _ ep',zjy (by rw[<- rd'.length];omega),hlt,vs++[v],done'++[r.d],rest2,zbk,?_,by rw[qF];simp;omega,er',by rw[<- edr];simp,(back (hE3.up s5)).updFx hB n4⟩
    rw[Offs.upd hB]
    refine(Rps.same (Offs.grow t5) _ rd').append (zby (Rp.same (Offs.sub λb z=>.inl z) _ hv.rp) zca)
 ·have hi':i=ds.length:=by omega
  subst hi'
  rw[qAa]at ec'
  cases ec'
  rw[q9]at edr
  subst edr
  exact .inl ⟨ys,q σ' H' vs ep' rd' ⟨hE'.len,hE'.pl,λi d z=>absurd z (na i d),hE'.inj,λb o z=>hE'.base b o (by rw[Offs.get λy=>by rw[y,hp]at z;cases z];exact s4 b o (hE.base b o z)),hE'.fxs⟩⟩
theorem zaca{own:List Str}{fr:List Nat}{env:DEnv}{i:Nat}(h:i<own.length):(envB own fr env)[i]?=some .no:=by
 unfold envB
 rw[qAI (by simpa using h),qa,qN h];rfl
theorem zacb{own:List Str}{fr:List Nat}{wi wi2:TI}{g g2:TG}{tt tt2:TT}{te:TE}{fi f2:IF'}{gf gf2:GT}{t t2:TF}{e:EF}{k:Nat}(h1:SI wi fi)(h2:SG g gf)(hx:GZ 0 k gf)(hk:k<=own.length)(h3:ST tt t)
  (h5:SI wi2 f2)(h6:SG g2 gf2)(hy:GZ k own.length gf2)(h7:ST tt2 t2)(h4:SE te e) :
  SE (tComp2 wi g tt wi2 g2 tt2 te own fr) (zpw own fr fi gf t f2 gf2 t2 e):=by
 intro fx H0 env σ H h rr hr Q q
 unfold zpw at hr
 obtain⟨⟨ds,bs⟩,ei,hr⟩:=qA.mp hr
 split at hr
 ·rename_i hlen
  have hlen:ds.length<300:=hlen
  obtain⟨rs,ers,rfl⟩:=qE.mp hr
  refine h1 fx H0 env σ H h ds bs ei _ λJ H1 s yl=>λp hp=>?_
  have hB:=znd h s hp own fr bs
  generalize hA:(λb=>lim fx env σ (bs++capA fr env) b)=A
  have hA':∀b,lim fx env σ (bs++capA fr env) b↔A b:=λb=>by rw[<- hA]
  have eA:(λb=>lim fx env σ (bs++capA fr env) b\/b=p)=λb=>A b\/b=p:=by rw[<- hA]
  rw[eA]at hB
  have seen:∀{σ':St}{H':Hp},EnvOk (λb=>A b\/b=p) H1 (envB own fr env) σ' H'->Same (Offs (λb=>fx b\/L2.own (frzs env bs) σ b) H1) (Offs (λb=>A b\/b=p) H'):=λ{σ' H'} hE=>Offs.mono hE.base λb o eo n z=>by
   rcases z with z|z
   ·rcases(hA' b).mpr z with z|⟨i,d,z1,z2,z3⟩
    ·exact n (.inl z)
    ·exact n (.inr ⟨i,d,zie (λy=>z1 (qAK _ y)) z2,z3⟩)
   ·rw[z,hp]at eo;cases eo
  refine⟨λi m σ' H'=>m=ds.length - i/\i<=ds.length/\∃vs done rest,H' p=some (.lst vs)/\Rps (Offs (λb=>A b\/b=p) H') done vs/\done.length<=i * 300/\ziw gf t f2 gf2 t2 e (envB own fr env) (ds.drop i)=some rest/\done++rest=rs/\EnvOk (λb=>A b\/b=p) H1 (envB own fr env) σ' H',
   ⟨ds.length,rfl,qAR _,[],[],rs,zbk,zca,qAR _,ers,rfl,hB⟩,?_⟩
  rintro i m σ' H' ⟨rfl,hi,vs,done,rest,ep,rd,dl,ec,edr,hE⟩
  obtain⟨yi,ys⟩:=yl _ H' hE.fxs (seen hE)
  by_cases hlt:i<ds.length
  ·obtain⟨yg,yy⟩:=yi i ds[i] (qN hlt)
   refine .inr ⟨yg,λσ'' H''=>i+1<=ds.length/\∃vs done rest,H'' p=some (.lst vs)/\Rps (Offs (λb=>A b\/b=p) H'') done vs/\done.length<=(i+1) * 300/\ziw gf t f2 gf2 t2 e (envB own fr env) (ds.drop (i+1))=some rest/\done++rest=rs/\EnvOk (λb=>A b\/b=p) H1 (envB own fr env) σ'' H'',?_,?_⟩
   ·rintro σ'' H'' ⟨hle,hh⟩
    exact⟨ds.length - (i+1),by omega,rfl,hle,hh⟩
   ·intro x H'' hyx
    obtain⟨sy,ry⟩:=yy x H'' hyx
    rw[qAL hlt]at ec
    obtain⟨e1,ee1,ec⟩:=qA.mp ec
    obtain⟨b,eb,ec⟩:=qA.mp ec
    have ry':Rp (Offs (λa=>(A a\/a=p)\/L2.own (envB own fr env) σ' a) H'') ds[i] x:=Rp.same (Offs.sub λb z=>z.elim (λy=>y) λ⟨j,d',z,_⟩=>absurd z zha) _ ry
    refine h2 _ H1 (envB own fr env) σ' H'' _ x (hE.up sy) ry' e1 ee1 _ λσ2 hE2=>?_
    refine h3 _ H1 e1 σ2 H'' hE2 b eb _ λH3 s3=>?_
    have hE3:=hE2.up s3
    obtain⟨gl,gk,gn⟩:=hx _ _ _ ee1
    have na:NoAc e1:=gn λ_ _=>zha
    have back:∀{σ4:St}{H4:Hp},EnvOk (λb=>A b\/b=p) H1 e1 σ4 H4->EnvOk (λb=>A b\/b=p) H1 (envB own fr env) σ4 H4:=λ{σ4 H4} hh=>hh.weaken gl.symm (λj d' ej=>by
     by_cases hj:own.length<=j
     ·rw[gk j (.inr (by omega))];exact ej
     ·obtain⟨_,k,rfl,_⟩:=zmi ej;omega) λj d'=>zha
    cases b with
    | false=>
     have ec:ziw gf t f2 gf2 t2 e (envB own fr env) (ds.drop (i+1))=some rest:=ec
     exact iteF ⟨hlt,vs,done,rest,s3 _ _ (sy _ _ ep),Rps.same (Offs.grow (sy.trans s3)) _ rd,by omega,ec,edr,back hE3⟩
    | true=>
     have ec:((innL f2 gf2 t2 e e1).bind λr1=>(ziw gf t f2 gf2 t2 e (envB own fr env) (ds.drop (i+1))).map λrs=>r1++rs)=some rest:=ec
     obtain⟨r1,er,ec⟩:=qA.mp ec
     obtain⟨rest',er',rfl⟩:=qE.mp ec
     obtain⟨⟨ds2,bs2⟩,e2,er⟩:=qA.mp er
     split at er
     ·rename_i hl2
      have hl2:ds2.length<300:=hl2
      have l2:=zne er
      refine iteT (zabz (B:=λb=>A b\/b=p) (p:=p) (vs:=vs) (done:=done) h5 h6 hy h7 h4 na (λj d' h8 h9 ej=>?_) (.inr rfl) hp hE3 (s3 _ _ (sy _ _ ep)) (Rps.same (Offs.grow (sy.trans s3)) _ rd) e2 (by omega) er λσ5 H5 vs5 ep5 rd5 hE5=>?_)
      ·rw[gk j (.inr h8),zaca h9]at ej;cases ej
      ·have l2':r1.length<=ds2.length:=l2
       exact⟨hlt,vs5,done++r1,rest',ep5,rd5,by rw[qF];omega,er',by rw[<- edr,qAD],back hE5⟩
     ·cases er
  ·have hi':i=ds.length:=by omega
   subst hi'
   rw[qAa]at ec
   cases ec
   rw[q9]at edr
   subst edr
   refine .inl ⟨ys,q _ H' (s.trans hE.base) ⟨?_,λ_=>⟨p,rfl,s.free hp,?_⟩⟩⟩
   ·show Rp (Offs (lim fx env σ (if zda done=true then[]else bs++capA fr env)) H') (.list done) (.ref p)
    have nl:∀cs,¬lim fx env σ cs p:=λcs z=>by
     obtain⟨o,eo⟩:=(h.up s).lims _ p z
     rw[hp]at eo;cases eo
    refine zgr (by rw[Offs.get (nl _)];exact ep) ?_
    split
    ·rename_i f;exact zhb f rd
    ·exact Rps.same (Offs.sub λb z=>.inl ((hA' b).mp z)) _ rd
   ·show zff (Offs (λb=>lim fx env σ (if zda done=true then[]else bs++capA fr env) b\/b=p) H') H' p (.list done)
    refine⟨vs,ep,?_⟩
    split
    ·rename_i f;exact zhb f rd
    ·exact Rps.same (Offs.sub λb z=>z.imp (hA' b).mp id) _ rd
 ·cases hr
end L2
namespace PySem
open Sem (wp)
end PySem
namespace L2
open PySem PySem.Spec PyProof.Rows
instance memKey (k:Key) (l:List Key):Decidable (k∈l):=decidable_of_iff (∃x,x∈l/\x=k) ⟨λ⟨x,h,e⟩=>e▸h,λh=>⟨k,h,rfl⟩⟩
end L2
namespace PySem
open Sem (wp)
end PySem
namespace L2
open PySem PySem.Spec PyProof.Rows
end L2
namespace PySem
open Sem (wp)
end PySem
namespace L2
open PySem PySem.Spec PyProof.Rows
end L2
namespace PySem
open Sem (wp)
open AutoSeq1 (wpAny_loadPart')
end PySem
namespace L2
open PySem PySem.Spec PyProof.Rows
noncomputable def strD:GF
 | [.int i]=>if i.natAbs<10 ^ 101 then some (.str (toString i),false)else none
 | _=>none
theorem zaip:SC (λxs H Q=>∃i,xs=[.int i]/\i.natAbs.log2<1920/\Q (.str (toString i)) H) strD:=by
 intro A H vs ds hA rv d fr e Q q
 unfold strD at e
 split at e
 ·split at e
  ·rename_i i hi
   cases e
   obtain⟨v,rfl,r1⟩:=rps1 rv
   cases zcj r1
   refine⟨_,rfl,?_,q _ H (Same.refl _) zal (λz=>by cases z)⟩
   rcases qA5 i.natAbs with h0|hp
   ·rw[h0];decide
   ·have:i.natAbs.log2<400:=(Nat.log2_lt (by omega)).mpr (qH hi (by decide +kernel))
    omega
  ·cases e
 ·cases e
noncomputable def isStar:Expr->Bool
 | .Starred ..=>true
 | _=>false
theorem zaq{e:Expr}{es:List Expr}{env:Env}(h:isStar e=false):starEach (e::es) env=(false,eval e env)::starEach es env:=by
 cases e<;>first
  | rfl
  | cases h
theorem zacc{X:Cx}{e:Expr}{es:List Expr}{te:TE}{t:TA}(ha:PE X e te)(hr:PA X es t)(hs:isStar e=false:=by rfl):PA X (e::es) (tCons te t):=zaeg ha hr (zaq hs)
end L2
namespace PySem.SeqAt
open AutoSeq1 (wpAny_loadPart')
open MeetsSeq PyProof.Rows
end PySem.SeqAt
namespace L2
open PySem PySem.Spec PyProof.Rows
theorem Rps.setAt{H:Hp}{ds:List PyData}{vs:List V}(h:Rps H ds vs){d:PyData}{v:V}(hv:Rp H d v)(n:Nat):Rps H (ds.set n d) (vs.set n v):=by
 induction n generalizing ds vs with
 | zero=>
  cases ds with
  | nil=>unfold Rps at h;subst h;exact zca
  | cons e ds=>unfold Rps at h;obtain⟨w,ws,rfl,h1,h2⟩:=h;exact zby hv h2
 | succ n ih=>
  cases ds with
  | nil=>unfold Rps at h;subst h;exact zca
  | cons e ds=>unfold Rps at h;obtain⟨w,ws,rfl,h1,h2⟩:=h;exact zby h1 (ih h2)
structure Bx(p:Prop):Prop where
 out:p
theorem Bx.pt{X:Cx}{e:Expr}{t:TT}(h:Bx (PW X e t)):Bx (PT X e t):=⟨h.out.pt⟩
theorem zaf:∀{X:L2.Cx}{i:Int}{j:Nat}{pos:qp},L2.Bx (L2.PE X (qP.Constant (PySem.Const.int i) j pos) (L2.tC (L2.V.int i))):=by
 intro X i j pos
 exact⟨@zagz X i j pos⟩
theorem zab:∀{X:L2.Cx},L2.Bx (L2.PA X [] L2.tNil):=by
 intro X
 exact⟨@zaho X⟩
theorem zdp:∀{X:L2.Cx}{e:qP}{es:List qP}{te:L2.TE}{t:L2.TA},L2.Bx (L2.PE X e te)->L2.Bx (L2.PA X es t)->L2.isStar e=Bool.false->L2.Bx (L2.PA X (e::es) (L2.tCons te t)):=by
 intro X e es te t ha hr hs
 exact⟨@zacc X e es te t ha.out hr.out hs⟩
theorem zau:∀{X:L2.Cx}{a b:qP}{ta tb:L2.TE}{pos:qp}{op:PySem.Operator}{r:L2.R2},L2.OpR X (PySem.binaryOp op) r->L2.Bx (L2.PE X a ta)->L2.Bx (L2.PE X b tb)->L2.Bx (L2.PE X (a.BinOp op b pos) (L2.tOp r ta tb)):=by
 intro X a b ta tb pos op r ho ha hb
 exact⟨@zakj X a b ta tb pos op r ho ha.out hb.out⟩
theorem zam:∀{X:L2.Cx}{st:PySem.Stmt}{t:L2.TS},L2.Bx (L2.PS X st t)->L2.Bx (L2.PSs X [st] t):=by
 intro X st t h1
 exact⟨@zady X st t h1.out⟩
theorem zad:∀{X:L2.Cx}{st:PySem.Stmt}{rest:List PySem.Stmt}{t u:L2.TS},L2.Bx (L2.PS X st t)->L2.Bx (L2.PSs X rest u)->L2.Bx (L2.PSs X (st::rest) (L2.tSeq t u)):=by
 intro X st rest t u h1 h2
 exact⟨@zaaw X st rest t u h1.out h2.out⟩
theorem zlp:∀{X:L2.Cx}{x:PySem.Str}{p pos:qp}{e:qP}{es:List qP}{t:L2.TA}{ps:List PySem.Str}{k:Nat}{sp:L2.Sp},L2.Dn X.prog X.w X.K X.mg X.base x ps k sp->L2.Room k X.A->L2.Gl X x->L2.Bx (L2.PA X (e::es) t)->(x==qAC "__debug__")=Bool.false->qAB (e::es) X.env=(Bool.false,PySem.eval e X.env)::qAB es X.env->((PySem.backTo pos (qAB es X.env)).any λ(x:Bool×PySem.Sem PySem.Value)=>x.fst)=Bool.false->L2.Bx (L2.PE X ((qP.Name x p).Call (e::es) [] pos) (L2.tCall sp [] L2.E0 t)):=by
 intro X x p pos e es t ps k sp D hr hg ha hdb he hpl
 exact⟨@zaks X x p pos e es t ps k sp D hr hg ha.out hdb he hpl⟩
theorem zbf:∀{X:L2.Cx}{e:qP}{te:L2.TE}{pos:qp},L2.Bx (L2.PE X e te)->L2.Bx (L2.PS X (PySem.Stmt.Return (Option.some e) pos) (L2.tRet te)):=by
 intro X e te pos he
 exact⟨@zahf X e te pos he.out⟩
theorem zur:∀{X:L2.Cx}{pos:qp}{i:Nat}{x:PySem.Str}{e:qP}{te:L2.TE}{pos':qp},X.N.Nodup->X.N[i]?=Option.some x->L2.Loc X.env.scope x->L2.Bx (L2.PE X e te)->PySem.swapsWith e (Option.some (qP.Name x pos')) pos.line X.env=Pure.pure Bool.false->X.fn x=Bool.true\/List.lookup x X.env.scope.names=Option.some PySem.NameKind.local->L2.Bx (L2.PS X (PySem.Stmt.Assign [qP.Name x pos'] e pos) (L2.tAsg te (L2.gName i))):=by
 intro X pos i x e te pos' hN hi hx he hs hf
 exact⟨@zahi X pos i x e te pos' hN hi hx he.out hs hf⟩
theorem zzh:∀{X:L2.Cx}{x:PySem.Str}{p pos:qp}{e:qP}{es:List qP}{t:L2.TA}{id:String}{r:List L2.V->L2.Hp->L2.VK->Prop},L2.CallR X (PySem.Value.builtin id) r->L2.Gl X x->X.mg x=Option.none->PySem.bootBuiltins x=Option.some (PySem.Value.builtin id)->L2.Bx (L2.PA X (e::es) t)->x≠qAC "__name__"->(x==qAC "__debug__")=Bool.false->qAB (e::es) X.env=(Bool.false,PySem.eval e X.env)::qAB es X.env->((PySem.backTo pos (qAB es X.env)).any λ(x:Bool×PySem.Sem PySem.Value)=>x.fst)=Bool.false->L2.Bx (L2.PE X ((qP.Name x p).Call (e::es) [] pos) (L2.tCB r t)):=by
 intro X x p pos e es t id r hc hg hm hv ha hn hdb he hpl
 exact⟨@zabc X x p pos e es t id r hc hg hm hv ha.out hn hdb he hpl⟩
theorem zaiq:∀{X:L2.Cx}{b:Bool}{j:Nat}{pos:qp},L2.Bx (L2.PE X (qP.Constant (PySem.Const.bool b) j pos) (L2.tC (L2.V.bl b))):=by
 intro X b j pos
 exact⟨@zakh X b j pos⟩
theorem zadl:∀{X:L2.Cx}{a b:qP}{ta tb:L2.TE}{pos:qp}{r:L2.R2},L2.IxR X r->L2.Bx (L2.PE X a ta)->L2.Bx (L2.PE X b tb)->L2.PlainIx b->L2.Bx (L2.PE X (a.Subscript b pos) (L2.tOp r ta tb)):=by
 intro X a b ta tb pos r hr ha hb hs
 exact⟨@zakp X a b ta tb pos r hr ha.out hb.out hs⟩
theorem zec:∀{X:L2.Cx}{t u:L2.TS}{pos:qp}{c:qP}{a b:List PySem.Stmt}{tc:L2.TT},L2.Bx (L2.PT X c tc)->L2.Bx (L2.PSs X a t)->L2.Bx (L2.PSs X b u)->L2.Bx (L2.PS X (PySem.Stmt.If c a b pos) (L2.tIfS tc t u)):=by
 intro X t u pos c a b tc hc ha hb
 exact⟨@zaki X t u pos c a b tc hc.out ha.out hb.out⟩
theorem zbt:∀{X:L2.Cx},L2.Bx (L2.PSs X [] L2.tNext):=by
 intro X
 exact⟨@zadx X⟩
theorem zus:∀{X:L2.Cx}{a:qP}{pos:qp}{tA:L2.TT},L2.Bx (L2.PT X a tA)->L2.Bx (L2.PT X (qP.UnaryOp PySem.UnaryOp.Not a pos) (L2.tNot tA)):=by
 intro X a pos tA ha
 exact⟨@zahc X a pos tA ha.out⟩
theorem zlh:∀{X:L2.Cx}{K:qD},
 X.K=K->
  ∀{a:qP}{ta:L2.TE},
   L2.Bx (L2.PE X a ta)->
    (∀(whole:PySem.Sem PySem.Value),
      PySem.isTrue a X.env whole=do
       let v <- whole
       PySem.standAt a.pos
       PySem.holding [v] (PySem.truthy v))->
     L2.Bx (L2.PT X a λ(σ:L2.St)(H:L2.Hp)(Q:Bool->L2.Hp->Prop)=>ta σ H λ(x:L2.V)(H':L2.Hp)=>∃(k:Bool),L2.TruV K x H' k/\Q k H'):=by
 intro X K hK a ta ha he
 exact⟨@zzd X K hK a ta ha.out he⟩
theorem zacd:∀{X:L2.Cx}{pos:qp}{i:Nat}{x:PySem.Str},X.N.Nodup->X.N[i]?=Option.some x->L2.Loc X.env.scope x->X.fn x=Bool.true\/List.lookup x X.env.scope.names=Option.some PySem.NameKind.local->L2.Bx (L2.PG X (qP.Name x pos) (L2.gName i)):=by
 intro X pos i x hN hi hx hf
 exact⟨@zaea X pos i x hN hi hx hf⟩
theorem zbp:∀{X:L2.Cx}{es:List qP}{t:L2.TA}{pos:qp},L2.Bx (L2.PA X es t)->L2.Bx (L2.PE X (qP.List es pos) (L2.tLst t)):=by
 intro X es t pos h
 exact⟨@zahq X es t pos h.out⟩
theorem zed:∀{X:L2.Cx}{tg iter:qP}{body:List PySem.Stmt}{wi:L2.TI}{g:L2.TG}{tb:L2.TS}{pos:qp},PySem.PassesOwn (PySem.model X.prog X.w) X.A X.env X.xe->X.calm=Bool.true->L2.Bx (L2.PI X tg iter wi)->L2.Bx (L2.PG X tg g)->L2.Bx (L2.PSs X body tb)->(∀(x:PySem.Value),PySem.foldedSetIterable iter X.env x=Pure.pure x)->L2.Bx (L2.PS X (PySem.Stmt.For tg iter body [] pos) (L2.tFor wi g tb)):=by
 intro X tg iter body wi g tb pos hp hc hi hg hb hs
 exact⟨@zahj X tg iter body wi g tb pos hp hc hi.out hg.out hb.out hs⟩
theorem zbq:∀{X:L2.Cx}{a b:qP}{ta tb:L2.TE}{pos:qp}{op:PySem.CmpOp}{r:L2.R2},L2.OpR X (PySem.compareOp op) r->L2.Bx (L2.PE X a ta)->L2.Bx (L2.PE X b tb)->PySem.behindInMarks op b=Bool.false->L2.Bx (L2.PT X (a.Compare [op] [b] pos) (L2.tTest (L2.tOp r ta tb))):=by
 intro X a b ta tb pos op r ho ha hb hm
 exact⟨@zaee X a b ta tb pos op r ho ha.out hb.out hm⟩
theorem zay:∀{X:L2.Cx}{x:PySem.Str}{j:Nat}{pos:qp},L2.Bx (L2.PE X (qP.Constant (PySem.Const.str x) j pos) (L2.tC (L2.V.str x))):=by
 intro X x j pos
 exact⟨@zaha X x j pos⟩
theorem zch:∀{X:L2.Cx}{e:qP}{te:L2.TE}{pos:qp},L2.Bx (L2.PE X e te)->PySem.swapsWith e Option.none pos.line X.env=Pure.pure Bool.false->L2.Bx (L2.PS X (PySem.Stmt.Expr e pos) (L2.tDrop te)):=by
 intro X e te pos he hs
 exact⟨@zadz X e te pos he.out hs⟩
theorem zdq:∀{X:L2.Cx}{es:List qP}{t:L2.TA}{pos:qp}{x1:Nat},L2.Bx (L2.PA X es t)->L2.Bx (L2.PE X (qP.Tuple es x1 pos) (L2.tTup t)):=by
 intro X es t pos x1 h
 exact⟨@zahp X es t pos x1 h.out⟩
theorem zzi:∀{X:L2.Cx}{a:qP}{pos:qp}{op:PySem.BoolOp}{t:L2.TE},L2.Bx (L2.PE X a t)->L2.Bx (L2.PE X (qP.BoolOp op [a] pos) t):=by
 intro X a pos op t h
 exact⟨@zahd X a pos op t h.out⟩
theorem zig:∀{X:L2.Cx}{a b:qP}{ta tb:L2.TE}{pos:qp}{op:PySem.CmpOp}{r:L2.R2},L2.OpR X (PySem.compareOp op) r->L2.Bx (L2.PE X a ta)->L2.Bx (L2.PE X b tb)->PySem.behindInMarks op b=Bool.false->L2.Bx (L2.PE X (a.Compare [op] [b] pos) (L2.tOp r ta tb)):=by
 intro X a b ta tb pos op r ho ha hb hm
 exact⟨@zaed X a b ta tb pos op r ho ha.out hb.out hm⟩
theorem zxc:∀{X:L2.Cx}{x:PySem.Str}{p pos:qp}{e:qP}{es:List qP}{t:L2.TA}{T:String}{r:List L2.V->L2.Hp->L2.VK->Prop},L2.CallR X (PySem.Value.type T) r->L2.Gl X x->X.mg x=Option.none->PySem.bootBuiltins x=Option.some (PySem.Value.type T)->L2.Bx (L2.PA X (e::es) t)->x≠qAC "__name__"->(x==qAC "__debug__")=Bool.false->qAB (e::es) X.env=(Bool.false,PySem.eval e X.env)::qAB es X.env->((PySem.backTo pos (qAB es X.env)).any λ(x:Bool×PySem.Sem PySem.Value)=>x.fst)=Bool.false->L2.Bx (L2.PE X ((qP.Name x p).Call (e::es) [] pos) (L2.tCB r t)):=by
 intro X x p pos e es t T r hc hg hm hv ha hn hdb he hpl
 exact⟨@zyg X x p pos e es t T r hc hg hm hv ha.out hn hdb he hpl⟩
theorem zace:∀{X:L2.Cx}{x:PySem.Str}{v:L2.V}{u:PySem.Value}{pos:qp},L2.Gl X x->X.mg x=Option.none->PySem.bootBuiltins x=Option.some u->L2.RelV v u->x≠qAC "__name__"->(x==qAC "__debug__")=Bool.false->L2.Bx (L2.PE X (qP.Name x pos) (L2.tC v)):=by
 intro X x v u pos hg hm hv r hn hd
 exact⟨@zadv X x v u pos hg hm hv r hn hd⟩
theorem zra:∀{X:L2.Cx}{e:qP}{te:L2.TE},L2.Bx (L2.PE X e te)->L2.Bx (L2.PO X (Option.some e) (L2.tPart te)):=by
 intro X e te h
 exact⟨@zael X e te h.out⟩
theorem zrb:∀{X:L2.Cx},L2.Bx (L2.PO X Option.none L2.tNoPart):=by
 intro X
 exact⟨@zaek X⟩
theorem znf:∀{X:L2.Cx}{e:qP}{te:L2.TE}{lo hi:Option qP}{tl th:L2.TO}{pos p2:qp}{r:L2.V->Option Int->Option Int->L2.Hp->L2.VK->Prop},L2.SlR X r->L2.Bx (L2.PE X e te)->L2.Bx (L2.PO X lo tl)->L2.Bx (L2.PO X hi th)->L2.Bx (L2.PE X (e.Subscript (qP.Slice lo hi Option.none p2) pos) (L2.tSl r te tl th)):=by
 intro X e te lo hi tl th pos p2 r hr he hl hu
 exact⟨@zabd X e te lo hi tl th pos p2 r hr he.out hl.out hu.out⟩
theorem zdd:∀{X:L2.Cx}{scope:PySem.Scope}{N' own:List PySem.Str}{fr:List Nat}{elt target iter:qP}{ifs:List qP}{cpos:qp}{wi:L2.TI}{g:L2.TG}{tt:L2.TT}{te:L2.TE},L2.CompOk X scope N' own fr->X.calm=Bool.true->L2.Bx (L2.PI X target iter wi)->(∀(cl:List (PySem.Str×PySem.Addr))(C:PySem.Addr)(s:PySem.Shared)(H:L2.Hp)(fp:List PySem.Addr),L2.PG (L2.cxComp X scope N' own cl C s H fp) target g/\L2.PF (L2.cxComp X scope N' own cl C s H fp) ifs tt/\L2.PE (L2.cxComp X scope N' own cl C s H fp) elt te)->(∀(x:PySem.Value),PySem.foldedSetIterable iter X.env x=Pure.pure x)->L2.Bx (L2.PE X (elt.ListComp [{target:=target,iter:=iter,ifs:=ifs,is_async:=0}] scope cpos) (L2.tComp1 wi g tt te own fr)):=by
 intro X scope N' own fr elt target iter ifs cpos wi g tt te c hc hi hb hs
 exact⟨@zabn X scope N' own fr elt target iter ifs cpos wi g tt te c hc hi.out hb hs⟩
theorem zbj:∀{X:L2.Cx}{K:qD},X.K=K->∀{T:String}{name:PySem.Str}{id:String}{r:L2.V->List L2.V->L2.Hp->L2.VK->Prop}{o e:qP}{es:List qP}{to:L2.TE}{t:L2.TA}{apos cpos:qp},PySem.PlainAttrs T->PySem.Slot T name id->PySem.typeOf (PySem.Value.builtin id)=Pure.pure (PySem.Value.type "method_descriptor")->L2.MtR X id r->L2.Bx (L2.PE X o to)->L2.Bx (L2.PA X (e::es) t)->PySem.attributeBase o name X.env (PySem.eval o X.env)=PySem.eval o X.env->((((PySem.backTo cpos (qAB (e::es) X.env)).all λ(x:Bool×PySem.Sem PySem.Value)=>!x.fst)&&(PySem.backToKw cpos (PySem.keywordEach [] X.env)).all λ(x:Option PySem.Str×PySem.Sem PySem.Value)=>x.fst.isSome)&&Decidable.decide (((e::es).length+([]:List Keyword).length+if([]:List Keyword).isEmpty=Bool.true then 0 else 1)<30))=Bool.true->(apos.endLine==cpos.line)=Bool.true->qAB (e::es) X.env=(Bool.false,PySem.eval e X.env)::qAB es X.env->((PySem.backTo cpos (qAB es X.env)).any λ(x:Bool×PySem.Sem PySem.Value)=>x.fst)=Bool.false->L2.Bx (L2.PE X ((o.Attribute name apos).Call (e::es) [] cpos) (L2.tBM K T r to t)):=by
 intro X K hK T name id r o e es to t apos cpos pa slot hty hm ho ha hbase hfew hline hs hplain
 exact⟨@zaig X K hK T name id r o e es to t apos cpos pa slot hty hm ho.out ha.out hbase hfew hline hs hplain⟩
theorem zng:∀{X:L2.Cx}{a b:qP}{ta tb:L2.TE}{pos:qp}{rest:List qP},L2.Bx (L2.PE X a ta)->L2.Bx (L2.PE X (qP.BoolOp PySem.BoolOp.And (b::rest) pos) tb)->L2.Bx (L2.PE X (qP.BoolOp PySem.BoolOp.And (a::b::rest) pos) (L2.tAndV ta tb)):=by
 intro X a b ta tb pos rest ha hb
 exact⟨@zahe X a b ta tb pos rest ha.out hb.out⟩
theorem zbl:∀{X:L2.Cx}{K:qD},X.K=K->∀{tg l:qP}{tl:L2.TE},L2.Bx (L2.PE X l tl)->L2.Bx (L2.PI X tg l (L2.iSeq K tl)):=by
 intro X K hK tg l tl hl
 exact⟨@zafd X K hK tg l tl hl.out⟩
theorem zdu:∀{X:L2.Cx}{tg a:qP}{ta:L2.TA}{p pos:qp},L2.Gl X (qAC "range")->X.mg (qAC "range")=Option.none->L2.Bx (L2.PA X [a] ta)->qAB [a] X.env=[(Bool.false,PySem.eval a X.env)]->L2.Bx (L2.PI X tg ((qP.Name (qAC "range") p).Call [a] [] pos) (L2.iRng1 ta)):=by
 intro X tg a ta p pos hg hm ha hs
 exact⟨@zxy X tg a ta p pos hg hm ha.out hs⟩
theorem zdj:∀{X:L2.Cx},L2.Bx (L2.PF X [] L2.tAll):=by
 intro X
 exact⟨@zaia X⟩
theorem zacf:∀{X:L2.Cx}{kpos:qp}{e:qP}{kws:List PySem.Keyword}{te:L2.TE}{t:L2.TA}{nm:Option PySem.Str},L2.Bx (L2.PE X e te)->L2.Bx (L2.PK X kws t)->L2.Bx (L2.PK X ({arg:=nm,value:=e,pos:=kpos}::kws) (L2.tCons te t)):=by
 intro X kpos e kws te t nm ha hr
 exact⟨@zaei X kpos e kws te t nm ha.out hr.out⟩
theorem zrc:∀{X:L2.Cx}{a:qP}{pos:qp}{tA:L2.TT},L2.Bx (L2.PT X a tA)->L2.Bx (L2.PW X (qP.BoolOp PySem.BoolOp.And [a] pos) tA):=by
 intro X a pos tA ha
 exact⟨@zadw X a pos tA ha.out⟩
theorem zut:∀{X:L2.Cx}{a b:qP}{pos:qp}{tA tB':L2.TT}{rest:List qP},L2.Bx (L2.PT X a tA)->L2.Bx (L2.PW X (qP.BoolOp PySem.BoolOp.And (b::rest) pos) tB')->L2.Bx (L2.PW X (qP.BoolOp PySem.BoolOp.And (a::b::rest) pos) (L2.tAnd tA tB')):=by
 intro X a b pos tA tB' rest ha hb
 exact⟨@zahb X a b pos tA tB' rest ha.out hb.out⟩
theorem zkm:∀{X:L2.Cx}{scope:PySem.Scope}{N' own:List PySem.Str}{fr:List Nat}{elt target iter:qP}{ifs:List qP}{cpos:qp}{wi:L2.TI}{g:L2.TG}{tt:L2.TT}{te:L2.TE}{spos py:qp}{i:Nat}{y:PySem.Str},L2.CompOk X scope N' own fr->X.calm=Bool.true->L2.Bx (L2.PI X target iter wi)->(∀(cl:List (PySem.Str×PySem.Addr))(C:PySem.Addr)(s:PySem.Shared)(H:L2.Hp)(fp:List PySem.Addr),L2.PG (L2.cxComp X scope N' own cl C s H fp) target g/\L2.PF (L2.cxComp X scope N' own cl C s H fp) ifs tt/\L2.PE (L2.cxComp X scope N' own cl C s H fp) elt te)->PySem.swapsWith (elt.ListComp [{target:=target,iter:=iter,ifs:=ifs,is_async:=0}] scope cpos) (Option.some (qP.Name y py)) spos.line X.env=Pure.pure Bool.true->X.N.Nodup->X.N[i]?=Option.some y->List.lookup y X.env.scope.names=Option.some PySem.NameKind.local->(∀(x:PySem.Value),PySem.foldedSetIterable iter X.env x=Pure.pure x)->L2.Bx (L2.PS X (PySem.Stmt.Assign [qP.Name y py] (elt.ListComp [{target:=target,iter:=iter,ifs:=ifs,is_async:=0}] scope cpos) spos) (L2.tAsgC1 wi g tt te own fr i)):=by
 intro X scope N' own fr elt target iter ifs cpos wi g tt te spos py i y c hc hi hb hsw hN hy hl hs
 exact⟨@zabo X scope N' own fr elt target iter ifs cpos wi g tt te spos py i y c hc hi.out hb hsw hN hy hl hs⟩
theorem znh:∀{X:L2.Cx}{pos:qp}{tg e:qP}{te:L2.TE}{g:L2.TG},L2.Bx (L2.PE X e te)->L2.Bx (L2.PG X tg g)->PySem.swapsWithSole [tg] e pos.line X.env=Pure.pure Bool.false->PySem.swappedStores [tg] e X.env=Pure.pure Option.none->List.map (λ(x:Bool×(PySem.Value->PySem.Sem Unit))=>x.snd) (PySem.assignEach [tg] X.env)=[PySem.assign tg X.env]->L2.Bx (L2.PS X (PySem.Stmt.Assign [tg] e pos) (L2.tAsg te g)):=by
 intro X pos tg e te g he hg hs hw h1
 exact⟨@zadb X pos tg e te g he.out hg.out hs hw h1⟩
theorem zafi:∀{X:L2.Cx},L2.Bx (L2.PK X [] L2.tNil):=by
 intro X
 exact⟨@zahs X⟩
theorem zcm:∀{X:L2.Cx},L2.Bx (L2.PGs X [] L2.gNil):=by
 intro X
 exact⟨@zaeb X⟩
theorem zaw:∀{X:L2.Cx}{e:qP}{es:List qP}{t:L2.TG}{u:L2.TGs},L2.Bx (L2.PG X e t)->L2.Bx (L2.PGs X es u)->List.map (λ(x:Bool×(PySem.Value->PySem.Sem Unit))=>x.snd) (PySem.assignEach (e::es) X.env)=PySem.assign e X.env::List.map (λ(x:Bool×(PySem.Value->PySem.Sem Unit))=>x.snd) (PySem.assignEach es X.env)->L2.Bx (L2.PGs X (e::es) (L2.gCons t u)):=by
 intro X e es t u h1 h2 hs
 exact⟨@zaax X e es t u h1.out h2.out hs⟩
theorem zcn:∀{X:L2.Cx}{K:qD},X.K=K->∀{es:List qP}{k:Nat}{t:L2.TGs}{n:Nat}{pos:qp},X.calm=Bool.true->L2.Bx (L2.PGs X es t)->(PySem.assignEach es X.env).length=n->List.findIdx? (λ(x:Bool×(PySem.Value->PySem.Sem Unit))=>x.fst) (PySem.assignEach es X.env)=Option.none->L2.Bx (L2.PG X (qP.Tuple es k pos) (L2.gTup K n t)):=by
 intro X K hK es k t n pos hc h hn hst
 exact⟨@zaes X K hK es k t n pos hc h.out hn hst⟩
theorem zadm:∀{X:L2.Cx}{a:qP}{ta:L2.TE}{pos:qp}{op:PySem.UnaryOp}{r:L2.V->L2.Hp->L2.VK->Prop},L2.UnR X (PySem.unaryOp op) r->L2.Bx (L2.PE X a ta)->L2.Bx (L2.PE X (qP.UnaryOp op a pos) (L2.tUn r ta)):=by
 intro X a ta pos op r ho ha
 exact⟨@zakk X a ta pos op r ho ha.out⟩
theorem zafj:∀{X:L2.Cx}{x:PySem.Str}{p pos:qp}{kws:List PySem.Keyword}{tk:L2.TA}{ps ks:List PySem.Str}{perm:List Nat}{k:Nat}{sp:L2.Sp},L2.DnK X.prog X.w X.K X.mg X.base x ps ks perm k sp->L2.Room k X.A->L2.Gl X x->L2.Bx (L2.PK X kws tk)->((PySem.backToKw pos (PySem.keywordEach kws X.env)).all λ(x:Option PySem.Str×PySem.Sem PySem.Value)=>x.fst.isSome)=Bool.true->List.filterMap (λ(x:Option PySem.Str×PySem.Sem PySem.Value)=>x.fst) (PySem.backToKw pos (PySem.keywordEach kws X.env))=ks->(x==qAC "__debug__")=Bool.false->(((PySem.backTo pos (qAB [] X.env)).any λ(x:Bool×PySem.Sem PySem.Value)=>x.fst)||(PySem.backToKw pos (PySem.keywordEach kws X.env)).any λ(x:Option PySem.Str×PySem.Sem PySem.Value)=>x.fst.isNone)=Bool.false->L2.Bx (L2.PE X ((qP.Name x p).Call [] kws pos) (L2.tCallK sp (L2.gPerm L2.V.non perm ks.length) L2.E0 L2.tNil tk)):=by
 intro X x p pos kws tk ps ks perm k sp D hr hg hkw hall hks hdb hpl
 exact⟨@zain X x p pos kws tk ps ks perm k sp D hr hg hkw.out hall hks hdb hpl⟩
theorem zzj:∀{X:L2.Cx}{scope:PySem.Scope}{N' own:List PySem.Str}{fr:List Nat}{elt target iter target2 iter2:qP}{ifs ifs2:List qP}{cpos:qp}{wi wi2:L2.TI}{g g2:L2.TG}{tt tt2:L2.TT}{te:L2.TE},L2.CompOk X scope N' own fr->X.calm=Bool.true->L2.Bx (L2.PI X target iter wi)->(∀(cl:List (PySem.Str×PySem.Addr))(C:PySem.Addr)(s:PySem.Shared)(H:L2.Hp)(fp:List PySem.Addr),L2.PG (L2.cxComp X scope N' own cl C s H fp) target g/\L2.PF (L2.cxComp X scope N' own cl C s H fp) ifs tt/\L2.PI (L2.cxComp X scope N' own cl C s H fp) target2 iter2 wi2/\L2.PG (L2.cxComp X scope N' own cl C s H fp) target2 g2/\L2.PF (L2.cxComp X scope N' own cl C s H fp) ifs2 tt2/\L2.PE (L2.cxComp X scope N' own cl C s H fp) elt te)->(∀(x:PySem.Value),PySem.foldedSetIterable iter X.env x=Pure.pure x)->(∀(env:PySem.Env)(x:PySem.Value),PySem.foldedSetIterable iter2 env x=Pure.pure x)->L2.Bx (L2.PE X (elt.ListComp [{target:=target,iter:=iter,ifs:=ifs,is_async:=0},{target:=target2,iter:=iter2,ifs:=ifs2,is_async:=0}] scope cpos) (L2.tComp2 wi g tt wi2 g2 tt2 te own fr)):=by
 intro X scope N' own fr elt target iter target2 iter2 ifs ifs2 cpos wi wi2 g g2 tt tt2 te c hc hi hb hs hs2
 exact⟨@zaby X scope N' own fr elt target iter target2 iter2 ifs ifs2 cpos wi wi2 g g2 tt tt2 te c hc hi.out hb hs hs2⟩
theorem bv{X:Cx}(i:Nat){x:Str}{pos:Pos}(hN:X.N[i]?=some x:=by rfl)(hv:visB X.env.scope x=true:=by rfl)(hd:(x==("__debug__":Str))=false:=by decide)
  (hcd:(x==("__classdict__":Str))=false:=by decide):Bx (PE X (.Name x pos) (tVar i)):=⟨zagy hN (visB.of hv) hd hcd⟩
theorem zmj{X:Cx}{i:Nat}{o k e:Expr}{tk tv:TE}{pos pos':Pos}(ho:Bx (PE X o (tVar i)))(hk:Bx (PE X k tk))(hv:Bx (PE X e tv))
  (ha:∀v,assign (.Subscript o k pos') X.env v=(do
   let ov <- holding [v] (eval o X.env)
   let iv <- holding [v,ov] (eval k X.env)
   standAt pos'
   holding [v,ov,iv] (setItem ov iv v)
   release [v,ov,iv] []))
  (hs:swapsWithSole [.Subscript o k pos'] e pos.line X.env=pure false)(hw:swappedStores [.Subscript o k pos'] e X.env=pure none)(h1:(assignEach [.Subscript o k pos'] X.env).map (·.2)=[assign (.Subscript o k pos') X.env]) :
  Bx (PS X (.Assign [.Subscript o k pos'] e pos) (tAsg tv (gSub (tVar i) tk zabe))):=⟨zadb hv.out (zahh ho.out hk.out zabf ha) hs hw h1⟩
noncomputable def SatK(fx:Addr->Prop)(H0:Hp)(J:Nat->Prop)(σ0:St)(D:Ends):Out->Prop
 | .nx env=>∀σ H,EnvOk fx H0 env σ H->(∀j,J j->σ[j]?=σ0[j]?)->D.nx σ H
 | .bk env=>∀σ H,EnvOk fx H0 env σ H->(∀j,J j->σ[j]?=σ0[j]?)->D.bk σ H
 | .ct env=>∀σ H,EnvOk fx H0 env σ H->(∀j,J j->σ[j]?=σ0[j]?)->D.ct σ H
 | .rt d fr=>∀v H,Same H0 H->zsm fx H0 d fr v H->D.rt v H
noncomputable def SSk(J:Nat->Prop)(ts:TS)(F:SF):Prop:=∀(fx:Addr->Prop)(H0:Hp)(env:DEnv)(σ:St)(H:Hp)(D:Ends),EnvOk fx H0 env σ H->∀o,F env=some o->SatK fx H0 J σ D o->ts D σ H
section
variable{J:Nat->Prop}
noncomputable def SGk(J:Nat->Prop)(g:TG)(f:GT):Prop:=∀(fx:Addr->Prop)(H0:Hp)(env:DEnv)(σ:St)(H:Hp)(d:PyData)(v:V),EnvOk fx H0 env σ H->Rp (Offs (λa=>fx a\/own env σ a) H) d v->∀env',f d env=some env'->∀Q:St->Hp->Prop,
 (∀σ',EnvOk fx H0 env' σ' H->(∀j,J j->σ'[j]?=σ[j]?)->Q σ' H)->g v σ H Q
theorem zfz{i:Nat}(hJ:¬J i):SGk J (gName i) (gN i):=by
 intro fx H0 env σ H d v h r env' e Q q
 cases e
 exact q _ (h.setPl i r) λj hj=>qG λz=>hJ (by rw[z];exact hj)
end
end L2
namespace HT
open PySem PySem.Spec PyProof.Rows L2
end HT
namespace L2
open PySem PySem.Spec PyProof.Rows
end L2
namespace PySem
open Sem (wp)
end PySem
namespace L2
open PySem PySem.Spec PyProof.Rows
end L2
namespace PySem
open Sem (wp)
end PySem
namespace L2
open PySem PySem.Spec PyProof.Rows
structure MvR(R:Addr->Prop)(H H':Hp):Prop where
 keep:∀b o,¬R b->H b=some o->H' b=some o
 live:∀b o,H b=some o->∃o',H' b=some o'
theorem MvR.same{R:Addr->Prop}{H H':Hp}(s:Same H H'):MvR R H H':=⟨λb o _ e=>s b o e,λb o e=>⟨o,s b o e⟩⟩
theorem MvR.trans{R:Addr->Prop}{H H1 H2:Hp}(a:MvR R H H1)(b:MvR R H1 H2):MvR R H H2:=⟨λx o n e=>b.keep x o n (a.keep x o n e),λx o e=>let⟨o',e'⟩:=a.live x o e;b.live x o' e'⟩
theorem MvR.free{R:Addr->Prop}{H H':Hp}(m:MvR R H H'){b:Addr}(h:H' b=none):H b=none:=by
 cases e:H b with
 | none=>rfl
 | some o=>obtain⟨o',e'⟩:=m.live b o e;rw[h]at e';cases e'
theorem MvR.offs{R A:Addr->Prop}{H H':Hp}(m:MvR R H H')(h:∀b,R b->A b):Same (Offs A H) (Offs A H'):=λb o e=>by
 obtain⟨n,e⟩:=Offs.of e
 rw[Offs.get n]
 exact m.keep b o (λz=>n (h b z)) e
structure Kind (T:Type) where
 at_:Hp->V->(Addr->Prop)->T->Prop
 live:∀{H v R st},at_ H v R st->∀b,R b->∃o,H b=some o
 stay:∀{H H' v R st},at_ H v R st->(∀b o,R b->H b=some o->H' b=some o)->at_ H' v R st
structure Has{T:Type}(k:Kind T)(f:Nat)(fx:Addr->Prop)(H0:Hp)(env:DEnv)(σ:St)(H:Hp)(v:V)(R:Addr->Prop)(st:T):Prop where
 ok:EnvOk fx H0 env σ H
 no:env[f]?=some .no
 sl:σ[f]?=some (some v)
 th:k.at_ H v R st
 off:∀b,R b->fx b
 low:∀b,R b->H0 b=none
section
variable{T:Type}{k:Kind T}{f:Nat}{fx:Addr->Prop}{H0:Hp}{env:DEnv}{σ:St}{H H':Hp}{v:V}{R:Addr->Prop}{st st':T}
theorem Has.up(h:Has k f fx H0 env σ H v R st)(s:Same H H'):Has k f fx H0 env σ H' v R st:=⟨h.ok.up s,h.no,h.sl,k.stay h.th λb o _ e=>s b o e,h.off,h.low⟩
theorem Has.mv(h:Has k f fx H0 env σ H v R st)(m:MvR R H H')(t:k.at_ H' v R st'):Has k f fx H0 env σ H' v R st':=by
 have so:Same (Offs (λa=>fx a\/own env σ a) H) (Offs (λa=>fx a\/own env σ a) H'):=m.offs λb z=>.inl (h.off b z)
 refine⟨⟨h.ok.len,λi d e=>?_,λi d e=>?_,h.ok.inj,λb o e=>m.keep b o (λz=>by rw[h.low b z]at e;cases e) (h.ok.base b o e),λb z=>?_⟩,h.no,h.sl,t,h.off,h.low⟩
 ·obtain⟨u,h1,h2⟩:=h.ok.pl i d e
  exact⟨u,h1,Rp.same so d h2⟩
 ·obtain⟨a,h1,h2,h3,h4⟩:=h.ok.ac i d e
  exact⟨a,h1,h2,h3,h4.same so λo z=>m.keep a o (λy=>h3 (h.off a y)) z⟩
 ·obtain⟨o,e⟩:=h.ok.fxs b z
  exact m.live b o e
theorem Has.val(h:Has k f fx H0 env σ H v R st){H1:Hp}(m:MvR R H1 H'){r:Val}{w:V}(l:∀b,R b->∃o,H b=some o)(q:ValOk (lim fx env σ r.bs) H H1 r w):ValOk (lim fx env σ r.bs) H H' r w:=by
 refine⟨Rp.same (m.offs λb z=>.inl (h.off b z)) _ q.rp,λe=>?_⟩
 obtain⟨a,h1,h2,h3⟩:=q.fr e
 refine⟨a,h1,h2,h3.same (m.offs λb z=>.inl (.inl (h.off b z))) λo z=>m.keep a o (λy=>?_) z⟩
 obtain⟨o',e'⟩:=l a y
 rw[h2]at e';cases e'
end
noncomputable abbrev EFr(T:Type):=DEnv->T->Option (Val×T)
noncomputable def SEr{T:Type}(k:Kind T)(f:Nat)(te:TE)(g:EFr T):Prop:=∀(fx:Addr->Prop)(H0:Hp)(env:DEnv)(σ:St)(H:Hp)(v:V)(R:Addr->Prop)(st:T),Has k f fx H0 env σ H v R st->∀r st',g env st=some (r,st')->∀Q:VK,
 (∀w H',MvR R H H'->Has k f fx H0 env σ H' v R st'->ValOk (lim fx env σ r.bs) H H' r w->Q w H')->te σ H Q
noncomputable abbrev AFr(T:Type):=DEnv->T->Option (List Val×T)
noncomputable def SAr{T:Type}(k:Kind T)(f:Nat)(ta:TA)(g:AFr T):Prop:=∀(fx:Addr->Prop)(H0:Hp)(env:DEnv)(σ:St)(H:Hp)(v:V)(R:Addr->Prop)(st:T),Has k f fx H0 env σ H v R st->∀rs st',g env st=some (rs,st')->∀Q:List V->Hp->Prop,
 (∀ws H',MvR R H H'->Has k f fx H0 env σ H' v R st'->Paired (λr w=>ValOk (lim fx env σ r.bs) H H' r w) rs ws->Q ws H')->ta σ H Q
noncomputable abbrev TFr(T:Type):=DEnv->T->Option (Bool×T)
noncomputable def STr{T:Type}(k:Kind T)(f:Nat)(tt:TT)(g:TFr T):Prop:=∀(fx:Addr->Prop)(H0:Hp)(env:DEnv)(σ:St)(H:Hp)(v:V)(R:Addr->Prop)(st:T),Has k f fx H0 env σ H v R st->∀b st',g env st=some (b,st')->∀Q:Bool->Hp->Prop,
 (∀H',MvR R H H'->Has k f fx H0 env σ H' v R st'->Q b H')->tt σ H Q
section
variable{T:Type}{k:Kind T}{f:Nat}
noncomputable def zak(g:EF):EFr T:=λenv st=>(g env).map λr=>(r,st)
theorem zac{te:TE}{g:EF}(h:SE te g):SEr k f te (zak g):=by
 intro fx H0 env σ H v R st hh r st' e Q q
 obtain⟨r',er,e⟩:=qE.mp e
 cases e
 exact h fx H0 env σ H hh.ok r er Q λw H' s hv=>q w H' (MvR.same s) (hh.up s) hv
noncomputable def rNil:AFr T:=λ_ st=>some ([],st)
theorem zav:SAr k f tNil rNil:=by
 intro fx H0 env σ H v R st hh rs st' e Q q
 cases e
 exact q [] H (MvR.same (Same.refl _)) hh .nil
noncomputable def zaz(a:EFr T)(g:AFr T):AFr T:=λenv st=>(a env st).bind λx=>(g env x.2).bind λy=>some (x.1::y.1,y.2)
theorem zaj{te:TE}{ta:TA}{a:EFr T}{g:AFr T}(h1:SEr k f te a)(h2:SAr k f ta g):SAr k f (tCons te ta) (zaz a g):=by
 intro fx H0 env σ H v R st hh rs st' e Q q
 unfold zaz at e
 obtain⟨⟨x,s1⟩,ex,e⟩:=qA.mp e
 obtain⟨⟨ys,s2⟩,ey,e⟩:=qA.mp e
 cases e
 exact h1 fx H0 env σ H v R st hh x s1 ex _ λw H1 m1 k1 v1=>h2 fx H0 env σ H1 v R s1 k1 ys s2 ey _ λws H2 m2 k2 v2=>q (w::ws) H2 (m1.trans m2) k2
  (.cons (hh.val m2 (k.live hh.th) v1) (Paired.mapP v2 λ_ _ z=>⟨z.rp,λe=>let⟨a,g1,g2,g3⟩:=z.fr e;⟨a,g1,m1.free g2,g3⟩⟩))
noncomputable def rOp(w:OF)(a b:EFr T):EFr T:=λenv st=>(a env st).bind λx=>(b env x.2).bind λy=>(w x.1.d y.1.d).bind λz=>some (⟨z.1,z.2,bsOf z.1 (x.1.bs++y.1.bs)⟩,y.2)
theorem zacg{H:Hp}{Ho:Hp}{a:Addr}{d:PyData}(h:zff Ho H a d):zfb d=false:=by cases d<;>first|rfl|exact h.elim
theorem zcq{r:R2}{w:OF}{ta tb:TE}{fa fb:EFr T}(ho:SO r w)(ha:SEr k f ta fa)(hb:SEr k f tb fb):SEr k f (tOp r ta tb) (rOp w fa fb):=by
 intro fx H0 env σ H v R st hh rr st' hr Q q
 unfold rOp at hr
 obtain⟨⟨x,s1⟩,ex,hr⟩:=qA.mp hr
 obtain⟨⟨y,s2⟩,ey,hr⟩:=qA.mp hr
 obtain⟨⟨d,fr⟩,ez,hr⟩:=qA.mp hr
 cases hr
 refine ha fx H0 env σ H v R st hh x s1 ex _ λu H1 m1 k1 v1=>hb fx H0 env σ H1 v R s1 k1 y s2 ey _ λu2 H2 m2 k2 v2=>?_
 have l1:∀b,lim fx env σ (x.bs++y.bs) b->lim fx env σ x.bs b:=zmt λi hi=>qAK _ hi
 have l2:∀b,lim fx env σ (x.bs++y.bs) b->lim fx env σ y.bs b:=zmt λi hi=>qq _ hi
 have v1':=hh.val m2 (k.live hh.th) v1
 refine ho (lim fx env σ (x.bs++y.bs)) H2 u u2 x.d y.d (k2.ok.lims _) (v1'.later (Same.refl _) (Same.refl _) l1).rp (v2.later (Same.refl _) (Same.refl _) l2).rp d fr ez _ λz H3 s3 rp fr3=>q z H3 ((m1.trans m2).trans (MvR.same s3)) (k2.up s3) ⟨ziu rp,λe=>?_⟩
 obtain⟨a,g1,g2,g3⟩:=fr3 e
 refine⟨a,g1,(m1.trans m2).free g2,?_⟩
 show zff (Offs (λb=>lim fx env σ (bsOf d (x.bs++y.bs)) b\/b=a) H3) H3 a d
 rw[show bsOf d (x.bs++y.bs)=x.bs++y.bs by unfold bsOf;rw[if_neg (by rw[zacg g3];decide)]]
 exact g3
noncomputable def zzk(n:Nat)(g:GF)(a:AFr T):EFr T:=λenv st=>(a env st).bind λx=>if x.1.length=n then(g (zdb x.1)).bind λz=>some (⟨z.1,z.2,bsOf z.1 (bss x.1)⟩,x.2)else none
theorem zach{n:Nat}{g:GF}{ta:TA}{a:AFr T}(ha:SAr k f ta a):SEr k f (tCall (spD n g) [] E0 ta) (zzk n g a):=by
 intro fx H0 env σ H v R st hh rr st' hr Q q
 unfold zzk at hr
 obtain⟨⟨rs,s1⟩,er,hr⟩:=qA.mp hr
 split at hr
 ·rename_i hn
  obtain⟨⟨d,fr⟩,ez,hr⟩:=qA.mp hr
  cases hr
  refine ha fx H0 env σ H v R st hh rs s1 er _ λvs H1 m1 k1 v1=>?_
  rw[q9]
  refine⟨lim fx env σ (bss rs),zdb rs,d,fr,by rw[zes];exact hn,k1.ok.lims _,zer (λi hi=>hi) v1,ez,λw H3 s3 ⟨rp,fr3⟩=>q w H3 (m1.trans (MvR.same s3)) (k1.up s3) ⟨ziu rp,λe=>?_⟩⟩
  obtain⟨a,g1,g2,g3⟩:=fr3 e
  refine⟨a,g1,m1.free g2,?_⟩
  show zff (Offs (λb=>lim fx env σ (bsOf d (bss rs)) b\/b=a) H3) H3 a d
  rw[show bsOf d (bss rs)=bss rs by unfold bsOf;rw[if_neg (by rw[zacg g3];decide)]]
  exact g3
 ·cases hr
noncomputable def rCB(g:GF)(a:AFr T):EFr T:=λenv st=>(a env st).bind λx=>(g (zdb x.1)).bind λz=>some (⟨z.1,z.2,bsOf z.1 (bss x.1)⟩,x.2)
theorem zair{r:List V->Hp->VK->Prop}{g:GF}{ta:TA}{a:AFr T}(hc:SC r g)(ha:SAr k f ta a):SEr k f (tCB r ta) (rCB g a):=by
 intro fx H0 env σ H v R st hh rr st' hr Q q
 unfold rCB at hr
 obtain⟨⟨rs,s1⟩,er,hr⟩:=qA.mp hr
 obtain⟨⟨d,fr⟩,ez,hr⟩:=qA.mp hr
 cases hr
 refine ha fx H0 env σ H v R st hh rs s1 er _ λvs H1 m1 k1 v1=>?_
 refine hc (lim fx env σ (bss rs)) H1 vs (zdb rs) (k1.ok.lims _) (zer (λi hi=>hi) v1) d fr ez _ λw H3 s3 rp fr3=>q w H3 (m1.trans (MvR.same s3)) (k1.up s3) ⟨ziu rp,λe=>?_⟩
 obtain⟨a,g1,g2,g3⟩:=fr3 e
 refine⟨a,g1,m1.free g2,?_⟩
 show zff (Offs (λb=>lim fx env σ (bsOf d (bss rs)) b\/b=a) H3) H3 a d
 rw[show bsOf d (bss rs)=bss rs by unfold bsOf;rw[if_neg (by rw[zacg g3];decide)]]
 exact g3
noncomputable def rTup(a:AFr T):EFr T:=λenv st=>(a env st).bind λx=>if x.1.length<=100000 then some (⟨.tuple (zdb x.1),false,bss x.1⟩,x.2)else none
theorem zih{ta:TA}{a:AFr T}(ha:SAr k f ta a):SEr k f (tTup ta) (rTup a):=by
 intro fx H0 env σ H v R st hh rr st' hr Q q
 unfold rTup at hr
 obtain⟨⟨rs,s1⟩,er,hr⟩:=qA.mp hr
 split at hr
 ·rename_i hl
  cases hr
  refine ha fx H0 env σ H v R st hh rs s1 er _ λvs H1 m1 k1 v1=>?_
  have r:=zer (λi hi=>hi) v1
  have hA:=k1.ok.lims (bss rs)
  exact⟨zeq (by rw[<- r.length,zes];exact hl),λp hp=>q _ _ (m1.trans (MvR.same (Same.new hp))) (k1.up (Same.new hp)) ⟨zmv hp (zfg hA hp) r,λz=>by cases z⟩⟩
 ·cases hr
noncomputable def rLst(a:AFr T):EFr T:=λenv st=>(a env st).bind λx=>if x.1.length<=100000 then some (⟨.list (zdb x.1),true,bss x.1⟩,x.2)else none
theorem zuu{ta:TA}{a:AFr T}(ha:SAr k f ta a):SEr k f (tLst ta) (rLst a):=by
 intro fx H0 env σ H v R st hh rr st' hr Q q
 unfold rLst at hr
 obtain⟨⟨rs,s1⟩,er,hr⟩:=qA.mp hr
 split at hr
 ·rename_i hl
  cases hr
  refine ha fx H0 env σ H v R st hh rs s1 er _ λvs H1 m1 k1 v1=>?_
  have r:=zer (λi hi=>hi) v1
  have hA:=k1.ok.lims (bss rs)
  refine⟨zeq (by rw[<- r.length,zes];exact hl),λp hp=>q _ _ (m1.trans (MvR.same (Same.new hp))) (k1.up (Same.new hp)) ⟨zmu hp (zfg hA hp) r,λ_=>⟨p,rfl,m1.free hp,zjz hp r⟩⟩⟩
 ·cases hr
end
section
variable{T:Type}{k:Kind T}{f:Nat}
noncomputable def zir(c:TF):TFr T:=λenv st=>(c env).map λb=>(b,st)
theorem zga{tt:TT}{c:TF}(h:ST tt c):STr k f tt (zir c):=by
 intro fx H0 env σ H v R st hh b st' e Q q
 obtain⟨b',er,e⟩:=qE.mp e
 cases e
 exact h fx H0 env σ H hh.ok b er Q λH' s=>q H' (MvR.same s) (hh.up s)
noncomputable def qAnd(a b:TFr T):TFr T:=λenv st=>(a env st).bind λx=>if x.1=true then b env x.2 else some (false,x.2)
theorem zzl{t u:TT}{a b:TFr T}(h:STr k f t a)(h2:STr k f u b):STr k f (tAnd t u) (qAnd a b):=by
 intro fx H0 env σ H v R st hh b' st' e Q q
 unfold qAnd at e
 obtain⟨⟨c,s1⟩,er,e⟩:=qA.mp e
 refine h fx H0 env σ H v R st hh c s1 er _ λH' m k1=>?_
 cases c with
 | true=>exact iteT (h2 fx H0 env σ H' v R s1 k1 b' st' e _ λH'' m' k2=>q H'' (m.trans m') k2)
 | false=>cases e;exact iteF (q H' m k1)
noncomputable def qB(g:EFr T):TFr T:=λenv st=>(g env st).bind λx=>match x.1.d with
 | .bool b=>some (b,x.2)
 | _=>none
theorem zuv{te:TE}{g:EFr T}(h:SEr k f te g):STr k f (tTest te) (qB g):=by
 intro fx H0 env σ H v R st hh b st' e Q q
 unfold qB at e
 obtain⟨⟨r,s1⟩,er,e⟩:=qA.mp e
 obtain⟨d,fr,bs⟩:=r
 cases d with
 | bool b'=>
  cases e
  exact h fx H0 env σ H v R st hh _ _ er _ λw H' m k1 hv=>⟨_,zjx hv.rp,q H' m k1⟩
 | _=>cases e
end
inductive OutR (T:Type) where
 | nx (env:DEnv) (st:T)
 | bk (env:DEnv) (st:T)
 | ct (env:DEnv) (st:T)
 | rt (d:PyData) (fr:Bool) (st:T)
noncomputable abbrev SFr(T:Type):=DEnv->T->Option (OutR T)
noncomputable def SatR{T:Type}(k:Kind T)(f:Nat)(fx:Addr->Prop)(H0:Hp)(D:Ends)(v:V)(R:Addr->Prop):OutR T->Prop
 | .nx env st=>∀σ H,Has k f fx H0 env σ H v R st->D.nx σ H
 | .bk env st=>∀σ H,Has k f fx H0 env σ H v R st->D.bk σ H
 | .ct env st=>∀σ H,Has k f fx H0 env σ H v R st->D.ct σ H
 | .rt d fr st=>∀w H,Same H0 H->(∀b,fx b->∃o,H b=some o)->k.at_ H v R st->zsm fx H0 d fr w H->(fr=true->∀a,w=.ref a->¬R a)->D.rt w H
noncomputable def SSr{T:Type}(k:Kind T)(f:Nat)(ts:TS)(F:SFr T):Prop:=∀(fx:Addr->Prop)(H0:Hp)(env:DEnv)(σ:St)(H:Hp)(v:V)(R:Addr->Prop)(st:T)(D:Ends),Has k f fx H0 env σ H v R st->∀o,F env st=some o->SatR k f fx H0 D v R o->ts D σ H
section
variable{T:Type}{k:Kind T}{f:Nat}{fx:Addr->Prop}{H0:Hp}{env:DEnv}{σ:St}{H H':Hp}{v:V}{R:Addr->Prop}{st st':T}
theorem Has.notOwn(h:Has k f fx H0 env σ H v R st){b:Addr}(hb:R b):¬own env σ b:=λ⟨i,d,h1,h2⟩=>by
 obtain⟨a,g1,g2,g3,g4⟩:=h.ok.ac i d h1
 rw[h2]at g1
 cases g1
 exact g3 (h.off _ hb)
noncomputable abbrev flr(env:DEnv)(σ:St)(R:Addr->Prop)(H:Hp):Hp:=Offs (λb=>own env σ b\/R b) H
theorem Has.rebase(h:Has k f fx H0 env σ H v R st):Has k f fx (flr env σ R H) env σ H v R st:=by
 refine⟨⟨h.ok.len,h.ok.pl,λi d e=>?_,h.ok.inj,Offs.same _ _,h.ok.fxs⟩,h.no,h.sl,h.th,h.off,λb hb=>Offs.out (.inr hb)⟩
 obtain⟨a,h1,h2,h3,h4⟩:=h.ok.ac i d e
 exact⟨a,h1,Offs.out (.inl ⟨i,d,e,h1⟩),h3,h4⟩
theorem Has.floor(h:Has k f fx H0 env σ H v R st):Same H0 (flr env σ R H):=λb o e=>by
 show Offs (λb=>own env σ b\/R b) H b=some o
 rw[Offs.get]
 ·exact h.ok.base b o e
 ·rintro(⟨i,d,h1,h2⟩|z)
  ·obtain⟨a,g1,g2,g3,g4⟩:=h.ok.ac i d h1
   rw[h2]at g1
   cases g1
   rw[g2]at e;cases e
  ·rw[h.low b z]at e;cases e
theorem Has.unbase{F:Hp}(h:Has k f fx F env σ H v R st)(s:Same H0 F):Has k f fx H0 env σ H v R st:=⟨h.ok.unbase s,h.no,h.sl,h.th,h.off,λb hb=>s.free (h.low b hb)⟩
theorem Has.seen{env':DEnv}{σ':St}(h:Has k f fx H0 env σ H v R st)(h':Has k f fx (flr env σ R H) env' σ' H' v R st'):Same (Offs (λb=>fx b\/own env σ b) H) (Offs (λb=>fx b\/own env' σ' b) H'):=λb o e=>by
 obtain⟨n,e⟩:=Offs.of e
 have hF:flr env σ R H b=some o:=by
  show Offs (λb=>own env σ b\/R b) H b=some o
  rw[Offs.get]
  ·exact e
  ·rintro(z|z)
   ·exact n (.inr z)
   ·exact n (.inl (h.off b z))
 rw[Offs.get]
 ·exact h'.ok.base b o hF
 ·rintro(z|⟨i,d,h1,h2⟩)
  ·exact n (.inl z)
  ·obtain⟨a,g1,g2,g3,g4⟩:=h'.ok.ac i d h1
   rw[h2]at g1
   cases g1
   rw[g2]at hF;cases hF
theorem zafk{env:DEnv}{i j:Nat}(h:env[j]?=some .no):(frz1 env i)[j]?=some .no:=by
 unfold frz1
 split
 ·rename_i d e
  rw[qG λz=>by subst z;rw[h]at e;cases e]
  exact h
 ·exact h
theorem zli:∀(bs:List Nat){env:DEnv}{j:Nat},env[j]?=some .no->(frzs env bs)[j]?=some .no
 | [],_,_,h=>h
 | i::bs,_,_,h=>zli bs (zafk h)
theorem zafl{r:Val}{i:Nat}(h:env[f]?=some .no)(hi:i≠f):(putV env i r)[f]?=some .no:=by
 unfold putV
 rw[qG hi]
 exact zli _ h
theorem Has.put(hh:Has k f fx H0 env σ H v R st)(m:MvR R H H')(k1:Has k f fx H0 env σ H' v R st'){r:Val}{w:V}(hv:ValOk (lim fx env σ r.bs) H H' r w){i:Nat}(hi:i≠f):Has k f fx H0 (putV env i r) (σ.set i (some w)) H' v R st':=by
 classical
 let H1:Hp:=λb=>if R b then H b else H' b
 have hR:∀b,R b->H1 b=H b:=λb z=>if_pos z
 have hN:∀b,¬R b->H1 b=H' b:=λb z=>if_neg z
 have s1:Same H H1:=λb o e=>by
  by_cases z:R b
  ·rw[hR b z];exact e
  ·rw[hN b z];exact m.keep b o z e
 have nl:∀b,¬lim fx env σ r.bs b->¬R b:=λb n z=>n (.inl (hh.off b z))
 have v1:ValOk (lim fx env σ r.bs) H H1 r w:=by
  refine⟨Rp.same (λb o e=>?_) _ hv.rp,λe=>?_⟩
  ·obtain⟨n,e⟩:=Offs.of e
   rw[Offs.get n,hN b (nl b n)];exact e
  ·obtain⟨a,g1,g2,g3⟩:=hv.fr e
   have na:¬R a:=λz=>by obtain⟨o,eo⟩:=k.live hh.th a z;rw[g2]at eo;cases eo
   refine⟨a,g1,g2,g3.same (λb o e=>?_) λo e=>by rw[hN a na];exact e⟩
   obtain⟨n,e⟩:=Offs.of e
   rw[Offs.get n,hN b (nl b λz=>n (.inl z))];exact e
 have ok1:=hh.ok.put s1 v1 i
 have sl:(σ.set i (some w))[f]?=some (some v):=by rw[qG hi];exact hh.sl
 have h1:Has k f fx H0 (putV env i r) (σ.set i (some w)) H1 v R st:=⟨ok1,zafl hh.no hi,sl,k.stay hh.th λb o z e=>by rw[hR b z];exact e,hh.off,hh.low⟩
 refine h1.mv ⟨λb o z e=>by rw[hN b z]at e;exact e,λb o e=>?_⟩ k1.th
 by_cases z:R b
 ·exact k.live k1.th b z
 ·rw[hN b z]at e;exact⟨o,e⟩
end
section
variable{T:Type}{k:Kind T}{f:Nat}
noncomputable def rS(f:Nat)(F:SF):SFr T:=λenv st=>(F env).bind λo=>match o with
 | .nx e=>(match e[f]? with|some .no=>some (.nx e st)|_=>none)
 | .bk e=>(match e[f]? with|some .no=>some (.bk e st)|_=>none)
 | .ct e=>(match e[f]? with|some .no=>some (.ct e st)|_=>none)
 | .rt d fr=>some (.rt d fr st)
theorem zso{ts:TS}{F:SF}(h:SSk (λj=>j=f) ts F):SSr k f ts (rS f F):=by
 intro fx H0 env σ H v R st D hh o e q
 unfold rS at e
 obtain⟨o1,e1,e⟩:=qA.mp e
 have fl:=hh.ok.floor
 have st':∀{env':DEnv}{σ':St}{H':Hp},EnvOk fx (Offs (own env σ) H) env' σ' H'->(∀j,j=f->σ'[j]?=σ[j]?)->env'[f]?=some .no->Has k f fx H0 env' σ' H' v R st:=λ{env' σ' H'} h' kp hn=>⟨h'.unbase fl,hn,(kp f rfl).trans hh.sl,k.stay hh.th λb o hb eb=>h'.base b o (by rw[Offs.get (hh.notOwn hb)];exact eb),hh.off,hh.low⟩
 refine h fx _ env σ H _ hh.ok.rebase o1 e1 ?_
 cases o1 with
 | nx e2=>
  dsimp only at e
  split at e
  ·rename_i hn;cases e;exact λσ' H' h' kp=>q σ' H' (st' h' kp hn)
  ·cases e
 | bk e2=>
  dsimp only at e
  split at e
  ·rename_i hn;cases e;exact λσ' H' h' kp=>q σ' H' (st' h' kp hn)
  ·cases e
 | ct e2=>
  dsimp only at e
  split at e
  ·rename_i hn;cases e;exact λσ' H' h' kp=>q σ' H' (st' h' kp hn)
  ·cases e
 | rt d fr=>
  cases e
  intro w H' s' rt
  have kp:∀b o,R b->H b=some o->H' b=some o:=λb o hb eb=>s' b o (by rw[Offs.get (hh.notOwn hb)];exact eb)
  have lv:∀b,fx b->∃o,H' b=some o:=λb hb=>by
   obtain⟨o,eo⟩:=hh.ok.fxs b hb
   have no:¬own env σ b:=λ⟨i,d,h1,h2⟩=>by
    obtain⟨a,g1,g2,g3,g4⟩:=hh.ok.ac i d h1
    rw[h2]at g1
    cases g1
    exact g3 hb
   exact⟨o,s' b o (by rw[Offs.get no];exact eo)⟩
  refine q w H' (fl.trans s') lv (k.stay hh.th kp) (rt.unbase fl) λhfr a ew hR=>?_
  obtain⟨a',g1,g2,_⟩:=rt.2 hfr
  rw[ew]at g1
  cases g1
  obtain⟨o,eo⟩:=k.live hh.th a hR
  rw[Offs.get (hh.notOwn hR),eo]at g2;cases g2
noncomputable def rSeq(a b:SFr T):SFr T:=λenv st=>(a env st).bind λo=>match o with
 | .nx e s=>b e s
 | o=>some o
theorem zan{t u:TS}{a b:SFr T}(h1:SSr k f t a)(h2:SSr k f u b):SSr k f (tSeq t u) (rSeq a b):=by
 intro fx H0 env σ H v R st D hh o e q
 unfold rSeq at e
 obtain⟨o1,e1,e⟩:=qA.mp e
 refine h1 fx H0 env σ H v R st _ hh o1 e1 ?_
 cases o1 with
 | nx e2 s2=>exact λσ' H' h'=>h2 fx H0 e2 σ' H' v R s2 D h' o e q
 | bk e2 s2=>cases e;exact q
 | ct e2 s2=>cases e;exact q
 | rt d fr s2=>cases e;exact q
noncomputable def rSet(i:Nat)(g:EFr T):SFr T:=λenv st=>(g env st).map λx=>.nx (putV env i x.1) x.2
theorem zbb{te:TE}{g:EFr T}{i:Nat}(h1:SEr k f te g)(hi:i≠f):SSr k f (tAsg te (gName i)) (rSet i g):=by
 intro fx H0 env σ H v R st D hh o e q
 obtain⟨⟨r,s1⟩,er,rfl⟩:=qE.mp e
 exact h1 fx H0 env σ H v R st hh r s1 er _ λw H' m k1 hv=>q _ H' (hh.put m k1 hv hi)
noncomputable def rIf(c:TFr T)(a b:SFr T):SFr T:=λenv st=>(c env st).bind λx=>if x.1=true then a env x.2 else b env x.2
theorem zhd{tc:TT}{t u:TS}{c:TFr T}{a b:SFr T}(hc:STr k f tc c)(h1:SSr k f t a)(h2:SSr k f u b):SSr k f (tIfS tc t u) (rIf c a b):=by
 intro fx H0 env σ H v R st D hh o e q
 unfold rIf at e
 obtain⟨⟨b',s1⟩,eb,e⟩:=qA.mp e
 refine hc fx H0 env σ H v R st hh b' s1 eb _ λH' m k1=>?_
 cases b' with
 | true=>exact iteT (h1 fx H0 env σ H' v R s1 D k1 o e q)
 | false=>exact iteF (h2 fx H0 env σ H' v R s1 D k1 o e q)
noncomputable def rNx:SFr T:=λenv st=>some (.nx env st)
theorem zeu:SSr k f tNext rNx:=by
 intro fx H0 env σ H v R st D hh o e q
 cases e
 exact q σ H hh
noncomputable def rRet(g:EFr T):SFr T:=λenv st=>(g env st).map λx=>.rt x.1.d x.1.fr x.2
theorem zee{te:TE}{g:EFr T}(h1:SEr k f te g):SSr k f (tRet te) (rRet g):=by
 intro fx H0 env σ H v R st D hh o e q
 obtain⟨⟨r,s1⟩,er,rfl⟩:=qE.mp e
 refine h1 fx H0 env σ H v R st hh r s1 er _ λw H' m k1 hv=>q w H' k1.ok.base k1.ok.fxs k1.th ⟨Rp.same (Offs.sub λb z=>.inl z) _ hv.rp,λe=>?_⟩ λhfr a ew hR=>?_
 ·obtain⟨a,g1,g2,g3⟩:=hv.fr e
  exact⟨a,g1,hh.ok.base.free g2,g3.same (Offs.sub λb y=>y.imp .inl id) λo z=>z⟩
 ·obtain⟨a',g1,g2,_⟩:=hv.fr hfr
  rw[ew]at g1
  cases g1
  obtain⟨o,eo⟩:=k.live hh.th a hR
  rw[g2]at eo;cases eo
noncomputable def rApp(i:Nat)(g:EFr T):SFr T:=λenv st=>match env[i]? with
 | some (.ac (.list ds))=>(g env st).bind λx=>if ds.length<100000/\i∉x.1.bs then some (.nx ((frzs env x.1.bs).set i (.ac (.list (ds++[x.1.d])))) x.2)else none
 | _=>none
theorem zho{K:qD}{i:Nat}{te:TE}{g:EFr T}(h1:SEr k f te g):SSr k f (tDrop (tBM K "list" zld (tVar i) (tCons te tNil))) (rApp i g):=by
 intro fx H0 env σ H v R st D hh o e q
 unfold rApp at e
 split at e
 ·rename_i ds ei
  obtain⟨⟨r,s1⟩,er,e⟩:=qA.mp e
  dsimp only at e
  split at e
  ·rename_i hl
   cases e
   have hif:i≠f:=λz=>by rw[z,hh.no]at ei;cases ei
   obtain⟨a,g1,g2,g3,g4⟩:=hh.ok.ac i _ ei
   obtain⟨xs0,hx0,_⟩:=g4
   refine⟨_,g1,.inl ⟨rfl,_,SqL.of hx0⟩,h1 fx H0 env σ H v R st hh r s1 er _ λw H' m k1 hv=>?_⟩
   have h':=k1.ok.frzs r.bs
   have ei':=zie hl.2 ei
   obtain⟨a',z1,_,z3,z4⟩:=h'.ac i _ ei'
   rw[g1]at z1
   cases z1
   obtain⟨xs,hx',rx'⟩:=z4
   refine⟨a,xs,w,rfl,rfl,hx',zjy (by rw[<- rx'.length];exact hl.1),?_⟩
   refine q σ _ ⟨h'.mut ei' g1 ⟨_,zbk,rx'.append (zby (Rp.same (Offs.sub zgo) _ hv.rp) zca)⟩,?_,hh.sl,k.stay k1.th λb o hb eb=>?_,hh.off,hh.low⟩
   ·rw[qG hif];exact zli _ hh.no
   ·rw[zbs λz=>g3 (by rw[<- z];exact hh.off b hb)];exact eb
  ·cases e
 ·cases e
noncomputable abbrev IFr(T:Type):=DEnv->T->Option (List PyData×List Nat×T)
noncomputable def SIr(k:Kind T)(f:Nat)(wi:TI)(g:IFr T):Prop:=∀(fx:Addr->Prop)(H0:Hp)(env:DEnv)(σ:St)(H:Hp)(v:V)(R:Addr->Prop)(st:T),Has k f fx H0 env σ H v R st->∀ds bs st',g env st=some (ds,bs,st')->∀Rk:It->Hp->Prop,
 (∀J H1,MvR R H H1->Has k f fx H0 env σ H1 v R st'->Yl (λb=>fx b\/own (frzs env bs) σ b) H1 J ds->Rk J H1)->wi σ H Rk
noncomputable def rIP(g:IF'):IFr T:=λenv st=>(g env).map λz=>(z.1,z.2,st)
theorem zdv{wi:TI}{g:IF'}(h:SI wi g):SIr k f wi (rIP g):=by
 intro fx H0 env σ H v R st hh ds bs st' e Rk q
 obtain⟨⟨d1,b1⟩,er,e⟩:=qE.mp e
 cases e
 exact h fx H0 env σ H hh.ok _ _ er Rk λJ H1 s y=>q J H1 (MvR.same s) (hh.up s) y
noncomputable def zrd(g:GT)(body:SFr T):List PyData->DEnv->T->Option (OutR T)
 | [],env,st=>some (.nx env st)
 | d::ds,env,st=>(g d env).bind λe1=>(body e1 st).bind λo=>match o with
  | .nx e2 s2=>zrd g body ds e2 s2
  | .ct e2 s2=>zrd g body ds e2 s2
  | .bk e2 s2=>some (.nx e2 s2)
  | .rt d fr s2=>some (.rt d fr s2)
noncomputable def rFor(it:IFr T)(g:GT)(body:SFr T):SFr T:=λenv st=>(it env st).bind λz=>zrd g body z.1 (frzs env z.2.1) z.2.2
noncomputable def GTno(f:Nat)(g:GT):Prop:=∀d env env',g d env=some env'->env[f]?=some .no->env'[f]?=some .no
theorem zev{i:Nat}(h:i≠f):GTno f (gN i):=λd env env' e hn=>by
 cases e
 rw[qG h];exact hn
theorem zgk{wi:TI}{g:TG}{tb:TS}{it:IFr T}{gf:GT}{body:SFr T}(h1:SIr k f wi it)(h2:SGk (λj=>j=f) g gf)(h2n:GTno f gf)(h3:SSr k f tb body):SSr k f (tFor wi g tb) (rFor it gf body):=by
 intro fx H0 env σ H v R st D hh o e q
 unfold rFor at e
 obtain⟨⟨ds,bs,s0⟩,er,e⟩:=qA.mp e
 refine h1 fx H0 env σ H v R st hh ds bs s0 er _ λJ H1 m0 k0 yl=>?_
 have hE:Has k f fx H0 (frzs env bs) σ H1 v R s0:=⟨k0.ok.frzs bs,zli _ k0.no,k0.sl,k0.th,k0.off,k0.low⟩
 have fl:=hE.floor
 refine⟨λi n σ' H'=>n=ds.length - i/\i<=ds.length/\∃env' st',zrd gf body (ds.drop i) env' st'=some o/\Has k f fx (flr (frzs env bs) σ R H1) env' σ' H' v R st',⟨ds.length,rfl,qAR _,_,_,e,hE.rebase⟩,?_⟩
 rintro i n σ' H' ⟨rfl,hi,env',st',e',h'⟩
 obtain⟨yi,ys⟩:=yl _ H' h'.ok.all (hE.seen h')
 by_cases hlt:i<ds.length
 ·obtain⟨yg,yy⟩:=yi i ds[i] (qN hlt)
  refine .inr ⟨yg,λσ'' H''=>i+1<=ds.length/\∃env'' st'',zrd gf body (ds.drop (i+1)) env'' st''=some o/\Has k f fx (flr (frzs env bs) σ R H1) env'' σ'' H'' v R st'',?_,?_⟩
  ·rintro σ'' H'' ⟨hle,env'',st'',e'',h''⟩
   exact⟨ds.length - (i+1),by omega,rfl,hle,env'',st'',e'',h''⟩
  ·intro x H'' hy
   obtain⟨sy,ry⟩:=yy x H'' hy
   rw[qAL hlt]at e'
   obtain⟨e1,ee1,e'⟩:=qA.mp e'
   obtain⟨o1,eo1,e'⟩:=qA.mp e'
   have hu:=h'.up sy
   refine h2 fx _ env' σ' H'' _ x hu.ok ry e1 ee1 _ λσ2 h2' k2=>h3 fx _ e1 σ2 H'' v R st' _ ⟨h2',h2n _ _ _ ee1 hu.no,(k2 f rfl).trans hu.sl,hu.th,hu.off,hu.low⟩ o1 eo1 ?_
   cases o1 with
   | nx e2 s2=>exact λσ3 H3 hq=>⟨hlt,e2,s2,e',hq⟩
   | ct e2 s2=>exact λσ3 H3 hq=>⟨hlt,e2,s2,e',hq⟩
   | bk e2 s2=>cases e';exact λσ3 H3 hq=>q σ3 H3 (hq.unbase fl)
   | rt d fr s2=>cases e';exact λw H3 sh l t rt nr=>q w H3 (fl.trans sh) l t (rt.unbase fl) nr
 ·have hi':i=ds.length:=by omega
  subst hi'
  rw[qAa]at e'
  cases e'
  exact .inl ⟨ys,q σ' H' (h'.unbase fl)⟩
end
noncomputable abbrev GR(T:Type):=List PyData->T->Option (PyData×Bool×T)
noncomputable def spR{T:Type}(k:Kind T)(n:Nat)(g:GR T):Sp:=λvs H Q _=>∃(fx:Addr->Prop)(v:V)(vs':List V)(ds:List PyData)(R:Addr->Prop)(st:T)(d:PyData)(fr:Bool)(st':T),vs=v::vs'/\ds.length+1=n/\(∀b,fx b->∃o,H b=some o)/\(∀b,R b->fx b)/\k.at_ H v R st/\Rps (Offs fx H) ds vs'/\g ds st=some (d,fr,st')/\
 ∀w H',MvR R H H'->k.at_ H' v R st'->zsm fx H d fr w H'->Q w H'
theorem zhp{T:Type}{k:Kind T}{n:Nat}{g:GR T}{vs:List V}{H:Hp}{Q:VK}{E:XK}(h:spR k n g vs H Q E):vs.length=n:=by
 obtain⟨fx,v,vs',ds,R,st,d,fr,st',rfl,hn,_,_,_,r,_⟩:=h
 rw[qs,<- r.length];exact hn
section
variable{T:Type}{k:Kind T}{f:Nat}
noncomputable def zbd(n:Nat)(g:GR T)(a:AFr T):EFr T:=λenv st=>(a env st).bind λx=>if x.1.length+1=n then(g (zdb x.1) x.2).bind λz=>some (⟨z.1,z.2.1,bsOf z.1 (bss x.1)⟩,z.2.2)else none
theorem zao{n:Nat}{g:GR T}{ta:TA}{a:AFr T}(ha:SAr k f ta a):SEr k f (tCall (spR k n g) [] E0 (tCons (tVar f) ta)) (zbd n g a):=by
 intro fx H0 env σ H v R st hh rr st' hr Q q
 unfold zbd at hr
 obtain⟨⟨rs,s1⟩,er,hr⟩:=qA.mp hr
 split at hr
 ·rename_i hn
  obtain⟨⟨d,fr,s2⟩,ez,hr⟩:=qA.mp hr
  cases hr
  refine⟨v,hh.sl,ha fx H0 env σ H v R st hh rs s1 er _ λvs H1 m1 k1 v1=>?_⟩
  show spR k n g ((v::vs)++[]) H1 Q E0
  rw[q9]
  refine⟨lim fx env σ (bss rs),v,vs,zdb rs,R,s1,d,fr,_,rfl,by rw[zes];exact hn,k1.ok.lims _,λb hb=>.inl (hh.off b hb),k1.th,zer (λi hi=>hi) v1,ez,λw H3 m3 t3 ⟨rp,fr3⟩=>q w H3 (m1.trans m3) (k1.mv m3 t3) ⟨ziu rp,λe=>?_⟩⟩
  obtain⟨a,g1,g2,g3⟩:=fr3 e
  refine⟨a,g1,m1.free g2,?_⟩
  show zff (Offs (λb=>lim fx env σ (bsOf d (bss rs)) b\/b=a) H3) H3 a d
  rw[show bsOf d (bss rs)=bss rs by unfold bsOf;rw[if_neg (by rw[zacg g3];decide)]]
  exact g3
 ·cases hr
noncomputable def zpx(n:Nat)(ds:List PyData):DEnv:=.no::zju (n - 1) ds
noncomputable def fnR(n:Nat)(F:SFr T):GR T:=λds st=>match F (zpx n ds) st with
 | some (.rt d fr s)=>some (d,fr,s)
 | some (.nx _ s)=>some (.none,false,s)
 | _=>none
theorem zzm{fx:Addr->Prop}{H:Hp}{N:List Str}{v:V}{ds:List PyData}{vs:List V}{R:Addr->Prop}{st:T}(hN:0<N.length)(hf:∀b,fx b->∃o,H b=some o)(hR:∀b,R b->fx b)(t:k.at_ H v R st)(r:Rps (Offs fx H) ds vs) :
  Has k 0 fx (Offs R H) (zpx N.length ds) (zgx N (v::vs)) H v R st:=by
 obtain⟨x,N',rfl⟩:∃x N',N=x::N':=by
  cases N with
  | nil=>cases hN
  | cons x N'=>exact⟨x,N',rfl⟩
 have e0:=znc (N:=N') hf r
 have es:zgx (x::N') (v::vs)=some v::zgx N' vs:=by
  unfold zgx
  rw[qm,List.cons_append]
  congr 3
  simp
 have no:∀(i:Nat)(d:PyData),(zpx (x::N').length ds)[i]?≠some (Sl.ac d):=λi d e=>by
  cases i with
  | zero=>cases e
  | succ i=>
   have e:(zju N'.length ds)[i]?=some (Sl.ac d):=e
   rcases znb e with⟨d',_,z⟩|z<;>cases z
 have ow:∀b,¬own (zpx (x::N').length ds) (zgx (x::N') (v::vs)) b:=λb ⟨i,d,h1,_⟩=>no i d h1
 rw[es]at ow ⊢
 refine⟨⟨?_,λi d e=>?_,λi d e=>absurd e (no i d),λi j d e a h1=>absurd h1 (no i d),Offs.same _ _,hf⟩,rfl,rfl,t,hR,λb hb=>Offs.out hb⟩
 ·show(zju N'.length ds).length+1=(zgx N' vs).length+1
  rw[e0.len]
 ·cases i with
  | zero=>cases e
  | succ i=>
   obtain⟨u,h1,h2⟩:=e0.pl i d e
   exact⟨u,h1,Rp.same (Offs.sub λb z=>z.elim .inl λy=>absurd y (ow b)) _ h2⟩
theorem fn_r{N:List Str}{n:Nat}{F:SFr T}{t:TS}(hN:0<N.length)(hs:SSr k 0 t F){vs:List V}{H:Hp}{Q:VK}{E:XK}(h:spR k n (fnR N.length F) vs H Q E):t {nx:=λ_ H'=>Q .non H',rt:=Q} (zgx N vs) H:=by
 obtain⟨fx,v,vs',ds,R,st,d,fr,st',rfl,hn,hf,hR,ht,r,g,q⟩:=h
 have hh:=zzm (N:=N) (k:=k) hN hf hR ht r
 have mv:∀{H':Hp},Same (Offs R H) H'->(∀b,fx b->∃o,H' b=some o)->MvR R H H':=λ{H'} s l=>⟨λb o nb e=>s b o (by rw[Offs.get nb];exact e),λb o e=>by
  by_cases z:R b
  ·exact l b (hR b z)
  ·exact⟨o,s b o (by rw[Offs.get z];exact e)⟩⟩
 unfold fnR at g
 split at g
 ·rename_i d' fr' s' eo
  cases g
  refine hs fx _ _ _ H v R st _ hh _ eo λw H' s l t rt nr=>q w H' (mv s l) t ⟨rt.1,λe=>?_⟩
  obtain⟨a,g1,g2,g3⟩:=rt.2 e
  refine⟨a,g1,?_,g3⟩
  rw[Offs.get (nr e a g1)]at g2
  exact g2
 ·rename_i e' s' eo
  cases g
  exact hs fx _ _ _ H v R st _ hh _ eo λσ H' h'=>q .non H' (mv h'.ok.base h'.ok.fxs) h'.th ⟨zlf,λz=>by cases z⟩
 ·cases g
end
section
variable{J:Nat->Prop}{f:Nat}
noncomputable def SGks(J:Nat->Prop)(g:TGs)(f:GTs):Prop:=∀(fx:Addr->Prop)(H0:Hp)(env:DEnv)(σ:St)(H:Hp)(ds:List PyData)(vs:List V),EnvOk fx H0 env σ H->Rps (Offs (λa=>fx a\/own env σ a) H) ds vs->∀env',f ds env=some env'->∀Q:St->Hp->Prop,
 (∀σ',EnvOk fx H0 env' σ' H->(∀j,J j->σ'[j]?=σ[j]?)->Q σ' H)->g vs σ H Q
theorem zkn:SGks J gNil zeg:=by
 intro fx H0 env σ H ds vs h r env' e Q q
 cases ds with
 | nil=>cases e;unfold Rps at r;exact⟨r,q _ h λ_ _=>rfl⟩
 | cons _ _=>cases e
theorem zde{i:Nat}{t:TGs}{g:GTs}(hJ:¬J i)(h1:SGks J t g):SGks J (gCons (gName i) t) (zax i g):=by
 intro fx H0 env σ H ds vs h r env' e Q q
 cases ds with
 | nil=>cases e
 | cons d ds=>
  unfold Rps at r
  obtain⟨v,ws,rfl,r1,r2⟩:=r
  refine⟨v,ws,rfl,h1 fx H0 (env.set i (.pl d)) _ H ds ws (h.setPl i r1) (Rps.same (Offs.sub λb z=>z.imp (λy=>y) (zuk b)) _ r2) env' e Q λσ' k1 k2=>q σ' k1 λj hj=>(k2 j hj).trans (qG λz=>hJ (by rw[z];exact hj))⟩
theorem zni{K:qD}{n:Nat}{t:TGs}{g:GTs}(h1:SGks J t g):SGk J (gTup K n t) (gT n g):=by
 intro fx H0 env σ H d v h r env' e Q q
 unfold gT at e
 cases d with
 | tuple ds=>
  have e:(if ds.length=n then g ds env else none)=some env':=e
  split at e
  ·rename_i hn
   obtain⟨a,xs,rfl,ha,rs⟩:=zdt r
   exact⟨a,xs,rfl,SqT.of (zgc ha),by rw[<- rs.length];exact hn,h1 fx H0 env σ H ds xs h rs env' e Q q⟩
  ·cases e
 | _=>cases e
end
section
variable{T:Type}{k:Kind T}{f:Nat}
noncomputable def zix(g:GT)(t:TF)(e:EFr T)(env:DEnv):List PyData->T->Option (List PyData×T)
 | [],st=>some ([],st)
 | d::ds,st=>(g d env).bind λe1=>(t e1).bind λb=>if b=true then(e e1 st).bind λx=>(zix g t e env ds x.2).map λy=>(x.1.d::y.1,y.2)else zix g t e env ds st
noncomputable def zzn(own:List Str)(fr:List Nat)(it:IFr T)(g:GT)(t:TF)(e:EFr T):EFr T:=λenv st=>(it env st).bind λz=>if z.1.length<100000 then
 (zix g t e (envB own fr env) z.1 z.2.2).map λy=>(⟨.list y.1,true,if zda y.1=true then[]else z.2.1++capA fr env⟩,y.2)else none
theorem zafm{own:List Str}{fr:List Nat}{env:DEnv}{kk:Nat}(hk:fr[kk]?=some f)(hn:env[f]?=some .no):(envB own fr env)[own.length+kk]?=some .no:=by
 unfold envB
 rw[qAA (by simp)]
 simp only[qC,qBV,qa,hk,Option.map_some]
 rw[qx,hn];rfl
theorem zaci{own:List Str}{fr:List Nat}{kk:Nat}{wi:TI}{g:TG}{tt:TT}{te:TE}{it:IFr T}{gf:GT}{t:TF}{e:EFr T}(hk:fr[kk]?=some f)(h1:SIr k f wi it)(h2:SGk (λj=>own.length<=j) g gf)(hx:GX own.length gf)(h3:ST tt t)(h4:SEr k (own.length+kk) te e) :
  SEr k f (tComp1 wi g tt te own fr) (zzn own fr it gf t e):=by
 intro fx H0 env σ H v R st hh rr st' hr Q q
 unfold zzn at hr
 obtain⟨⟨ds,bs,s0⟩,ei,hr⟩:=qA.mp hr
 split at hr
 ·rename_i hlen
  have hlen:ds.length<100000:=hlen
  obtain⟨⟨rs,sE⟩,ers,hr⟩:=qE.mp hr
  cases hr
  refine h1 fx H0 env σ H v R st hh ds bs s0 ei _ λJ H1 m0 k0 yl=>λp hp=>?_
  have pR:¬R p:=λz=>by obtain⟨o,eo⟩:=k.live k0.th p z;rw[hp]at eo;cases eo
  have hB:=znd k0.ok (Same.refl H1) hp own fr bs
  generalize hA:(λb=>lim fx env σ (bs++capA fr env) b)=A
  have hA':∀b,lim fx env σ (bs++capA fr env) b↔A b:=λb=>by rw[<- hA]
  have eA:(λb=>lim fx env σ (bs++capA fr env) b\/b=p)=λb=>A b\/b=p:=by rw[<- hA]
  rw[eA]at hB
  have RA:∀b,R b->A b\/b=p:=λb z=>.inl ((hA' b).mp (.inl (hh.off b z)))
  have hB:Has k (own.length+kk) (λb=>A b\/b=p) (Offs R H1) (envB own fr env) (tau own fr σ) (upd H1 p (.lst [])) v R s0:=⟨hB.unbase (Offs.same _ _),zafm hk hh.no,zun hk hh.sl,k.stay k0.th λb o z eo=>by rw[zbs λy=>pR (by rw[<- y];exact z)];exact eo,RA,λb z=>Offs.out z⟩
  have nA:¬A p:=λz=>by
   obtain⟨o,eo⟩:=k0.ok.lims _ p ((hA' p).mpr z)
   rw[hp]at eo;cases eo
  have seen:∀{σ':St}{H':Hp}{s':T},Has k (own.length+kk) (λb=>A b\/b=p) (Offs R H1) (envB own fr env) σ' H' v R s'->Same (Offs (λb=>fx b\/L2.own (frzs env bs) σ b) H1) (Offs (λb=>A b\/b=p) H'):=λ{σ' H' s'} hE b o eb=>by
   obtain⟨n,eb⟩:=Offs.of eb
   have hb:H' b=some o:=hE.ok.base b o (by rw[Offs.get λz=>n (.inl (hh.off b z))];exact eb)
   rw[Offs.get]
   ·exact hb
   ·rintro(z|z)
    ·rcases(hA' b).mpr z with z|⟨i,d,z1,z2,z3⟩
     ·exact n (.inl z)
     ·exact n (.inr ⟨i,d,zie (λy=>z1 (qAK _ y)) z2,z3⟩)
    ·rw[z,hp]at eb;cases eb
  refine⟨λi m σ' H'=>m=ds.length - i/\i<=ds.length/\∃vs done rest s',H' p=some (.lst vs)/\Rps (Offs (λb=>A b\/b=p) H') done vs/\done.length<=i/\zix gf t e (envB own fr env) (ds.drop i) s'=some (rest,sE)/\done++rest=rs/\Has k (own.length+kk) (λb=>A b\/b=p) (Offs R H1) (envB own fr env) σ' H' v R s',
   ⟨ds.length,rfl,qAR _,[],[],rs,s0,zbk,zca,qAR _,ers,rfl,hB⟩,?_⟩
  rintro i m σ' H' ⟨rfl,hi,vs,done,rest,s',ep,rd,dl,ec,edr,hE⟩
  obtain⟨yi,ys⟩:=yl _ H' hE.ok.fxs (seen hE)
  by_cases hlt:i<ds.length
  ·obtain⟨yg,yy⟩:=yi i ds[i] (qN hlt)
   refine .inr ⟨yg,λσ'' H''=>i+1<=ds.length/\∃vs done rest s'',H'' p=some (.lst vs)/\Rps (Offs (λb=>A b\/b=p) H'') done vs/\done.length<=i+1/\zix gf t e (envB own fr env) (ds.drop (i+1)) s''=some (rest,sE)/\done++rest=rs/\Has k (own.length+kk) (λb=>A b\/b=p) (Offs R H1) (envB own fr env) σ'' H'' v R s'',?_,?_⟩
   ·rintro σ'' H'' ⟨hle,hq⟩
    exact⟨ds.length - (i+1),by omega,rfl,hle,hq⟩
   ·intro x H'' hy
    obtain⟨sy,ry⟩:=yy x H'' hy
    rw[qAL hlt]at ec
    obtain⟨e1,ee1,ec⟩:=qA.mp ec
    obtain⟨b,eb,ec⟩:=qA.mp ec
    have ry':Rp (Offs (λa=>(A a\/a=p)\/L2.own (envB own fr env) σ' a) H'') ds[i] x:=Rp.same (Offs.sub λb z=>z.elim (λy=>y) λ⟨j,d',z,_⟩=>absurd z zha) _ ry
    have hU:=hE.up sy
    obtain⟨gl,gk⟩:=hx _ _ _ ee1
    refine h2 _ (Offs R H1) (envB own fr env) σ' H'' _ x hU.ok ry' e1 ee1 _ λσ2 hE2 k2=>?_
    refine h3 _ (Offs R H1) e1 σ2 H'' hE2 b eb _ λH3 s3=>?_
    have hE3:Has k (own.length+kk) (λb=>A b\/b=p) (Offs R H1) e1 σ2 H3 v R s':=⟨hE2.up s3,by rw[gk _ (by omega)];exact hU.no,(k2 _ (by omega)).trans hU.sl,(hU.up s3).th,hU.off,hU.low⟩
    have back:∀{H4:Hp}{s4:T},Has k (own.length+kk) (λb=>A b\/b=p) (Offs R H1) e1 σ2 H4 v R s4->Has k (own.length+kk) (λb=>A b\/b=p) (Offs R H1) (envB own fr env) σ2 H4 v R s4:=λ{H4 s4} hq=>⟨hq.ok.weaken gl.symm (λj d' ej=>by
     by_cases hj:own.length<=j
     ·rw[gk j hj];exact ej
     ·obtain⟨_,k,rfl,_⟩:=zmi ej;omega) λj d'=>zha,hU.no,hq.sl,hq.th,hq.off,hq.low⟩
    cases b with
    | false=>
     have ec:zix gf t e (envB own fr env) (ds.drop (i+1)) s'=some (rest,sE):=ec
     exact iteF ⟨hlt,vs,done,rest,s',s3 _ _ (sy _ _ ep),Rps.same (Offs.grow (sy.trans s3)) _ rd,qA7 dl,ec,edr,back hE3⟩
    | true=>
     have ec:((e e1 s').bind λx=>(zix gf t e (envB own fr env) (ds.drop (i+1)) x.2).map λy=>(x.1.d::y.1,y.2))=some (rest,sE):=ec
     obtain⟨⟨r,s4⟩,er,ec⟩:=qA.mp ec
     obtain⟨⟨rest',sE'⟩,er',ec⟩:=qE.mp ec
     cases ec
     refine iteT (h4 _ (Offs R H1) e1 σ2 H3 v R s' hE3 r s4 er _ λw H4 m4 k4 hv=>?_)
     have t3:=sy.trans s3
     have ep4:H4 p=some (.lst vs):=m4.keep p _ pR (t3 _ _ ep)
     have so:Same (Offs (λb=>A b\/b=p) H') (Offs (λb=>A b\/b=p) H4):=λb o eb=>by
      obtain⟨n,eb⟩:=Offs.of eb
      rw[Offs.get n]
      exact m4.keep b o (λz=>n (RA b z)) (t3 _ _ eb)
     have k5:=back k4
     refine⟨vs,ep4,zjy (by rw[<- rd.length];omega),hlt,vs++[w],done++[r.d],rest',s4,zbk,?_,by rw[qF];simp;omega,er',by rw[<- edr];simp,⟨k5.ok.updFx (.inr rfl) (by rw[Offs.get pR];exact hp),k5.no,k5.sl,k.stay k5.th λb o z eo=>by rw[zbs λy=>pR (by rw[<- y];exact z)];exact eo,k5.off,k5.low⟩⟩
     rw[Offs.upd (.inr rfl)]
     exact(Rps.same so _ rd).append (zby (Rp.same (Offs.sub λb z=>.inl z) _ hv.rp) zca)
  ·have hi':i=ds.length:=by omega
   subst hi'
   rw[qAa]at ec
   cases ec
   rw[q9]at edr
   subst edr
   have m1:MvR R H1 H':=⟨λb o n eb=>hE.ok.base b o (by rw[Offs.get n];exact eb),λb o eb=>by
    by_cases z:R b
    ·exact k.live hE.th b z
    ·exact⟨o,hE.ok.base b o (by rw[Offs.get z];exact eb)⟩⟩
   refine .inl ⟨ys,q _ H' (m0.trans m1) (k0.mv m1 hE.th) ⟨?_,λ_=>⟨p,rfl,m0.free hp,?_⟩⟩⟩
   ·show Rp (Offs (lim fx env σ (if zda done=true then[]else bs++capA fr env)) H') (.list done) (.ref p)
    have nl:∀cs,¬lim fx env σ cs p:=λcs z=>by
     obtain⟨o,eo⟩:=k0.ok.lims _ p z
     rw[hp]at eo;cases eo
    refine zgr (by rw[Offs.get (nl _)];exact ep) ?_
    split
    ·rename_i f;exact zhb f rd
    ·exact Rps.same (Offs.sub λb z=>.inl ((hA' b).mp z)) _ rd
   ·show zff (Offs (λb=>lim fx env σ (if zda done=true then[]else bs++capA fr env) b\/b=p) H') H' p (.list done)
    refine⟨vs,ep,?_⟩
    split
    ·rename_i f;exact zhb f rd
    ·exact Rps.same (Offs.sub λb z=>z.elim (λy=>.inl ((hA' b).mp y)) .inr) _ rd
 ·cases hr
end
noncomputable def zaky(K:qD)(H:Hp)(v:V)(R:Addr->Prop)(ns:List Int):Prop:=∃a,v=.ref a/\(∀b,R b->b=a/\∃o,H b=some o)/\SqL K H a (ns.map .int)/\(R a\/∀H',SqL K H' a (ns.map .int))
theorem zais{K:qD}{H:Hp}{a:Addr}{ns:List Int}(h:SqL K H a (ns.map .int)):∃R:Addr->Prop,(∀b,R b->∃o,H b=some o)/\zaky K H (.ref a) R ns:=by
 rcases h with(h|⟨o,h⟩)|h
 ·have l:∀b,b=a->∃o,H b=some o:=λb hb=>⟨_,hb▸h⟩
  exact⟨λb=>b=a,l,a,rfl,λb hb=>⟨hb,l b hb⟩,.inl (.inl h),.inl rfl⟩
 ·have l:∀b,b=a->∃o,H b=some o:=λb hb=>⟨_,hb▸h⟩
  exact⟨λb=>b=a,l,a,rfl,λb hb=>⟨hb,l b hb⟩,.inl (.inr ⟨o,h⟩),.inl rfl⟩
 ·exact⟨λ_=>False,λb hb=>hb.elim,a,rfl,λb hb=>hb.elim,.inr h,.inr λ_=>.inr h⟩
noncomputable abbrev zait(xs:List Str):Str:=Builtin.Str.glued "" xs
theorem zsp:∀{xs:List Str}{us:List Value},Vals (xs.map V.str) us->∃l:List (Str×Tok),us=strValues l/\l.map (·.1)=xs
 | [],us,h=>by cases h;exact⟨[],rfl,rfl⟩
 | x::xs,us,h=>by
  cases h with
  | cons r h=>
   obtain⟨t,rfl⟩:=r
   obtain⟨l,rfl,rfl⟩:=zsp h
   exact⟨(x,t)::l,rfl,rfl⟩
noncomputable def zxd:PyData->Option PyData
 | .list ds=>(unT ds).bind λxs=>if xs.foldl (λn z=>n+z.length+0) 0<=100000/\(zait xs).length<=100000 then some (.str (zait xs))else none
 | _=>none
where unT:List PyData->Option (List Str)
 | []=>some []
 | .str x::r=>(unT r).map λxs=>x::xs
 | _::_=>none
theorem zwa:∀{ds:List PyData}{xs:List Str},zxd.unT ds=some xs->ds=xs.map .str
 | [],xs,h=>by cases h;rfl
 | d::r,xs,h=>by
  cases d with
  | str x=>
   obtain⟨ys,hy,rfl⟩:=qE.mp h
   rw[zwa hy];rfl
  | _=>cases h
theorem znj{H:Hp}:∀{cs:List Str}{xs:List V},Rps H (cs.map .str) xs->xs=cs.map .str
 | [],xs,h=>by unfold Rps at h;exact h
 | c::cs,xs,h=>by
  rw[qm]at h
  unfold Rps at h
  obtain⟨v,vs,rfl,h1,h2⟩:=h
  rw[zhl h1,znj h2];rfl
theorem zko{J:Nat->Prop}{i:Nat}:SSk J (tRet (tVar i)) (zkc i):=λfx H0 env σ H D h o e q=>zul fx H0 env σ H D h o e (by
 unfold zkc at e
 split at e
 ·cases e;exact q
 ·cases e;exact q
 ·cases e)
theorem zkp{f m:Nat}{g:GTs}(h:∀ds env env',g ds env=some env'->env[f]?=some .no->env'[f]?=some .no):GTno f (gT m g):=λd env env' e hn=>by
 unfold gT at e
 cases d with
 | tuple ds=>
  have e:(if ds.length=m then g ds env else none)=some env':=e
  split at e
  ·exact h ds env env' e hn
  ·cases e
 | _=>cases e
theorem zkq{f:Nat}:∀ds env env',zeg ds env=some env'->env[f]?=some Sl.no->env'[f]?=some .no:=λds env env' e hn=>by
 cases ds with
 | nil=>cases e;exact hn
 | cons _ _=>cases e
theorem zdf{f i:Nat}{g:GTs}(hi:i≠f)(h:∀ds env env',g ds env=some env'->env[f]?=some .no->env'[f]?=some .no):∀ds env env',zax i g ds env=some env'->env[f]?=some Sl.no->env'[f]?=some .no:=λds env env' e hn=>by
 cases ds with
 | nil=>cases e
 | cons d ds=>exact h ds _ env' e (by rw[qG hi];exact hn)
section
variable{T:Type}{k:Kind T}{f:Nat}
noncomputable def zzo(i:Nat)(gk gv:EFr T):SFr T:=λenv st=>match env[i]? with
 | some (.ac (.list ds))=>(gv env st).bind λx=>(gk env x.2).bind λy=>(match y.1.d with
  | .int z=>(ixN ds.length z).bind λj=>if i∉x.1.bs then some (.nx ((frzs env x.1.bs).set i (.ac (.list (ds.set j x.1.d)))) y.2)else none
  | _=>none)
 | _=>none
theorem zacj{i:Nat}{tk tv:TE}{gk gv:EFr T}(h1:SEr k f tk gk)(h2:SEr k f tv gv):SSr k f (tAsg tv (gSub (tVar i) tk zabe)) (zzo i gk gv):=by
 intro fx H0 env σ H v R st D hh o e q
 unfold zzo at e
 split at e
 ·rename_i ds ei
  obtain⟨⟨r,s1⟩,er,e⟩:=qA.mp e
  obtain⟨⟨⟨kd,kf,kb⟩,s2⟩,ek,e⟩:=qA.mp e
  cases kd with
  | int z=>
   obtain⟨j,ej,e⟩:=qA.mp e
   split at e
   ·rename_i hl
    cases e
    have hif:i≠f:=λz=>by rw[z,hh.no]at ei;cases ei
    obtain⟨a,g1,g2,g3,g4⟩:=hh.ok.ac i _ ei
    refine h2 fx H0 env σ H v R st hh r s1 er _ λw H1 m1 k1 hv=>⟨_,g1,h1 fx H0 env σ H1 v R s1 k1 _ s2 ek _ λu H2 m2 k2 hk=>?_⟩
    cases zcj hk.rp
    have hv2:=hh.val m2 (k.live hh.th) hv
    have h':=k2.ok.frzs r.bs
    have ei':=zie hl ei
    obtain⟨a',z1,_,z3,z4⟩:=h'.ac i _ ei'
    rw[g1]at z1
    cases z1
    obtain⟨xs,hx',rx'⟩:=z4
    refine⟨a,xs,z,j,rfl,rfl,hx',by rw[<- rx'.length];exact ej,?_⟩
    refine q σ _ ⟨h'.mut ei' g1 ⟨_,zbk,rx'.setAt (Rp.same (Offs.sub zgo) _ hv2.rp) j⟩,?_,hh.sl,k.stay k2.th λb o hb eb=>?_,hh.off,hh.low⟩
    ·rw[qG hif];exact zli _ hh.no
    ·rw[zbs λz=>g3 (by rw[<- z];exact hh.off b hb)];exact eb
   ·cases e
  | _=>cases e
 ·cases e
end
noncomputable def zaiu(i j:Int):Prop:=0<=j/\j<=1000/\i.natAbs<2 ^ 1000
theorem zhq{X:Cx}:OpR X (binaryOp .Pow) (rI zaiu λi j=>.int (i ^ j.toNat)):=opI λi j _ _ _ _ _ hc q=>pow_int hc.1 (by
 have hb:Builtin.Int.intBits i<=1000:=intBits_le hc.2.2
 have h0:(0:Int)<=j:=hc.1
 have hj:j<=1000:=hc.2.1
 have h1:(Builtin.Int.intBits i:Int) * j<=1000 * j:=Int.mul_le_mul_of_nonneg_right (by omega) h0
 omega) q
noncomputable def powB:OF:=intD (λi j=>decide (0<=j/\j<=1000)&&decide (i.natAbs<2 ^ 1000)) λi j=>.int (i ^ j.toNat)
theorem zhr:SO (rI zaiu λi j=>.int (i ^ j.toNat)) powB:=zyq (λi j h=>by
 rw[qy]at h
 exact⟨(of_decide_eq_true h.1).1,(of_decide_eq_true h.1).2,of_decide_eq_true h.2⟩) λ_ _ _=>zaa
section
variable{T:Type}
theorem zfk{a b:SFr T}{env e1:DEnv}{st s1:T}{o:Option (OutR T)}(h:a env st=some (.nx e1 s1))(k:b e1 s1=o):rSeq a b env st=o:=by unfold rSeq;rw[h];exact k
theorem zuw{a b:SFr T}{env:DEnv}{st s1:T}{d:PyData}{fr:Bool}(h:a env st=some (.rt d fr s1)):rSeq a b env st=some (.rt d fr s1):=by unfold rSeq;rw[h];rfl
theorem zkd{i:Nat}{g:EFr T}{env:DEnv}{st s1:T}{r:Val}(h:g env st=some (r,s1)):rSet i g env st=some (.nx (putV env i r) s1):=by unfold rSet;rw[h];rfl
theorem zux{g:EFr T}{env:DEnv}{st s1:T}{d:PyData}{fr:Bool}{bs:List Nat}(h:g env st=some (⟨d,fr,bs⟩,s1)):rRet g env st=some (.rt d fr s1):=by unfold rRet;rw[h];rfl
theorem zafn{c:TFr T}{a b:SFr T}{env:DEnv}{st s1:T}{o:Option (OutR T)}(h:c env st=some (true,s1))(k:a env s1=o):rIf c a b env st=o:=by unfold rIf;rw[h];exact k
theorem zafo{c:TFr T}{a b:SFr T}{env:DEnv}{st s1:T}{o:Option (OutR T)}(h:c env st=some (false,s1))(k:b env s1=o):rIf c a b env st=o:=by unfold rIf;rw[h];exact k
theorem zgb{g:EF}{env:DEnv}{st:T}{r:Val}(h:g env=some r):zak g env st=some (r,st):=by unfold zak;rw[h];rfl
theorem zwb{c:TF}{env:DEnv}{st:T}{b:Bool}(h:c env=some b):zir c env st=some (b,st):=by unfold zir;rw[h];rfl
theorem zpy{w:OF}{a b:EFr T}{env:DEnv}{st s1 s2:T}{x y:Val}{d:PyData}{fr:Bool}(h1:a env st=some (x,s1))(h2:b env s1=some (y,s2))(h3:w x.d y.d=some (d,fr)):rOp w a b env st=some (⟨d,fr,bsOf d (x.bs++y.bs)⟩,s2):=by unfold rOp;rw[h1];show((b env s1).bind _)=_;rw[h2];show((w x.d y.d).bind _)=_;rw[h3];rfl
theorem zack{a:EFr T}{g:AFr T}{env:DEnv}{st s1 s2:T}{x:Val}{xs:List Val}(h1:a env st=some (x,s1))(h2:g env s1=some (xs,s2)):zaz a g env st=some (x::xs,s2):=by unfold zaz;rw[h1];show((g env s1).bind _)=_;rw[h2];rfl
theorem zzp{n:Nat}{g:GR T}{a:AFr T}{env:DEnv}{st s1 s2:T}{rs:List Val}{d:PyData}{fr:Bool}(h:a env st=some (rs,s1))(hn:rs.length+1=n)(k:g (zdb rs) s1=some (d,fr,s2)):zbd n g a env st=some (⟨d,fr,bsOf d (bss rs)⟩,s2):=by unfold zbd;rw[h];show(if rs.length+1=n then _ else _)=_;rw[if_pos hn,k];rfl
theorem zzq{n:Nat}{F:SFr T}{ds:List PyData}{env:DEnv}{st s1:T}{d:PyData}{fr:Bool}(h:zpx n ds=env)(e:F env st=some (.rt d fr s1)):fnR n F ds st=some (d,fr,s1):=by unfold fnR;rw[h,e]
end
noncomputable def sExt(i:Nat)(f:EF):SF:=λenv=>match env[i]? with
 | some (.ac (.list ds))=>(f env).bind λr=>match r.d,r.fr with
  | .list es,true=>if ds.length+es.length<=100000/\i∉r.bs then some (.nx ((frzs env r.bs).set i (.ac (.list (ds++es)))))else none
  | _,_=>none
 | _=>none
theorem zadn{K:qD}{i:Nat}{te:TE}{f:EF}(h1:SE te f):SS (tDrop (tBM K "list" zyi (tVar i) (tCons te tNil))) (sExt i f):=by
 intro fx H0 env σ H D h o e q
 unfold sExt at e
 split at e
 ·rename_i ds ei
  obtain⟨⟨d,fr,bs⟩,er,e⟩:=qA.mp e
  dsimp only at e
  split at e
  ·rename_i es
   split at e
   ·rename_i hl
    cases e
    obtain⟨a,g1,g2,g3,g4⟩:=h.ac i _ ei
    obtain⟨xs,hx,rx⟩:=g4
    refine⟨_,g1,.inl ⟨rfl,_,SqL.of hx⟩,h1 fx H0 env σ H h _ er _ λv H' s hv=>?_⟩
    obtain⟨b,rfl,hb,zs,hz,rz⟩:=hv.fr rfl
    have h':=(h.up s).frzs bs
    have ei':=zie hl.2 ei
    have hx':=s _ _ hx
    have rx':Rps (Offs (λb=>fx b\/own (frzs env bs) σ b) H') ds xs:=by
     obtain⟨a',z1,_,_,z4⟩:=h'.ac i _ ei'
     rw[g1]at z1
     cases z1
     obtain⟨ys,y1,y2⟩:=z4
     rw[hx']at y1
     cases y1
     exact y2
    have rz':Rps (Offs (λb=>fx b\/own (frzs env bs) σ b) H') es zs:=Rps.same (Offs.sub λc z=>.inl (zgo c z)) _ rz
    refine⟨a,b,xs,zs,rfl,rfl,hx',hz,zeq (by rw[<- rx.length,<- rz.length];exact hl.1),?_⟩
    exact q σ _ (h'.mut ei' g1 ⟨_,zbk,rx'.append rz'⟩)
   ·cases e
  ·cases e
 ·cases e
section
variable{X:Cx}
theorem bpaC{e:Expr}{es:List Expr}{te:TE}{t:TA}(h1:Bx (PE X e te))(h2:Bx (PA X es t))(h3:isStar e=false:=by rfl):Bx (PA X (e::es) (tCons te t)):=zdp h1 h2 h3
theorem bpeD{x:Str}{p pos:Pos}{e:Expr}{es:List Expr}{t:TA}{ps:List Str}{k m:Nat}{sp:Sp}(D:Dn X.prog X.w X.K X.mg X.base x ps k sp)(hr:Room m X.A)(ha:Bx (PA X (e::es) t))(hm:k<=m:=by decide)(hg:Gl X x:=by rfl)(hd:(x==("__debug__":Str))=false:=by decide)
  (hs:isStar e=false:=by rfl) (hp:((backTo pos (starEach es X.env)).any λx=>x.1)=false:=by rfl):Bx (PE X (.Call (.Name x p) (e::es) [] pos) (tCall sp [] E0 t)):=zlp D (hr.mono hm) hg ha hd (zaq hs) hp
theorem bpeB{x:Str}{p pos:Pos}{e:Expr}{es:List Expr}{t:TA}{id:String}{r:List V->Hp->VK->Prop}(hc:CallR X (.builtin id) r)(hm:X.mg x=none)(hb:bootBuiltins x=some (.builtin id))(ha:Bx (PA X (e::es) t))(hg:Gl X x:=by rfl)(h1:x≠("__name__":Str):=by decide)(h2:(x==("__debug__":Str))=false:=by decide)
  (hs:isStar e=false:=by rfl) (hp:((backTo pos (starEach es X.env)).any λx=>x.1)=false:=by rfl):Bx (PE X (.Call (.Name x p) (e::es) [] pos) (tCB r t)):=zzh hc hg hm hb ha h1 h2 (zaq hs) hp
theorem bpeT{x:Str}{p pos:Pos}{e:Expr}{es:List Expr}{t:TA}{T:String}{r:List V->Hp->VK->Prop}(hc:CallR X (.type T) r)(hm:X.mg x=none)(hb:bootBuiltins x=some (.type T))(ha:Bx (PA X (e::es) t))(hg:Gl X x:=by rfl)(h1:x≠("__name__":Str):=by decide)(h2:(x==("__debug__":Str))=false:=by decide)
  (hs:isStar e=false:=by rfl) (hp:((backTo pos (starEach es X.env)).any λx=>x.1)=false:=by rfl):Bx (PE X (.Call (.Name x p) (e::es) [] pos) (tCB r t)):=zxc hc hg hm hb ha h1 h2 (zaq hs) hp
theorem bpsS{pos:Pos}{i:Nat}{x:Str}{e:Expr}{te:TE}{pos':Pos}(hN:X.N.Nodup)(hi:X.N[i]?=some x)(hl:Loc X.env.scope x)(he:Bx (PE X e te))(hs:swapsWith e (some (.Name x pos')) pos.line X.env=pure false:=by rfl)(hf:X.fn x=true\/X.env.scope.names.lookup x=some .local:=by exact .inl rfl):Bx (PS X (.Assign [.Name x pos'] e pos) (tAsg te (gName i))):=zur hN hi hl he hs hf
theorem bpeX{a b:Expr}{ta tb:TE}{pos:Pos}{r:R2}(hr:IxR X r)(h1:Bx (PE X a ta))(h2:Bx (PE X b tb))(hp:PlainIx b:=by exact λ_ _=>rfl):Bx (PE X (.Subscript a b pos) (tOp r ta tb)):=zadl hr h1 h2 hp
theorem bpgN{pos:Pos}{i:Nat}{x:Str}(hN:X.N.Nodup)(hi:X.N[i]?=some x)(hl:Loc X.env.scope x)(hf:X.fn x=true\/X.env.scope.names.lookup x=some .local:=by first|exact .inl rfl|exact .inr rfl|assumption):Bx (PG X (.Name x pos) (gName i)):=zacd hN hi hl hf
end
noncomputable abbrev zcx(sep:Str)(xs:List Str):Str:=Builtin.Str.glued sep xs
noncomputable def zado(sep:Str):V->List V->Hp->VK->Prop:=λx vs H Q=>∃a xs,x=.str sep/\vs=[.ref a]/\H a=some (.lst (xs.map .str))/\xs.foldl (λn z=>n+z.length+sep.length) 0<=100000/\(zcx sep xs).length<=100000/\Q (.str (zcx sep xs)) H
theorem zdm{X:Cx}{sep:Str}:MtR X "str.join" (zado sep):=by
 intro pins s σ H x vs v us Q I rx rv h
 obtain⟨a,xs,rfl,rfl,hH,hn,hg,q⟩:=h
 obtain⟨t,rfl⟩:=rx
 obtain⟨u,rfl,ru⟩:=rv.one
 cases ru
 obtain⟨_,its,n,r,hl,e⟩:=I.lstM hH
 obtain⟨l,rfl,hx⟩:=zsp r
 have big:(100000:Nat)<=qc:=by rw[qAi];omega
 have ht:Builtin.Str.tooLong ((l.map (·.1)).toArray.foldl (·+·.length+sep.length) 0)=false:=by
  unfold Builtin.Str.tooLong
  rw[hx,List.foldl_toArray']
  refine decide_eq_false ?_
  have:xs.foldl (λn z=>n+z.length+sep.length) 0<=100000:=hn
  omega
  simp
 refine qBh F.slot_str_join (qBM s _ _) F.entry_str_join (F.args_str_join_2 _ _) (meets_str_join_list sep t a l ht) ⟨⟨_,e,rfl,n,rfl⟩,?_⟩
 have fin:∀(tk tk':Nat),EP X pins σ Q (.str (zcx sep xs) tk) {s with toks:=tk'}:=λtk tk'=>⟨.str _,H,I.tok _,⟨_,rfl⟩,q⟩
 cases l with
 | nil=>cases hx;exact⟨qf hg big,fin _ _⟩
 | cons p l=>
  cases l with
  | nil=>
   cases hx
   have e1:zcx sep [p.1]=p.1:=by unfold zcx Builtin.Str.glued;rfl
   show EP X pins σ Q (.str p.1 p.2) s
   have:=fin p.2 s.toks
   rw[show[p].map (·.1)=[p.1]from rfl,e1]at this
   exact this
  | cons p2 l=>subst hx;exact⟨qf hg big,fin _ _⟩
noncomputable def zzr(sep:Str):PyData->Option PyData
 | .list ds=>(zxd.unT ds).bind λxs=>if xs.foldl (λn z=>n+z.length+sep.length) 0<=100000/\(zcx sep xs).length<=100000 then some (.str (zcx sep xs))else none
 | _=>none
noncomputable def zdg(sep:Str)(g:EF):EF:=λenv=>(g env).bind λx=>(zzr sep x.d).map λd=>⟨d,false,[]⟩
theorem zdn{K:qD}{sep:Str}{te:TE}{g:EF}(h1:SE te g):SE (tBM K "str" (zado sep) (tC (.str sep)) (tCons te tNil)) (zdg sep g):=by
 intro fx H0 env σ H hh r e Q q
 unfold zdg at e
 obtain⟨x,ex,e⟩:=qA.mp e
 obtain⟨d,ed,e⟩:=qE.mp e
 cases e
 refine⟨rfl,h1 fx H0 env σ H hh x ex _ λw H1 s1 hv=>?_⟩
 obtain⟨xd,xf,xb⟩:=x
 cases xd with
 | list ds=>
  have ed:((zxd.unT ds).bind λxs=>if xs.foldl (λn z=>n+z.length+sep.length) 0<=100000/\(zcx sep xs).length<=100000 then some (PyData.str (zcx sep xs))else none)=some d:=ed
  obtain⟨xs,eu,ed⟩:=qA.mp ed
  split at ed
  ·rename_i hl
   cases ed
   have:=zwa eu
   subst this
   obtain⟨a,ys,rfl,ha,ry⟩:=zfe hv.rp
   have:=znj ry
   subst this
   exact⟨a,xs,rfl,rfl,(Offs.of ha).2,hl.1,hl.2,q _ H1 s1 ⟨zal,λz=>by cases z⟩⟩
  ·cases ed
 | _=>cases ed
noncomputable def zaiv:V->List V->Hp->VK->Prop:=λx vs H Q=>∃a b,x=.str a/\vs=[.str b]/\Q (.int (Txt.find a b)) H
theorem zafp{X:Cx}:MtR X "str.find" zaiv:=by
 intro pins s σ H x vs v us Q I rx rv h
 obtain⟨a,b,rfl,rfl,q⟩:=h
 obtain⟨t,rfl⟩:=rx
 obtain⟨u,rfl,ru⟩:=rv.one
 obtain⟨t',rfl⟩:=ru
 exact call_gives F.slot_str_find (qBM _ _ _) F.entry_str_find (F.args_str_find_2 _ _) (gives_str_find a b t t') ⟨.int _,H,I.tok _,⟨_,rfl⟩,q⟩
noncomputable def zzs(g k:EF):EF:=λenv=>(g env).bind λx=>(k env).bind λy=>match x.d,y.d with
 | .str a,.str b=>some ⟨.int (Txt.find a b),false,[]⟩
 | _,_=>none
theorem zafq{K:qD}{ta tb:TE}{g k:EF}(h1:SE ta g)(h2:SE tb k):SE (tBM K "str" zaiv ta (tCons tb tNil)) (zzs g k):=by
 intro fx H0 env σ H hh r e Q q
 unfold zzs at e
 obtain⟨⟨xd,xf,xb⟩,ex,e⟩:=qA.mp e
 obtain⟨⟨yd,yf,yb⟩,ey,e⟩:=qA.mp e
 dsimp only at e
 split at e
 ·cases e
  refine h1 fx H0 env σ H hh _ ex _ λw H1 s1 v1=>?_
  cases zhl v1.rp
  refine⟨rfl,?_⟩
  refine h2 fx H0 env σ H1 (hh.up s1) _ ey _ λw2 H2 s2 v2=>?_
  cases zhl v2.rp
  exact⟨_,_,rfl,rfl,q _ H2 (s1.trans s2) ⟨zaa,λz=>by cases z⟩⟩
 ·cases e
noncomputable def zlz:GF
 | [.bool b]=>some (.int (if b then 1 else 0),false)
 | _=>none
theorem zre:SC (λxs H Q=>(∃i,xs=[.int i]/\Q (.int i) H)\/∃k,xs=[.bl k]/\Q (.int (if k then 1 else 0)) H) zlz:=by
 intro A H vs ds hA rv d fr e Q q
 unfold zlz at e
 split at e
 ·cases e
  obtain⟨v,rfl,r1⟩:=rps1 rv
  cases zjx r1
  exact .inr ⟨_,rfl,q _ H (Same.refl _) zaa (λz=>by cases z)⟩
 ·cases e
theorem ziy{X:Cx}:CallR X (.type "str") (λxs H Q=>(∃i,xs=[.int i]/\i.natAbs.log2<1920/\Q (.str (toString i)) H)\/∃x,xs=[.str x]/\Q (.str x) H):=by
 intro pins s σ H xs us Q I r h
 rcases h with h|⟨x,rfl,q⟩
 ·exact zrz pins s σ H xs us Q I r h
 ·obtain⟨u,rfl,t,rfl⟩:=zpi r
  exact PySem.P.str_of_str ⟨.str _,H,I,⟨_,rfl⟩,q⟩
noncomputable def znk:GF
 | [.str x]=>some (.str x,false)
 | ds=>strD ds
theorem znl:SC (λxs H Q=>(∃i,xs=[.int i]/\i.natAbs.log2<1920/\Q (.str (toString i)) H)\/∃x,xs=[.str x]/\Q (.str x) H) znk:=by
 intro A H vs ds hA rv d fr e Q q
 unfold znk at e
 split at e
 ·cases e
  obtain⟨v,rfl,r1⟩:=rps1 rv
  cases zhl r1
  exact .inr ⟨_,rfl,q _ H (Same.refl _) zal (λz=>by cases z)⟩
 ·exact .inl (zaip A H vs _ hA rv d fr e Q q)
noncomputable def zlq(x:Str):List Str:=x.cps.toList.map λc=>⟨#[c]⟩
theorem zlj{X:Cx}{K:qD}(hK:X.K=K)(hc:X.calm=true):CallR X (.type "list") (λxs H Q=>(∃p ys,xs=[.ref p]/\(SqL K H p ys\/SqT K H p ys)/\∀l,H l=none->Q (.ref l) (upd H l (.lst ys)))\/
  ∃x,xs=[.str x]/\x.length<=100000/\∀l,H l=none->Q (.ref l) (upd H l (.lst ((zlq x).map V.str)))):=by
 intro pins s σ H xs us Q I r h
 subst hK
 rcases h with h|⟨x,rfl,hl,q⟩
 ·exact zsg pins s σ H xs us Q I r h
 ·obtain⟨u,rfl,t,rfl⟩:=zpi r
  have big:(100000:Nat)<=qc:=by rw[qAi];omega
  refine call_list_str (I.ok.hd hc) x t (λh' tk acc' c' kp e hacc=>?_) (hn:=qf hl big)
  have rv:Vals ((zlq x).map V.str) acc'.toList:=by
   have go:∀(as:List Nat)(bs:List Value),bs.length=as.length->(∀(j:Nat)(v:Value),bs[j]?=some v->∃(c:Nat)(u:Tok),as[j]?=some c/\v=Value.str ⟨#[c]⟩ u)->Vals (as.map λc=>V.str ⟨#[c]⟩) bs:=by
    intro as
    induction as with
    | nil=>intro bs hb _;cases bs with
     | nil=>exact .nil
     | cons _ _=>cases hb
    | cons a as ih=>intro bs hb hv;cases bs with
     | nil=>cases hb
     | cons b bs=>
      obtain⟨c,u,h1,h2⟩:=hv 0 b rfl
      cases h1
      exact .cons ⟨u,h2⟩ (ih bs (by simpa using hb) λj v e=>hv (j+1) v (by simpa using e))
   have:=go x.cps.toList acc'.toList (by simpa using hacc.1) (λj v e=>by
    obtain⟨c,u,h1,h2⟩:=hacc.2 j v (by simpa using e)
    exact⟨c,u,by simpa using h1,h2⟩)
   unfold zlq
   rw[qAM]
   exact this
  refine⟨.ref s.heap.objs.size,_,I.laid (t':=tk) kp (qI _) (show zhj X.prog X.w _ h' _ (.lst ((zlq x).map V.str))from⟨?_,acc'.toList,c',rv,by simpa using e⟩),rfl,q _ (I.hok.fresh (qI _))⟩
  unfold zlq
  rw[qC,qC,qAb]
  exact qf hl big
noncomputable def znm:GF
 | [.str x]=>if x.length<=100000 then some (.list ((zlq x).map .str),true)else none
 | ds=>zaey ds
theorem zrf{H:Hp}:∀(cs:List Str),Rps H (cs.map .str) (cs.map .str)
 | []=>zca
 | c::cs=>zby zal (zrf cs)
theorem zrg{K:qD}:SC (λxs H Q=>(∃p ys,xs=[.ref p]/\(SqL K H p ys\/SqT K H p ys)/\∀l,H l=none->Q (.ref l) (upd H l (.lst ys)))\/
  ∃x,xs=[.str x]/\x.length<=100000/\∀l,H l=none->Q (.ref l) (upd H l (.lst ((zlq x).map V.str)))) znm:=by
 intro A H vs ds hA rv d fr e Q q
 unfold znm at e
 split at e
 ·split at e
  ·rename_i hl
   cases e
   obtain⟨v,rfl,r1⟩:=rps1 rv
   cases zhl r1
   exact .inr ⟨_,rfl,hl,λl hl=>q _ _ (Same.new hl) (zmu hl (zfg hA hl) (zrf _)) λ_=>⟨l,rfl,hl,zjz hl (zrf _)⟩⟩
  ·cases e
 ·exact .inl (zaez A H vs _ hA rv d fr e Q q)
theorem zsq{X:Cx}{K:qD}{m:Nat}(hK:X.K=K)(hr:Room m X.A):CallR X (.builtin "repr") (λxs H Q=>∃a d,xs=[.ref a]/\Rep K H d (.ref a)/\d.showable=true/\d.hasDict=false/\d.depth<=40/\d.shown.length<=1000000/\Q (.str d.shown) H):=by
 intro pins s σ H xs us Q I r h
 subst hK
 obtain⟨a,d,rfl,rp,hs,hd,hdp,hl,q⟩:=h
 obtain⟨u,rfl,ru⟩:=zpi r
 cases ru
 obtain⟨as,rd⟩:=zhx I d rp rfl
 have hu:=hr.units
 exact repr_of_reads' rd hs (PyData.noDict_hsm hd) hr.gd (by omega) (λ_ _ e=>e) (λh' u tk hk=>⟨.str _,H,I.kept hk,⟨_,rfl⟩,q⟩) (qf hl (by rw[qAi];omega))
noncomputable def zuy:GF
 | [d]=>if zfb d=false/\d.canLay0=true/\d.showable=true/\d.depth<=40/\d.shown.length<=1000000 then some (.str d.shown,false)else none
 | _=>none
theorem zzt{K:qD}:SC (λxs H Q=>∃a d,xs=[.ref a]/\Rep K H d (.ref a)/\d.showable=true/\d.hasDict=false/\d.depth<=40/\d.shown.length<=1000000/\Q (.str d.shown) H) zuy:=by
 intro A H vs ds hA rv d fr e Q q
 unfold zuy at e
 split at e
 ·rename_i d0
  split at e
  ·rename_i hl
   cases e
   obtain⟨v,rfl,r1⟩:=rps1 rv
   obtain⟨h1,h2,h3,h4,h5⟩:=hl
   have rp:=Rp.same (Offs.same A H) _ r1
   have ha:∃a,v=.ref a:=by
    cases d0 with
    | list ds=>obtain⟨a,xs,e,_⟩:=zfe rp;exact⟨a,e⟩
    | tuple ds=>obtain⟨a,xs,e,_⟩:=zdt rp;exact⟨a,e⟩
    | dict ds=>obtain⟨a,xs,e,_⟩:=zug rp;exact⟨a,e⟩
    | _=>cases h1
   obtain⟨a,rfl⟩:=ha
   exact⟨a,d0,rfl,zpv h2 rp,h3,PyData.hasDict_of_canLay _ h2,h4,h5,q _ H (Same.refl _) zal (λz=>by cases z)⟩
  ·cases e
 ·cases e
structure Pen3 where
 ns:List Int
 at_:Int
 acc:Int
noncomputable def zadp(K:qD)(H:Hp)(v:V)(R:Addr->Prop)(st:Pen3):Prop:=∃p q,v=.ref p/\H p=some (.lst [.ref q,.int st.at_,.int st.acc])/\SqL K H q (st.ns.map .int)/\(R q\/∀H',SqL K H' q (st.ns.map .int))/\R p/\∀b,R b->(b=p\/b=q)/\∃o,H b=some o
theorem zacl{K:qD}{H H':Hp}{R:Addr->Prop}{q:Addr}{xs:List V}(h:SqL K H q xs)(r:R q\/∀H',SqL K H' q xs)(k:∀b o,R b->H b=some o->H' b=some o):SqL K H' q xs:=by
 rcases r with r|r
 ·rcases h with(h|⟨o,h⟩)|h
  ·exact .inl (.inl (k q _ r h))
  ·exact .inl (.inr ⟨o,k q _ r h⟩)
  ·exact .inr h
 ·exact r H'
noncomputable def zgd(K:qD):Kind Pen3 where
 at_:=zadp K
 live:=λ{H v R st} ⟨p,q,_,_,_,_,_,h⟩ b hb=>(h b hb).2
 stay:=λ{H H' v R st} ⟨p,q,e,hp,hq,r,rp,h⟩ k=>⟨p,q,e,k p _ rp hp,zacl hq r k,r,rp,λb hb=>⟨(h b hb).1,let⟨o,eo⟩:=(h b hb).2;⟨o,k b o hb eo⟩⟩⟩
noncomputable def Pen3.get(st:Pen3):Nat->Option Int
 | 1=>some st.at_
 | 2=>some st.acc
 | _=>none
noncomputable def Pen3.set(st:Pen3):Nat->Int->Option Pen3
 | 1,x=>some {st with at_:=x}
 | 2,x=>some {st with acc:=x}
 | _,_=>none
section
variable{K:qD}{f:Nat}
noncomputable def zxe(i:Nat):EFr Pen3:=λ_ st=>(st.get i).map λx=>(⟨.int x,false,[]⟩,st)
theorem zmk{i:Nat}:SEr (zgd K) f (tOp (rIxU K) (tVar f) (tC (.int (i:Int)))) (zxe i):=by
 intro fx H0 env σ H v R st hh r st' e Q q
 obtain⟨x,ex,e⟩:=qE.mp e
 cases e
 obtain⟨p,q',rfl,hp,hq,_⟩:=id hh.th
 refine⟨.ref p,hh.sl,[.ref q',.int st.at_,.int st.acc],.int x,.inl (SqL.of hp),?_,q _ H (MvR.same (Same.refl _)) hh ⟨zaa,λz=>by cases z⟩⟩
 unfold Pen3.get at ex
 split at ex<;>cases ex<;>rfl
noncomputable def zsr(i:Nat)(g:EFr Pen3):SFr Pen3:=λenv st=>(g env st).bind λx=>match x.1.d with
 | .int y=>(x.2.set i y).map λs=>.nx env s
 | _=>none
theorem Pen3.set_ns{s s':Pen3}{i:Nat}{y:Int}(h:s.set i y=some s'):s'.ns=s.ns:=by
 unfold Pen3.set at h
 split at h<;>cases h<;>rfl
theorem zrh{i:Nat}{te:TE}{g:EFr Pen3}(h1:SEr (zgd K) f te g):SSr (zgd K) f (tAsg te (gSub (tVar f) (tC (.int (i:Int))) zabe)) (zsr i g):=by
 intro fx H0 env σ H v R st D hh o e q
 unfold zsr at e
 obtain⟨⟨⟨d,fr,bs⟩,s1⟩,er,e⟩:=qA.mp e
 cases d with
 | int y=>
  obtain⟨s2,es,rfl⟩:=qE.mp e
  refine h1 fx H0 env σ H v R st hh _ s1 er _ λw H1 m1 k1 hv=>?_
  cases zcj hv.rp
  obtain⟨p,q',rfl,hp,hq,r,rp,hR⟩:=id k1.th
  have es:s1.set i y=some s2:=es
  have ens:=Pen3.set_ns es
  have fin:∀j,ixN 3 (i:Int)=some j->zadp K (upd H1 p (.lst ([.ref q',.int s1.at_,.int s1.acc].set j (.int y)))) (.ref p) R s2:=λj hj=>by
   refine⟨p,q',rfl,?_,?_,by rw[ens];exact r,rp,λb hb=>⟨(hR b hb).1,?_⟩⟩
   ·rw[zbk]
    unfold Pen3.set at es
    split at es
    ·cases es;cases hj;rfl
    ·cases es;cases hj;rfl
    ·cases es
   ·rw[ens]
    rcases hq with(hq|⟨o,hq⟩)|hq
    ·have nz:q'≠p:=λz=>by
      rw[z,hp]at hq
      cases hns:s1.ns with
      | nil=>rw[hns]at hq;cases hq
      | cons c cs=>rw[hns]at hq;cases hq
     exact .inl (.inl (by rw[zbs nz];exact hq))
    ·have nz:q'≠p:=λz=>by
      rw[z,hp]at hq
      cases hq
     exact .inl (.inr ⟨o,by rw[zbs nz];exact hq⟩)
    ·exact .inr hq
   ·by_cases z:b=p
    ·rw[z];exact⟨_,zbk⟩
    ·rw[zbs z];exact(hR b hb).2
  obtain⟨j,hj⟩:∃j,ixN 3 (i:Int)=some j:=by
   unfold Pen3.set at es
   split at es
   ·exact⟨1,rfl⟩
   ·exact⟨2,rfl⟩
   ·cases es
  refine⟨_,k1.sl,p,_,_,j,rfl,rfl,hp,hj,q _ _ (k1.mv ⟨λc u n e=>by rw[zbs λz=>n (by rw[z];exact rp)];exact e,λc u e=>?_⟩ (fin j hj))⟩
  by_cases z:c=p
  ·rw[z];exact⟨_,zbk⟩
  ·exact⟨u,by rw[zbs z];exact e⟩
 | _=>cases e
noncomputable def zss:EFr Pen3:=λ_ st=>some (⟨.int st.ns.length,false,[]⟩,st)
theorem zwc:SEr (zgd K) f (tCB (λxs H Q=>∃x n,xs=[x]/\LenV K x H n/\Q (.int n) H) (tCons (tOp (rIxU K) (tVar f) (tC (.int 0))) tNil)) zss:=by
 intro fx H0 env σ H v R st hh r st' e Q q
 cases e
 obtain⟨p,q',rfl,hp,hq,_⟩:=id hh.th
 refine⟨.ref p,hh.sl,[.ref q',.int st.at_,.int st.acc],.ref q',.inl (SqL.of hp),rfl,.ref q',st.ns.length,rfl,?_,q _ H (MvR.same (Same.refl _)) hh ⟨zaa,λz=>by cases z⟩⟩
 exact .inl ⟨st.ns.map .int,hq,by rw[qC]⟩
noncomputable def rIx3(g:EF):EFr Pen3:=λenv st=>(g env).bind λx=>match x.d with
 | .int i=>if st.ns=[]then none else(atI st.ns (i % st.ns.length)).map λy=>(⟨.int y,false,[]⟩,st)
 | _=>none
theorem zzu{α β:Type}{g:α->β}{xs:List α}{i:Int}:atI (xs.map g) i=(atI xs i).map g:=by
 unfold atI
 rw[qC]
 cases ixN xs.length i with
 | none=>rfl
 | some j=>exact qa ..
theorem zafr{te:TE}{g:EF}(h1:SE te g):SEr (zgd K) f (tOp (rIxU K) (tOp (rIxU K) (tVar f) (tC (.int 0))) (tOp (rI (λ_ j=>0<j) λi j=>.int (i % j)) te (tCB (λxs H Q=>∃x n,xs=[x]/\LenV K x H n/\Q (.int n) H) (tCons (tOp (rIxU K) (tVar f) (tC (.int 0))) tNil)))) (rIx3 g):=by
 intro fx H0 env σ H v R st hh r st' e Q q
 unfold rIx3 at e
 obtain⟨⟨d,fr,bs⟩,er,e⟩:=qA.mp e
 cases d with
 | int i=>
  have e:(if st.ns=[]then none else(atI st.ns (i % st.ns.length)).map λy=>((⟨.int y,false,[]⟩:Val),st))=some (r,st'):=e
  split at e
  ·cases e
  ·rename_i hne
   obtain⟨y,ey,e⟩:=qE.mp e
   cases e
   obtain⟨p,q',rfl,hp,hq,r,rp,hR⟩:=id hh.th
   refine⟨.ref p,hh.sl,[.ref q',.int st.at_,.int st.acc],.ref q',.inl (SqL.of hp),rfl,?_⟩
   refine h1 fx H0 env σ H hh.ok _ er _ λw H1 s1 hv=>?_
   cases zcj hv.rp
   have hq1:=s1.seq hq
   have hp1:=s1 _ _ hp
   refine⟨.ref p,hh.sl,[.ref q',.int st.at_,.int st.acc],.ref q',.inl (SqL.of hp1),rfl,.ref q',st.ns.length,rfl,(.inl ⟨st.ns.map .int,hq1,by rw[qC]⟩),i,st.ns.length,rfl,rfl,?_,?_⟩
   ·have:=qAy.mpr hne
    omega
   ·exact⟨_,_,.inl hq1,by rw[zzu,ey];rfl,q _ H1 (MvR.same s1) (hh.up s1) ⟨zaa,λz=>by cases z⟩⟩
 | _=>cases e
end
noncomputable def zpz(K:qD):Sp:=λvs H Q _=>∃(a:Addr)(ns:List Int),vs=[.ref a]/\SqL K H a (ns.map .int)/\∀p,H p=none->Q (.ref p) (upd H p (.lst [.ref a,.int 0,.int 0]))
theorem zxf{K:qD}{vs:List V}{H:Hp}{Q:VK}{E:XK}(h:zpz K vs H Q E):vs.length=1:=by
 obtain⟨a,ns,rfl,_⟩:=h
 rfl
theorem zafs{K:qD}{vs:List V}{H:Hp}{Q:VK}{E:XK}(h:zpz K vs H Q E):tRet (tLst (tCons (tVar 0) (tCons (tC (.int 0)) (tCons (tC (.int 0)) tNil)))) {nx:=λ_ H'=>Q .non H',rt:=Q} (zgx ["_law_script"] vs) H:=by
 obtain⟨a,ns,rfl,hS,q⟩:=h
 exact⟨.ref a,rfl,by show 3<=_;exact zeq (by decide),λp hp=>q p hp⟩
theorem zzv{K:qD}{N:List Str}{n:Nat}{F:SFr Pen3}{t:TS}{ns:List Int}{a:Addr}{H:Hp}{D:Ends}{st':Pen3}(hN:N.length=n+2)(hs:SSr (zgd K) 1 t F)(hS:SqL K H a (ns.map .int))
  (ef:F (List.replicate (n+2) .no) ⟨ns,0,0⟩=some (.rt (.bool true) false st'))(q:∀H',D.rt (.bl true) H') :
  tSeq (tAsg (tCall (zpz K) [] E0 (tCons (tVar 0) tNil)) (gName 1)) t D (zgx N [.ref a]) H:=by
 have st:zgx N [.ref a]=some (.ref a)::List.replicate (n+1) none:=by
  unfold zgx
  rw[hN];rfl
 rw[st]
 refine⟨.ref a,rfl,?_⟩
 have key:zpz K [.ref a] H (λx H1=>t D ((some (V.ref a)::List.replicate (n+1) none).set 1 (some x)) H1) E0:=?_
 exact key
 refine⟨a,ns,rfl,hS,λp hp0=>?_⟩
 obtain⟨R,hR,hsc⟩:=zais hS
 obtain⟨a',ea,h1,h2,h3⟩:=hsc
 cases ea
 have e1:(some (V.ref a)::List.replicate (n+1) none).set 1 (some (.ref p))=some (.ref a)::some (.ref p)::List.replicate n none:=by
  rw[List.replicate_succ];rfl
 rw[e1]
 have noE:∀(i:Nat)(x:Sl),(List.replicate (n+2) Sl.no)[i]?=some x->x=.no:=λi x e=>by
  obtain⟨h1,h2⟩:=qb.mp e
  rw[List.getElem_replicate]at h2
  exact h2.symm
 have sn:Same H (upd H p (.lst [.ref a,.int 0,.int 0])):=Same.new hp0
 refine hs (λb=>b=p\/R b) (λ_=>none) _ _ (upd H p (.lst [.ref a,.int 0,.int 0])) (.ref p) (λb=>b=p\/R b) _ D ⟨⟨?_,λi d e=>?_,λi d e=>?_,λi j d e a' z=>?_,λb o z=>(nomatch z),λb z=>?_⟩,?_,rfl,⟨p,a,rfl,zbk,sn.seq hS,h3.imp .inr id,.inl rfl,λb z=>?_⟩,λb z=>z,λb z=>rfl⟩ _ ef λw H2 _ _ _ rt _=>?_
 ·simp
 ·cases noE i _ e
 ·cases noE i _ e
 ·cases noE i _ z
 ·rcases z with z|z
  ·rw[z];exact⟨_,zbk⟩
  ·obtain⟨o,eo⟩:=hR b z;exact⟨o,sn b o eo⟩
 ·rw[qAp];simp
 ·rcases z with z|z
  ·refine⟨.inl z,?_⟩
   rw[z];exact⟨_,zbk⟩
  ·obtain⟨o,eo⟩:=hR b z;exact⟨.inr (h1 b z).1,o,sn b o eo⟩
 ·rw[zjx rt.1];exact q H2
noncomputable def fmtV(v:V)(y:Str):Prop:=(v=.str y/\y.length<=100000)\/∃i:Int,v=.int i/\i.natAbs.log2<1920/\y=toString i
noncomputable def tJn:List (Str ⊕ TE)->Str->TE
 | [],acc=>λ_ H Q=>acc.length<=100000/\Q (.str acc) H
 | .inl c::r,acc=>λσ H Q=>(acc++c).length<=100000/\tJn r (acc++c) σ H Q
 | .inr te::r,acc=>λσ H Q=>te σ H λv H1=>∃y,fmtV v y/\(acc++y).length<=100000/\tJn r (acc++y) σ H1 Q
noncomputable def PJ(X:Cx)(es:List Expr)(js:List (Str ⊕ TE)):Prop:=∀(acc:Str)(pins:List (Addr×Obj))(s:Shared)(σ:St)(H:Hp)(Q:VK),Inv X pins σ H s->tJn js acc σ H Q->
 Joins (model X.prog X.w) X.A X.xe (evalEach es X.env) acc (λout s₁=>out.length<=qc/\EP X pins σ Q (.str out s₁.toks) {s₁ with toks:=s₁.toks+1}) s
section
variable{X:Cx}
theorem big5:(100000:Nat)<=qc:=by rw[qAi];omega
theorem zlk:Bx (PJ X [] []):=⟨λacc pins s σ H Q I h=>⟨qf h.1 big5,.str acc,H,I.tok _,⟨_,rfl⟩,h.2⟩⟩
theorem zst{c:Str}{j:Nat}{p:Pos}{es:List Expr}{js:List (Str ⊕ TE)}(h:Bx (PJ X es js)):Bx (PJ X (.Constant (.str c) j p::es) (.inl c::js)):=⟨by
 intro acc pins s σ H Q I hq
 show wpAny _ _ (eval (.Constant (.str c) j p) X.env) (λv s₁=>∃y t,v=.str y t/\(acc++y).length<=qc/\Joins _ _ _ (evalEach es X.env) (acc++y) _ s₁) _ s
 exact qBi ⟨c,_,rfl,qf hq.1 big5,h.out (acc++c) pins _ σ H Q (I.tok _) hq.2⟩⟩
theorem zsu{e:Expr}{p:Pos}{te:TE}{es:List Expr}{js:List (Str ⊕ TE)}(he:Bx (PE X e te))(h:Bx (PJ X es js)):Bx (PJ X (.FormattedValue e (-1) none p::es) (.inr te::js)):=⟨by
 intro acc pins s σ H Q I hq
 show wpAny _ _ (eval (.FormattedValue e (-1) none p) X.env) (λv s₁=>∃y t,v=.str y t/\(acc++y).length<=qc/\Joins _ _ _ (evalEach es X.env) (acc++y) _ s₁) _ s
 refine wpAny_FormattedValue_plain (thn (he.out pins s σ H _ I hq) λu s1 ⟨v,H1,I1,r,y,hy,hl,q⟩=>?_)
 rcases hy with⟨rfl,hz⟩|⟨i,rfl,hz,rfl⟩
 ·obtain⟨t,rfl⟩:=r
  exact formatField_str (λt' tk=>⟨y,t',rfl,qf hl big5,h.out (acc++y) pins _ σ H1 Q (I1.tok _) q⟩) (qf hz big5)
 ·obtain⟨t,rfl⟩:=r
  exact formatField_int_small hz ⟨_,_,rfl,qf hl big5,h.out _ pins _ σ H1 Q (I1.tok _) q⟩⟩
theorem zqa{a b:Expr}{es:List Expr}{pos:Pos}{js:List (Str ⊕ TE)}(h:Bx (PJ X (a::b::es) js)):Bx (PE X (.JoinedStr (a::b::es) pos) (tJn js Str.empty)):=⟨by
 intro pins s σ H Q I hq
 exact wpAny_JoinedStr (h.out Str.empty pins s σ H Q I hq)⟩
end
inductive SJ:List (Str ⊕ TE)->List (Str ⊕ EF)->Prop
 | nil:SJ [] []
 | c {x:Str} {r:List (Str ⊕ TE)} {s:List (Str ⊕ EF)}:SJ r s->SJ (.inl x::r) (.inl x::s)
 | e {te:TE} {f:EF} {r:List (Str ⊕ TE)} {s:List (Str ⊕ EF)}:SE te f->SJ r s->SJ (.inr te::r) (.inr f::s)
noncomputable def fmtD:PyData->Option Str
 | .str x=>if x.length<=100000 then some x else none
 | .int i=>if i.natAbs<10 ^ 101 then some (toString i)else none
 | _=>none
noncomputable def jnD:List (Str ⊕ EF)->Str->DEnv->Option Str
 | [],acc,_=>if acc.length<=100000 then some acc else none
 | .inl c::r,acc,env=>if(acc++c).length<=100000 then jnD r (acc++c) env else none
 | .inr f::r,acc,env=>(f env).bind λv=>(fmtD v.d).bind λy=>if(acc++y).length<=100000 then jnD r (acc++y) env else none
noncomputable def eFs(js:List (Str ⊕ EF)):EF:=λenv=>(jnD js Str.empty env).map λx=>⟨.str x,false,[]⟩
theorem zakz{H:Hp}{d:PyData}{v:V}{y:Str}(h:Rp H d v)(e:fmtD d=some y):fmtV v y:=by
 cases d with
 | str x=>
  have e:(if x.length<=100000 then some x else none)=some y:=e
  split at e
  ·rename_i hl;cases e;exact .inl ⟨zhl h,hl⟩
  ·cases e
 | int i=>
  have e:(if i.natAbs<10 ^ 101 then some ((toString i:String):Str)else none)=some y:=e
  split at e
  ·rename_i hl
   cases e
   refine .inr ⟨i,zcj h,?_,rfl⟩
   rcases qA5 i.natAbs with h0|hp
   ·rw[h0];decide
   ·have:i.natAbs.log2<400:=(Nat.log2_lt (by omega)).mpr (qH hl (by decide +kernel))
    omega
  ·cases e
 | _=>cases e
theorem zxg{js:List (Str ⊕ TE)}{fs:List (Str ⊕ EF)}(h:SJ js fs):SE (tJn js Str.empty) (eFs fs):=by
 have main:∀{js:List (Str ⊕ TE)}{fs:List (Str ⊕ EF)},SJ js fs->∀(acc:Str)(fx:Addr->Prop)(H0:Hp)(env:DEnv)(σ:St)(H:Hp),EnvOk fx H0 env σ H->∀y,jnD fs acc env=some y->∀Q:VK,(∀H',Same H H'->Q (.str y) H')->tJn js acc σ H Q:=by
  intro js fs h
  induction h with
  | nil=>
   intro acc fx H0 env σ H hh y e Q q
   unfold jnD at e
   split at e
   ·rename_i hl;cases e;exact⟨hl,q H (Same.refl _)⟩
   ·cases e
  | c _ ih=>
   intro acc fx H0 env σ H hh y e Q q
   unfold jnD at e
   split at e
   ·rename_i hl;exact⟨hl,ih _ fx H0 env σ H hh y e Q q⟩
   ·cases e
  | e he _ ih=>
   intro acc fx H0 env σ H hh y e Q q
   unfold jnD at e
   obtain⟨r,er,e⟩:=qA.mp e
   obtain⟨z,ez,e⟩:=qA.mp e
   split at e
   ·rename_i hl
    exact he fx H0 env σ H hh r er _ λv H1 s1 hv=>⟨z,zakz hv.rp ez,hl,ih _ fx H0 env σ H1 (hh.up s1) y e Q λH' s=>q H' (s1.trans s)⟩
   ·cases e
 intro fx H0 env σ H hh r e Q q
 obtain⟨y,ey,e⟩:=qE.mp e
 cases e
 exact main h Str.empty fx H0 env σ H hh y ey Q λH' s=>q _ H' s ⟨zal,λz=>by cases z⟩
noncomputable def zaft(te:TE):TE:=λσ H Q=>te σ H λx H1=>∃n:Nat,x=.int (n:Int)/\n<=100000/\∀l,H1 l=none->Q (.ref l) (upd H1 l (.lst ((List.range n).map λ(k:Nat)=>.int (k:Int))))
theorem zafu:bootBuiltins "list"=some (.type "list"):=by decide +kernel
theorem zxh:∀{n:Nat}{acc:Array Value},ItemsOf (λi v=>∃t,v=.int (0+(i:Int) * 1) t) acc n->Vals ((List.range n).map λ(k:Nat)=>V.int (k:Int)) acc.toList:=λ{n acc} h=>by
 have go:∀(m lo:Nat)(l:List Value),l.length=m->(∀j v,l[j]?=some v->∃t,v=Value.int ((lo+j:Nat):Int) t)->Vals ((List.range' lo m).map λ(k:Nat)=>V.int (k:Int)) l:=by
  intro m
  induction m with
  | zero=>intro lo l hl _;rw[qAV.mp hl];exact .nil
  | succ m ih=>
   intro lo l hl hv
   cases l with
   | nil=>cases hl
   | cons v l=>
    obtain⟨t,e⟩:=hv 0 v rfl
    rw[List.range'_succ,qm]
    refine .cons ⟨t,by rw[e];rfl⟩ (ih (lo+1) l (Nat.succ.inj hl) λj u hj=>?_)
    obtain⟨t,e⟩:=hv (j+1) u hj
    exact⟨t,by rw[e];congr 1;omega⟩
 rw[List.range_eq_range']
 refine go n 0 acc.toList (by rw[qAb];exact h.1) λj v hj=>?_
 obtain⟨t,e⟩:=h.2 j v (by rw[<- qBX];exact hj)
 exact⟨t,by rw[e];congr 1;omega⟩
theorem zafv{X:Cx}{e:Expr}{te:TE}{p1 p2 pos1 pos2:Pos}(hc:X.calm=true)(hgl:Gl X "list")(hml:X.mg "list"=none)(hgs:Gl X "range")(hms:X.mg "range"=none)(he:PE X e te)
  (hs:starEach [e] X.env=(false,eval e X.env)::starEach [] X.env:=by rfl) :
  PE X (.Call (.Name "list" p1) [.Call (.Name "range" p2) [e] [] pos2] [] pos1) (zaft te):=by
 intro pins s σ H Q I h
 refine qAY (zpr I hgl hml zafu ?_ (by decide) (by decide))
 refine callWith_type1 ?_ rfl rfl
 show wpAny _ _ (spliced ((false,eval (.Call (.Name "range" p2) [e] [] pos2) X.env)::[])) _ _ s
 refine qA1 ?_
 refine qAY (zpr I hgs hms boot_range ?_ (by decide) (by decide))
 refine callWith_type1 ?_ hs rfl
 rw[hs]
 show wpAny _ _ (spliced ((false,eval e X.env)::[])) _ _ s
 refine qA1 (thn (he pins s σ H _ I h) λu s1 z=>?_)
 obtain⟨x,H1,I1,r1,n,rfl,hn,q⟩:=z
 obtain⟨t,rfl⟩:=r1
 refine qA6 ?_
 refine call_range_1 ?_
 refine qA6 ?_
 have I2:Inv X pins σ H1 {s1 with heap:=s1.heap.push {cls:=.type "range",data:=.fields #[.int 0 s1.toks,.int (n:Int) t,.int 1 (s1.toks+1)]},toks:=s1.toks+1+1}:=I1.kept λb o e=>qg _ e
 refine call_list_range (n:=n) (I2.ok.hd hc) (IsRange.new ..) (small_one (by decide) (by decide) (by omega) (by omega)) (by rw[rangeSize_one];split<;>omega) (by omega) λh' tk acc' c' kp e it=>?_
 refine⟨.ref _,_,I2.laid (t':=tk) kp (qI _) (show zhj X.prog X.w _ h' _ (.lst ((List.range n).map λ(k:Nat)=>.int (k:Int)))from⟨?_,acc'.toList,c',zxh it,?_⟩),rfl,q _ (I2.hok.fresh (qI _))⟩
 ·rw[qC,qX,qAi];omega
 ·rw[e]
theorem zacm{X:Cx}{e:Expr}{te:TE}{p1 p2 pos1 pos2:Pos}(hc:X.calm=true)(hgl:Gl X "list")(hml:X.mg "list"=none)(hgs:Gl X "range")(hms:X.mg "range"=none)(he:Bx (PE X e te))
  (hs:starEach [e] X.env=(false,eval e X.env)::starEach [] X.env) :
  Bx (PE X (.Call (.Name "list" p1) [.Call (.Name "range" p2) [e] [] pos2] [] pos1) (zaft te)):=⟨zafv hc hgl hml hgs hms he.out hs⟩
noncomputable def zzw(f:EF):EF:=λenv=>(f env).bind λr=>match r.d with
 | .int j=>if 0<=j/\j<=100000 then some ⟨.list ((List.range j.toNat).map λ(k:Nat)=>.int (k:Int)),true,[]⟩else none
 | _=>none
theorem znn{H:Hp}:∀(l:List Nat),Rps H (l.map λ(k:Nat)=>.int (k:Int)) (l.map λ(k:Nat)=>V.int (k:Int))
 | []=>zca
 | a::l=>zby zaa (znn l)
theorem zafw{te:TE}{f:EF}(h:SE te f):SE (zaft te) (zzw f):=by
 intro fx H0 env σ H hE rr hr Q q
 unfold zzw at hr
 obtain⟨⟨d,fr,bs⟩,er,hr⟩:=qA.mp hr
 cases d with
 | int j=>
  have hr:(if 0<=j/\j<=100000 then some (⟨.list ((List.range j.toNat).map λ(k:Nat)=>.int (k:Int)),true,[]⟩:Val)else none)=some rr:=hr
  split at hr
  ·rename_i hj
   cases hr
   refine h fx H0 env σ H hE _ er _ λv H1 s1 hv=>?_
   cases zcj hv.rp
   refine⟨j.toNat,by congr 1;omega,by omega,λl hl=>?_⟩
   have hA:=(hE.up s1).lims []
   exact q _ _ (s1.trans (Same.new hl)) ⟨zmu hl (zfg hA hl) (znn _),λ_=>⟨l,rfl,s1.free hl,zjz hl (znn (H:=Offs (lim fx env σ []) H1) _)⟩⟩
  ·cases hr
 | _=>cases hr
section
variable{T:Type}{k:Kind T}{f:Nat}
noncomputable def zno(i j:Nat)(g:EFr T):SFr T:=λenv st=>match env[i]?,env[j]? with
 | some (.ac (.list ds)),some (.ac (.list es))=>(g env st).bind λr=>match r.1.d with
  | .int n=>if 0<=n/\n<100000/\ds.length<100000/\i≠j then(es[n.toNat]?).bind λd=>some (.nx ((env.set j (.ac (.list (es.eraseIdx n.toNat)))).set i (.ac (.list (ds++[d])))) r.2)else none
  | _=>none
 | _,_=>none
theorem zxi{K:qD}{i j:Nat}{te:TE}{g:EFr T}(h1:SEr k f te g):SSr k f (tDrop (tBM K "list" zld (tVar i) (tCons (tBM K "list" zadf (tVar j) (tCons te tNil)) tNil))) (zno i j g):=by
 intro fx H0 env σ H v R st D hh o e q
 unfold zno at e
 split at e
 ·rename_i ds es ei ej
  obtain⟨⟨⟨rd,rfr,rbs⟩,s1⟩,er,e⟩:=qA.mp e
  cases rd with
  | int n=>
   have e:(if 0<=n/\n<100000/\ds.length<100000/\i≠j then(es[n.toNat]?).bind λd=>some (OutR.nx ((env.set j (.ac (.list (es.eraseIdx n.toNat)))).set i (.ac (.list (ds++[d])))) s1)else none)=some o:=e
   split at e
   ·rename_i hl
    obtain⟨d,ed,e⟩:=qA.mp e
    cases e
    have hif:i≠f:=λz=>by rw[z,hh.no]at ei;cases ei
    have hjf:j≠f:=λz=>by rw[z,hh.no]at ej;cases ej
    obtain⟨a,g1,g2,g3,g4⟩:=hh.ok.ac i _ ei
    obtain⟨xs0,hx0,rx0⟩:=g4
    obtain⟨b,k1,k2,k3,k4⟩:=hh.ok.ac j _ ej
    obtain⟨ys0,hy0,ry0⟩:=k4
    have hab:a≠b:=λz=>hl.2.2.2 (hh.ok.inj i j _ _ a ei ej g1 (by rw[z];exact k1))
    refine⟨_,g1,.inl ⟨rfl,_,SqL.of hx0⟩,_,k1,.inl ⟨rfl,_,SqL.of hy0⟩,h1 fx H0 env σ H v R st hh _ s1 er _ λw H' m h' hv=>?_⟩
    cases zcj hv.rp
    obtain⟨b',y1,_,_,ys,hy',ry'⟩:=h'.ok.ac j _ ej
    rw[k1]at y1
    cases y1
    obtain⟨a',y1,_,_,xs,hx',rx'⟩:=h'.ok.ac i _ ei
    rw[g1]at y1
    cases y1
    obtain⟨u,hu,ru⟩:=ry'.get2 ed
    have hlt:n.toNat<ys.length:=(qb.mp hu).1
    have hsq:seqIndex? n ys.length=some n.toNat:=qBU hl.1 (by omega)
    refine⟨b,ys,n,n.toNat,u,rfl,rfl,hy',by omega,by omega,hsq,hu,?_⟩
    have h2:=h'.ok.mut ej k1 (d':=.list (es.eraseIdx n.toNat)) (o:=.lst (ys.eraseIdx n.toNat)) ⟨_,zbk,ry'.erase _⟩
    have ei2:(env.set j (.ac (.list (es.eraseIdx n.toNat))))[i]?=some (.ac (.list ds)):=by rw[qG (qA2 hl.2.2.2)];exact ei
    have hx2:(upd H' b (.lst (ys.eraseIdx n.toNat))) a=some (.lst xs):=by rw[zbs hab];exact hx'
    obtain⟨a',z1,_,_,z4⟩:=h2.ac i _ ei2
    rw[g1]at z1
    cases z1
    obtain⟨zs,y1,y2⟩:=z4
    rw[hx2]at y1
    cases y1
    have ow:Same (Offs (λb=>fx b\/own env σ b) H') (Offs (λc=>fx c\/own (env.set j (.ac (.list (es.eraseIdx n.toNat)))) σ c) (upd H' b (.lst (ys.eraseIdx n.toNat)))):=by
     have t:Same (Offs (λb=>fx b\/own env σ b) (upd H' b (.lst (ys.eraseIdx n.toNat)))) (Offs (λc=>fx c\/own (env.set j (.ac (.list (es.eraseIdx n.toNat)))) σ c) (upd H' b (.lst (ys.eraseIdx n.toNat)))):=Offs.sub λc z=>z.imp (λy=>y) λ⟨m,d1,w1,w2⟩=>by
      rcases zcv w1 with⟨rfl,_⟩|⟨_,w1⟩
      ·exact⟨m,_,ej,w2⟩
      ·exact⟨m,d1,w1,w2⟩
     rw[Offs.upd (.inr ⟨j,_,ej,k1⟩)]at t
     exact t
    refine⟨a,xs,u,rfl,rfl,hx2,zjy (by rw[<- rx'.length];exact hl.2.2.1),?_⟩
    refine q σ _ ⟨h2.mut ei2 g1 ⟨_,zbk,y2.append (zby (Rp.same ow _ ru) zca)⟩,?_,hh.sl,k.stay h'.th λc o hb eb=>?_,hh.off,hh.low⟩
    ·rw[qG hif,qG hjf];exact hh.no
    ·rw[zbs λz=>g3 (by rw[<- z];exact hh.off c hb),zbs λz=>k3 (by rw[<- z];exact hh.off c hb)];exact eb
   ·cases e
  | _=>cases e
 ·cases e
end
end L2
namespace PySem
open Sem (wp)
open Builtin Builtin.ObjectAttr
end PySem
namespace L2
open PySem PySem.Spec PyProof.Rows
end L2
namespace PySem
open Sem (wp)
open Builtin Builtin.ObjectAttr
end PySem
namespace L2
open PySem PySem.Spec PyProof.Rows
section
variable{T:Type}{k:Kind T}{f:Nat}
noncomputable def zxj(a b:EFr T):EFr T:=λenv st=>(a env st).bind λx=>(asB x.1.d).bind λc=>if c=true then b env x.2 else some (⟨.bool false,false,[]⟩,x.2)
theorem zzx{ta tb:TE}{fa fb:EFr T}(ha:SEr k f ta fa)(hb:SEr k f tb fb):SEr k f (tAndV ta tb) (zxj fa fb):=by
 intro fx H0 env σ H v R st hh rr st' hr Q q
 unfold zxj at hr
 obtain⟨⟨x,s1⟩,ex,hr⟩:=qA.mp hr
 obtain⟨c,ec,hr⟩:=qA.mp hr
 refine ha fx H0 env σ H v R st hh x s1 ex _ λu H1 m1 k1 v1=>⟨c,as_b v1.rp ec,?_⟩
 cases c with
 | true=>exact iteT (hb fx H0 env σ H1 v R s1 k1 _ _ hr _ λu2 H2 m2 k2 v2=>q u2 H2 (m1.trans m2) k2 ⟨v2.rp,λe=>let⟨a,g1,g2,g3⟩:=v2.fr e;⟨a,g1,m1.free g2,g3⟩⟩)
 | false=>cases hr;exact iteF (q _ H1 m1 k1 ⟨zcg,λz=>by cases z⟩)
noncomputable def rAsg(g:EFr T)(gt:GT):SFr T:=λenv st=>(g env st).bind λx=>(gt x.1.d (frzs env x.1.bs)).map λe2=>.nx e2 x.2
theorem zzy{te:TE}{g:EFr T}{tg:TG}{gt:GT}(h1:SEr k f te g)(h2:SGk (λj=>j=f) tg gt)(h2n:GTno f gt):SSr k f (tAsg te tg) (rAsg g gt):=by
 intro fx H0 env σ H v R st D hh o e q
 unfold rAsg at e
 obtain⟨⟨r,s1⟩,er,e⟩:=qA.mp e
 obtain⟨env',e',rfl⟩:=qE.mp e
 refine h1 fx H0 env σ H v R st hh r s1 er _ λw H' m k1 hv=>?_
 have hE:Has k f fx H0 (frzs env r.bs) σ H' v R s1:=⟨k1.ok.frzs r.bs,zli _ k1.no,k1.sl,k1.th,k1.off,k1.low⟩
 exact h2 fx H0 _ σ H' r.d w hE.ok (Rp.same (Offs.sub zgo) _ hv.rp) env' e' _ λσ' h' kj=>q σ' H' ⟨h',h2n _ _ _ e' hE.no,(kj f rfl).trans hE.sl,hE.th,hE.off,hE.low⟩
end
theorem EnvOk.kill{fx:Addr->Prop}{H0:Hp}{env:DEnv}{σ:St}{H:Hp}(h:EnvOk fx H0 env σ H)(x:Nat)(w:Option V):EnvOk fx H0 (env.set x .no) (σ.set x w) H:=by
 have get:∀{i:Nat}{s:Sl},(env.set x .no)[i]?=some s->s≠.no->i≠x/\env[i]?=some s:=λ{i s} e ns=>by
  rcases zcv e with⟨_,z⟩|⟨ne,e⟩
  ·exact absurd z ns
  ·exact⟨ne,e⟩
 have kept:∀{i:Nat},i≠x->(σ.set x w)[i]?=σ[i]?:=λ{i} ne=>qG (qA2 ne)
 have ow:∀b,own (env.set x .no) (σ.set x w) b->own env σ b:=λb ⟨i,d,h1,h2⟩=>by
  obtain⟨ne,e⟩:=get h1 (by simp)
  rw[kept ne]at h2
  exact⟨i,d,e,h2⟩
 have so:Same (Offs (λa=>fx a\/own env σ a) H) (Offs (λa=>fx a\/own (env.set x .no) (σ.set x w) a) H):=Offs.sub λb z=>z.imp id (ow b)
 refine⟨by rw[qe,qe];exact h.len,λi d e=>?_,λi d e=>?_,λi j d e a h1 h2 h3 h4=>?_,h.base,h.fxs⟩
 ·obtain⟨ne,e⟩:=get e (by simp)
  obtain⟨v,h1,h2⟩:=h.pl i d e
  exact⟨v,by rw[kept ne];exact h1,Rp.same so d h2⟩
 ·obtain⟨ne,e⟩:=get e (by simp)
  obtain⟨a,h1,h2,h3,h4⟩:=h.ac i d e
  exact⟨a,by rw[kept ne];exact h1,h2,h3,h4.same so λ_ z=>z⟩
 ·obtain⟨n1,h1⟩:=get h1 (by simp)
  obtain⟨n2,h2⟩:=get h2 (by simp)
  rw[kept n1]at h3
  rw[kept n2]at h4
  exact h.inj i j d e a h1 h2 h3 h4
section
variable{T:Type}{k:Kind T}{f:Nat}
theorem zaiw{K:qD}{fx:Addr->Prop}{H0:Hp}{env:DEnv}{σ:St}{H:Hp}{v:V}{R:Addr->Prop}{st s1:T}{D:Ends}{z:Nat}{ds:List PyData}{d:PyData}{te:TE}(hh:Has k f fx H0 env σ H v R st)(ei:env[z]?=some (.ac (.list ds)))(hl:ds.length<100000)
  (h1:∀Q:VK,(∀w H',MvR R H H'->Has k f fx H0 env σ H' v R s1->ValOk (lim fx env σ []) H H' ⟨d,false,[]⟩ w->Q w H')->te σ H Q) (q:∀σ' H',Has k f fx H0 (env.set z (.ac (.list (ds++[d])))) σ' H' v R s1->D.nx σ' H') :
  tDrop (tBM K "list" zld (tVar z) (tCons te tNil)) D σ H:=by
 have hif:z≠f:=λy=>by rw[y,hh.no]at ei;cases ei
 obtain⟨a,g1,g2,g3,g4⟩:=hh.ok.ac z _ ei
 obtain⟨xs0,hx0,_⟩:=g4
 refine⟨_,g1,.inl ⟨rfl,_,SqL.of hx0⟩,h1 _ λw H' m k1 hv=>?_⟩
 obtain⟨a',z1,_,z3,z4⟩:=k1.ok.ac z _ ei
 rw[g1]at z1
 cases z1
 obtain⟨xs,hx',rx'⟩:=z4
 refine⟨a,xs,w,rfl,rfl,hx',zjy (by rw[<- rx'.length];exact hl),?_⟩
 refine q σ _ ⟨k1.ok.mut ei g1 ⟨_,zbk,rx'.append (zby (Rp.same (Offs.sub λb y=>zyp b y) _ hv.rp) zca)⟩,?_,hh.sl,k.stay k1.th λb o hb eb=>?_,hh.off,hh.low⟩
 ·rw[qG hif];exact hh.no
 ·rw[zbs λy=>g3 (by rw[<- y];exact hh.off b hb)];exact eb
noncomputable def zxk(x y z a:Nat)(e1:EF)(e2:EFr T)(g:GR T)(F4:SFr T):SFr T:=λenv st=>(e1 env).bind λr1=>(e2 (env.set x .no) st).bind λx2=>
 match(putV (env.set x .no) y x2.1)[a]?,(putV (env.set x .no) y x2.1)[z]? with
 | some (.pl da),some (.ac (.list ds))=>(g [r1.d,x2.1.d] x2.2).bind λx3=>match x3.1 with
  | .list d3=>if zfb da=true/\zfb x2.1.d=true/\zda d3=true/\x3.2.1=true/\ds.length<100000/\x<env.length/\y<env.length then F4 ((putV (env.set x .no) y x2.1).set z (.ac (.list (ds++[.tuple [da,.list d3]])))) x3.2.2 else none
  | _=>none
 | _,_=>none
theorem zacn{K:qD}{x y z a:Nat}{te1 te2:TE}{e1:EF}{e2:EFr T}{g:GR T}{t4:TS}{F4:SFr T}(h1:SE te1 e1)(h2:SEr k f te2 e2)(h4:SSr k f t4 F4)(hx:x≠f)(hy:y≠f)(hxy:x≠y)(hax:a≠x)(hay:a≠y) :
  SSr k f (tSeq (tAsg te1 (gName x)) (tSeq (tAsg te2 (gName y)) (tSeq (tDrop (tBM K "list" zld (tVar z) (tCons (tTup (tCons (tVar a) (tCons (tCall (spR k 3 g) [] E0 (tCons (tVar f) (tCons (tVar x) (tCons (tVar y) tNil)))) tNil))) tNil))) t4))) (zxk x y z a e1 e2 g F4):=by
 intro fx H0 env σ H v R st D hh o e q
 unfold zxk at e
 obtain⟨r1,er1,e⟩:=qA.mp e
 obtain⟨⟨r2,s2⟩,er2,e⟩:=qA.mp e
 dsimp only at e
 split at e
 ·rename_i da ds eda eds
  obtain⟨⟨d3,fr3,s3⟩,eg,e⟩:=qA.mp e
  dsimp only at e
  split at e
  ·rename_i l3
   split at e
   ·rename_i hc
    obtain⟨fa,f2,f3,hfr,hl,lx,ly⟩:=hc
    refine h1 fx H0 env σ H hh.ok r1 er1 _ λv1 H1 s1 hv1=>?_
    have k1:Has k f fx H0 (env.set x .no) (σ.set x (some v1)) H1 v R st:=⟨(hh.ok.up s1).kill x (some v1),by rw[qG hx];exact hh.no,by rw[qG hx];exact hh.sl,k.stay hh.th λb o _ e=>s1 b o e,hh.off,hh.low⟩
    refine h2 fx H0 _ _ H1 v R st k1 r2 s2 er2 _ λw2 H2 m2 k2 hv2=>?_
    have k3:=k1.put m2 k2 hv2 hy
    have sx:((σ.set x (some v1)).set y (some w2))[x]?=some (some v1):=by
     rw[qG hxy.symm,qt]
     rw[<- hh.ok.len];exact lx
    have sy:((σ.set x (some v1)).set y (some w2))[y]?=some (some w2):=by
     rw[qt]
     rw[qe,<- hh.ok.len];exact ly
    refine zaiw (s1:=s3) (d:=.tuple [da,.list l3]) k3 eds hl (λQ hQ=>?_) λσ' H' h'=>h4 fx H0 _ σ' H' v R s3 D h' o e q
    obtain⟨va,sa,ra⟩:=k3.ok.pl a da eda
    refine⟨va,sa,v,k3.sl,v1,sx,w2,sy,?_⟩
    show spR k 3 g [v,v1,w2] H2 _ E0
    have rv1:Rp (Offs fx H2) r1.d v1:=by
     have:=Rp.same (Offs.sub (B:=fx) λb z=>.inl z) _ hv1.rp
     exact Rp.same (m2.offs hh.off) _ this
    have rv2:Rp (Offs fx H2) r2.d w2:=zqx f2 hv2.rp
    refine⟨fx,v,[v1,w2],[r1.d,r2.d],R,s2,.list l3,fr3,s3,rfl,rfl,k3.ok.fxs,hh.off,k3.th,zby rv1 (zby rv2 zca),eg,λw3 H3 m3 t3 rt=>?_⟩
    obtain⟨_,rt2⟩:=rt
    obtain⟨a3,rfl,hn3,xs3,hx3,rx3⟩:=rt2 hfr
    have k4:=k3.mv m3 t3
    refine⟨by show 2<=_;exact zeq (by decide),λp hp=>?_⟩
    have k5:=k4.up (Same.new (o:=.tup [va,.ref a3]) hp)
    refine hQ _ _ (m3.trans (MvR.same (Same.new hp))) k5 ⟨zmv hp (zfg (k4.ok.lims []) hp) (zby (zqx fa ra) (zby (zgr ?_ (zhb f3 rx3)) zca)),λz=>by cases z⟩
    rw[Offs.get ?_]
    ·exact hx3
    ·intro z
     obtain⟨o',eo'⟩:=k3.ok.lims [] a3 z
     rw[hn3]at eo';cases eo'
   ·cases e
  ·cases e
 ·cases e
end
end L2
namespace Bc
open PySem L2
theorem zlr{α:Type}{enc out:α->PyData}{g:GT}{t:TF}{e:EF}{env:DEnv}(p:α->Bool):∀{l:List α},(∀x∈l,∃e1,g (enc x) env=some e1/\t e1=some (p x)/\(p x=true->∃r,e e1=some r/\r.d=out x))->
  zgp g t e env (l.map enc)=some ((l.filter p).map out)
 | [],_=>rfl
 | x::l,h=>by
  obtain⟨e1,h1,h2,h3⟩:=h x qAE
  have ih:=zlr (l:=l) p λy hy=>h y (qL _ hy)
  rw[qm]
  unfold zgp
  rw[h1,qQ,h2,qQ]
  cases hp:p x with
  | false=>
   rw[if_neg qK,ih,List.filter_cons,hp];rfl
  | true=>
   obtain⟨r,h4,h5⟩:=h3 hp
   rw[if_pos rfl,h4,qQ,ih,List.filter_cons,hp]
   simp[h5]
theorem ziz{α:Type}{enc out:α->PyData}{g:GT}{t:TF}{e:EF}{env:DEnv}{l:List α}(h:∀x∈l,∃e1,g (enc x) env=some e1/\t e1=some true/\∃r,e e1=some r/\r.d=out x):zgp g t e env (l.map enc)=some (l.map out):=by
 have q:=zlr (enc:=enc) (out:=out) (g:=g) (t:=t) (e:=e) (env:=env) (λ_=>true) (l:=l) λx hx=>let⟨e1,h1,h2,h3⟩:=h x hx;⟨e1,h1,h2,λ_=>h3⟩
 rw[q]
 congr 2
 exact List.filter_eq_self.mpr λ_ _=>rfl
theorem zwd{α:Type}{enc:α->PyData}{g:GT}{body:SF}(I:List α->DEnv->Prop)(all:List α):∀(l pre:List α)(env:DEnv),pre++l=all->I pre env->
  (∀pre x post env,pre++x::post=all->I pre env->∃e1 e2,g (enc x) env=some e1/\(body e1=some (.nx e2)\/body e1=some (.ct e2))/\I (pre++[x]) e2)->∃env',forL g body (l.map enc) env=some (.nx env')/\I all env'
 | [],pre,env,hall,h0,hs=>by
  rw[q9]at hall
  subst hall
  exact⟨env,rfl,h0⟩
 | x::l,pre,env,hall,h0,hs=>by
  obtain⟨e1,e2,h1,h2,h3⟩:=hs pre x l env hall h0
  obtain⟨env',h4,h5⟩:=zwd I all l (pre++[x]) e2 (by rw[<- hall];simp) h3 hs
  refine⟨env',?_,h5⟩
  rw[qm]
  unfold forL
  rw[h1,qQ]
  rcases h2 with h2|h2<;>rw[h2,qQ]<;>exact h4
theorem zkr{α:Type}{enc:α->PyData}{g:GT}{body:SF}{l:List α}{env:DEnv}(I:List α->DEnv->Prop)(h0:I [] env)(hs:∀pre x post env,pre++x::post=l->I pre env->∃e1 e2,g (enc x) env=some e1/\(body e1=some (.nx e2)\/body e1=some (.ct e2))/\I (pre++[x]) e2) :
  ∃env',forL g body (l.map enc) env=some (.nx env')/\I l env':=zwd I l l [] env rfl h0 hs
theorem zck{f g:SF}{env e1:DEnv}{o:Option Out}(h:f env=some (.nx e1))(k:g e1=o):sSeq f g env=o:=by unfold sSeq;rw[h];exact k
theorem znp{f g:SF}{env:DEnv}{d:PyData}{fr:Bool}(h:f env=some (.rt d fr)):sSeq f g env=some (.rt d fr):=by unfold sSeq;rw[h];rfl
theorem zwe{f:IF'}{g:GT}{b:SF}{env:DEnv}{ds:List PyData}{bs:List Nat}{o:Option Out}(h:f env=some (ds,bs))(k:forL g b ds (frzs env bs)=o):sFor f g b env=o:=by
 unfold sFor;rw[h];exact k
theorem if_t{c:TF}{f g:SF}{env:DEnv}{o:Option Out}(h:c env=some true)(k:f env=o):sIf c f g env=o:=by unfold sIf;rw[h];exact k
theorem if_f{c:TF}{f g:SF}{env:DEnv}{o:Option Out}(h:c env=some false)(k:g env=o):sIf c f g env=o:=by unfold sIf;rw[h];exact k
theorem znq{i:Nat}{f:EF}{env:DEnv}{r:Val}(h:f env=some r):sSet i f env=some (.nx (putV env i r)):=by unfold sSet;rw[h];rfl
theorem zge{f:EF}{env:DEnv}{d:PyData}{fr:Bool}{bs:List Nat}(h:f env=some ⟨d,fr,bs⟩):sRet f env=some (.rt d fr):=by unfold sRet;rw[h];rfl
theorem zhe{n:Nat}{g:GF}{f:AF}{env:DEnv}{rs:List Val}{d:PyData}{fr:Bool}(h:f env=some rs)(hn:rs.length=n)(k:g (zdb rs)=some (d,fr)):zef n g f env=some ⟨d,fr,bsOf d (bss rs)⟩:=by
 unfold zef;rw[h,qQ,if_pos hn,k];rfl
theorem zri{own:List Str}{fr:List Nat}{fi:IF'}{g:GT}{t:TF}{e:EF}{env:DEnv}{ds:List PyData}{bs:List Nat}{rs:List PyData}(h:fi env=some (ds,bs))(hl:ds.length<100000)(k:zgp g t e (envB own fr env) ds=some rs) :
  zep own fr fi g t e env=some ⟨.list rs,true,if zda rs=true then[]else bs++capA fr env⟩:=by
 unfold zep;rw[h,qQ,if_pos hl,k];rfl
theorem zis{n:Nat}{f:SF}{ds:List PyData}{env:DEnv}{d:PyData}{fr:Bool}(h:zju n ds=env)(e:f env=some (.rt d fr)):fnD n f ds=some (d,fr):=by
 unfold fnD;rw[h,e]
noncomputable def zas(xs:List Str):PyData:=.list (xs.map .str)
theorem zxl(xs:List Str):zda (xs.map .str)=true:=by
 unfold zda
 rw[List.all_map]
 exact qAO.mpr λ_ _=>rfl
theorem zaco(xs:List Str)(x:Str):((xs.map PyData.str).any λe=>qAP e (.str x))=decide (x∈xs):=by
 rw[List.any_map,qAl,List.any_eq_true,decide_eq_true_iff]
 constructor
 ·rintro⟨y,hy,h⟩
  have:y=x:=by simpa [qAP]using h
  rw[<- this];exact hy
 ·exact λh=>⟨x,h,by simp[qAP]⟩
theorem zafx(b:Bool)(xs:List Str)(x:Str):inD b (.str x) (zas xs)=some (.bool (if b then !decide (x∈xs)else decide (x∈xs)),false):=by
 unfold inD zas
 simp only[zkl]
 rw[if_pos ⟨rfl,zxl xs⟩,zaco]
noncomputable def ltr(i:Int):Str:=⟨#[97+i.toNat]⟩
noncomputable def Low(x:Str):Prop:=∀c∈x.cps.toList,c<128
theorem zzz{x:Str}(h:Low x):PyData.strOk x=true:=by
 unfold PyData.strOk
 rw[<- Array.all_toList,qAO]
 intro c hc
 have:=h c hc
 exact decide_eq_true (by omega)
theorem zwf(a b:Str):(a++b).cps.toList=a.cps.toList++b.cps.toList:=by
 show(a.cps++b.cps).toList=_
 simp
noncomputable abbrev vi(i:Int):Val:=⟨.int i,false,[]⟩
noncomputable abbrev vs(x:Str):Val:=⟨.str x,false,[]⟩
noncomputable abbrev vb(b:Bool):Val:=⟨.bool b,false,[]⟩
section
variable{a b:EF}{env:DEnv}{i j:Int}
theorem znr(ha:a env=some (vi i))(hb:b env=some (vi j))(h:0<j):eOp modD a b env=some (vi (i % j)):=by
 unfold eOp;rw[ha,hb];simp[modD,intD,h,bsOf,zfb]
theorem zwg(ha:a env=some (vi i))(hb:b env=some (vi j))(h:0<j)(h2:j<1073741824):eOp zlx a b env=some (vi (i / j)):=by
 unfold eOp;rw[ha,hb];simp[zlx,intD,h,h2,bsOf,zfb]
theorem zuz(ha:a env=some (vi i))(hb:b env=some (vi j)):eOp addD a b env=some (vi (i+j)):=by
 unfold eOp;rw[ha,hb];simp[addD,bsOf,zfb]
theorem zala(ha:a env=some (vi i))(hb:b env=some (vi j)):eOp subD a b env=some (vi (i - j)):=by
 unfold eOp;rw[ha,hb];simp[subD,intD,bsOf,zfb]
theorem zva(ha:a env=some (vi i))(hb:b env=some (vi j))(h:(-(2 ^ 64)<i/\i<2 ^ 64)\/(-(2 ^ 64)<j/\j<2 ^ 64)):eOp mulD a b env=some (vi (i * j)):=by
 unfold eOp;rw[ha,hb]
 simp only[qQ,mulD]
 rw[if_pos h];simp[bsOf,zfb]
theorem zaix(ha:a env=some (vi i))(hb:b env=some (vi j)):eOp eqD a b env=some (vb (i==j)):=by
 unfold eOp;rw[ha,hb];rfl
theorem zdh{x y:Str}(ha:a env=some (vs x))(hb:b env=some (vs y))(h:x.length+y.length<=100000):eOp addD a b env=some (vs (x++y)):=by
 unfold eOp;rw[ha,hb]
 simp only[qQ,addD]
 rw[if_pos h];simp[bsOf,zfb]
theorem zaiy{x:Str}(ha:a env=some (vs x))(hb:b env=some (vi j))(h:x.length<=1000/\-1000<=j/\j<=1000):eOp mulD a b env=some (vs (Txt.mul x j)):=by
 unfold eOp;rw[ha,hb]
 simp only[qQ,mulD]
 rw[if_pos h];simp[bsOf,zfb]
theorem zks{c:Bool}(ha:a env=some (vb c)):zfh a env=some c:=by unfold zfh;rw[ha];rfl
theorem zgf{r:Val}(ha:a env=some r):zag a aNil env=some [r]:=by unfold zag aNil;rw[ha];rfl
theorem zsv{ds:List PyData}{fr:Bool}{bs:List Nat}(ha:a env=some ⟨.list ds,fr,bs⟩):eCB lenD (zag a aNil) env=some (vi ds.length):=by
 unfold eCB
 rw[zgf ha]
 simp[zdb,lenD,bsOf,zfb]
theorem zalb{k n:Nat}{b:EF}{ds:List PyData}{d:PyData}(he:env[k]?=some (.pl (.list ds)))(hb:b env=some (vi (n:Int)))(hd:ds[n]?=some d):eIxV k b env=some ⟨d,false,[]⟩:=by
 unfold eIxV
 rw[he]
 unfold eOp eVar
 rw[he,hb]
 simp only[qQ,ixD]
 rw[zmq hd]
 simp[bsOf]
theorem zalc{k n:Nat}{b:EF}{ds:List PyData}{d:PyData}(he:env[k]?=some (.ac (.list ds)))(hb:b env=some (vi (n:Int)))(hd:ds[n]?=some d):eIxV k b env=some ⟨d,false,[]⟩:=by
 unfold eIxV
 rw[he]
 simp only
 rw[hb]
 simp only[qQ]
 rw[zmq hd];rfl
end
noncomputable def abc:Str:="abcdefghijklmnopqrstuvwxyz"
theorem zafy:(List.range 26).all (λi=>abc.cps.toList[i]?==some (97+i))=true:=by decide +kernel
theorem zafz:abc.length=26:=by decide +kernel
theorem zaiz{i:Int}(h0:0<=i)(h1:i<26):atI abc.cps.toList i=some (97+i.toNat):=by
 have q:=qAO.mp zafy i.toNat (List.mem_range.mpr (by omega))
 have e:((i.toNat:Nat):Int)=i:=by omega
 rw[<- e]
 have z:=zmq (eq_of_beq q)
 rw[e]at z ⊢
 exact z
theorem zaja{k:Nat}{b:EF}{env:DEnv}{i:Int}(he:env[k]?=some (.pl (.str abc)))(hb:b env=some (vi i))(h0:0<=i)(h1:i<26):eIxV k b env=some (vs (ltr i)):=by
 unfold eIxV
 rw[he]
 unfold eOp eVar
 rw[he,hb]
 simp only[qQ,ixD]
 rw[if_pos (by rw[zafz];decide),zaiz h0 h1]
 simp[bsOf,zfb,ltr]
theorem zaaa{i:Nat}{f:EF}{env:DEnv}{ds:List PyData}{d:PyData}{fr:Bool}(he:env[i]?=some (.ac (.list ds)))(hf:f env=some ⟨d,fr,[]⟩)(hl:ds.length<100000):sApp i f env=some (.nx (env.set i (.ac (.list (ds++[d]))))):=by
 unfold sApp
 rw[he]
 simp only
 rw[hf]
 simp only[qQ]
 rw[if_pos ⟨hl,by simp⟩];rfl
theorem zhf(n:Nat):zna 0 n=(List.range n).map (λ(k:Nat)=>PyData.int (k:Int)):=by
 unfold zna
 refine qAx λk _=>?_
 show PyData.int (0+(k:Int))=_
 rw[Int.zero_add]
theorem zap(a b:Str):(a++b).length=a.length+b.length:=by
 have:=congrArg List.length (zwf a b)
 rw[qF]at this
 simpa [Str.length]using this
theorem zsw{α β:Type}(f:α->β):∀(l:List α)(i:Nat),(l.map f).eraseIdx i=(l.eraseIdx i).map f
 | [],_=>rfl
 | _::_,0=>rfl
 | a::l,i+1=>by
  show f a::(l.map f).eraseIdx i=f a::(l.eraseIdx i).map f
  rw[zsw f l i]
section
variable{a b:EF}{env:DEnv}{x y:Str}
theorem e_in{neg:Bool}{xs:List Str}{fr:Bool}{bs:List Nat}(ha:a env=some (vs x))(hb:b env=some ⟨zas xs,fr,bs⟩):eOp (inD neg) a b env=some (vb (if neg then !decide (x∈xs)else decide (x∈xs))):=by
 unfold eOp;rw[ha,hb];simp[zafx,bsOf,zfb]
end
theorem zns{α:Type}{enc:α->PyData}{out:α->List PyData}{g:GT}{t:TF}{f2:IF'}{g2:GT}{t2:TF}{e:EF}{env:DEnv}:∀{l:List α},(∀x∈l,∃e1,g (enc x) env=some e1/\t e1=some true/\innL f2 g2 t2 e e1=some (out x))->
  ziw g t f2 g2 t2 e env (l.map enc)=some (l.flatMap out)
 | [],_=>rfl
 | x::l,h=>by
  obtain⟨e1,h1,h2,h3⟩:=h x qAE
  have ih:=zns (l:=l) λy hy=>h y (qL _ hy)
  rw[qm]
  unfold ziw
  rw[h1,qQ,h2,qQ,if_pos rfl,h3,qQ,ih,List.flatMap_cons]
  rfl
theorem zacp{own:List Str}{fr:List Nat}{fi:IF'}{g:GT}{t:TF}{f2:IF'}{g2:GT}{t2:TF}{e:EF}{env:DEnv}{ds:List PyData}{bs:List Nat}{rs:List PyData}(h:fi env=some (ds,bs))(hl:ds.length<300)(k:ziw g t f2 g2 t2 e (envB own fr env) ds=some rs) :
  zpw own fr fi g t f2 g2 t2 e env=some ⟨.list rs,true,if zda rs=true then[]else bs++capA fr env⟩:=by
 unfold zpw;rw[h,qQ,if_pos hl,k];rfl
noncomputable def znt:SF:=(sSeq (sAsg (eVar 0) (gT 2 (zax 1 (zax 2 zeg))))
  (sSeq (sIf (zxb (tTru (eVar 2))) (sRet (eFs (.inl "kind "::(.inr (eVar 1)::[])))) sNil)
  (sRet (eOp addD (eFs (.inl "kind "::(.inr (eVar 1)::(.inl " < "::[])))) (zdg " " (eVar 2))))))
noncomputable def zhg:GF:=fnD 3 znt
noncomputable def znu:SF:=(sRet (eFs (.inl "deed "::(.inr (eVar 0)::(.inl " "::(.inr (eVar 1)::[]))))))
noncomputable def zfl:GF:=fnD 2 znu
noncomputable def znv:SF:=(sSeq (sIf (zfh (eOp eqD (eIxV 0 (eC (.int 0))) (eC (.str "own")))) (sRet (eCB znk (zag (eIxV 0 (eC (.int 1))) aNil))) sNil)
  (sRet (eFs (.inr (eIxV 0 (eC (.int 1)))::(.inl ":"::(.inr (eIxV 0 (eC (.int 2)))::[]))))))
noncomputable def zfm:GF:=fnD 1 znv
noncomputable def zls:SF:=(sSeq (sIf (zfh (eOp eqD (eIxV 0 (eC (.int 0))) (eC (.str "call")))) (sRet (zdg " " (eOp addD (eLst (zag (eC (.str "call")) (zag (eIxV 0 (eC (.int 1))) aNil))) (zep ["pick"] [] (zbg (eIxV 0 (eC (.int 2)))) (gN 0) zci (zef 1 zfm (zag (eVar 0) aNil)))))) sNil)
  (sRet (zdg " " (zep ["part"] [] (zbg (eVar 0)) (gN 0) zci (eCB znk (zag (eVar 0) aNil))))))
noncomputable def zgg:GF:=fnD 1 zls
noncomputable def znw:SF:=(sSeq (sAsg (eVar 1) (gT 3 (zax 2 (zax 3 (zax 4 zeg)))))
  (sSeq (sSet 5 (zdg " " (eOp addD (eLst (zag (eC (.str "rule")) (zag (eVar 0) (zag (eVar 2) aNil)))) (eCB znm (zag (eVar 3) aNil)))))
  (sSeq (sIf (zxb (tTru (eVar 4))) (zkc 5) sNil)
  (sRet (eOp addD (eFs (.inr (eVar 5)::(.inl " = "::[]))) (zdg ", " (zep ["step"] [] (zbg (eVar 4)) (gN 0) zci (zef 1 zgg (zag (eVar 0) aNil)))))))))
noncomputable def zej:GF:=fnD 6 znw
noncomputable def zaab:SF:=(sSeq (sAsg (eVar 0) (gT 2 (zax 1 (zax 2 zeg))))
  (sSeq (sSet 3 (zep ["kind"] [] (zbg (eVar 1)) (gN 0) zci (zef 1 zhg (zag (eVar 0) aNil))))
  (sSeq (sExt 3 (zep ["name","places","rules"] [] (zbg (eVar 2)) (gT 3 (zax 0 (zax 1 (zax 2 zeg)))) zci (zef 2 zfl (zag (eVar 0) (zag (eVar 1) aNil)))))
  (sSeq (sExt 3 (zpw ["name","places","rules","rule"] [] (zbg (eVar 2)) (gT 3 (zax 0 (zax 1 (zax 2 zeg)))) zci (zbg (eVar 2)) (gN 3) zci (zef 2 zej (zag (eVar 0) (zag (eVar 3) aNil)))))
  (sRet (zdg "" (zep ["line"] [] (zbg (eVar 3)) (gN 0) zci (eFs (.inr (eVar 0)::(.inl "\n"::[]))))))))))
noncomputable def zii:GF:=fnD 4 zaab
noncomputable def zjv:SFr Pen3:=(rSeq (rIf (qB (rOp gtD (zxe 2) (zak (eC (.int 0))))) (rSeq (rSet 2 (rOp modD (zxe 2) (zak (eVar 1))))
  (rSeq (zsr 2 (rOp zlx (zxe 2) (zak (eVar 1))))
  (rS 0 (zkc 2)))) rNx)
  (rSeq (rSet 3 (zxe 1))
  (rSeq (zsr 1 (zak (eOp addD (eVar 3) (eC (.int 1)))))
  (rSeq (rSet 4 (zak (eC (.int 37))))
  (rSeq (rIf (qB (rOp gtD zss (zak (eC (.int 0))))) (rSet 4 (rIx3 (eVar 3))) rNx)
  (rSeq (rIf (qAnd (qB (rOp ltD (zak (eVar 3)) zss)) (zir (zfh (eOp geD (eCB absD (zag (eVar 4) aNil)) (eOp powB (eC (.int 10)) (eC (.int 18))))))) (rSeq (zsr 2 (zak (eOp zlx (eCB absD (zag (eVar 4) aNil)) (eVar 1))))
  (rRet (zak (eOp modD (eCB absD (zag (eVar 4) aNil)) (eVar 1))))) rNx)
  (rSeq (rSet 5 (zak (eOp ixD (eLst (zag (eC (.int 2147483647)) (zag (eC (.int 2147483629)) (zag (eC (.int 2147483587)) (zag (eC (.int 2147483579)) (zag (eC (.int 2147483563)) (zag (eC (.int 2147483549)) (zag (eC (.int 2147483543)) aNil)))))))) (eOp modD (eVar 3) (eC (.int 7))))))
  (rSeq (rSet 6 (zak (eOp ixD (eLst (zag (eC (.int 2147483497)) (zag (eC (.int 2147483489)) (zag (eC (.int 2147483477)) (zag (eC (.int 2147483423)) (zag (eC (.int 2147483399)) aNil)))))) (eOp modD (eVar 3) (eC (.int 5))))))
  (rSeq (rSet 7 (zak (eOp modD (eOp powB (eOp addD (eOp modD (eVar 4) (eVar 5)) (eOp mulD (eOp mulD (eOp addD (eVar 3) (eC (.int 3))) (eOp addD (eVar 3) (eC (.int 3)))) (eC (.int 40503)))) (eC (.int 5))) (eVar 5))))
  (rSeq (rSet 7 (zak (eOp modD (eOp powB (eOp addD (eOp mulD (eVar 7) (eOp addD (eOp mulD (eC (.int 2)) (eVar 3)) (eC (.int 48271)))) (eVar 3)) (eC (.int 3))) (eVar 6))))
  (rRet (zak (eOp modD (eOp zlx (eVar 7) (eC (.int 32))) (eVar 1))))))))))))))
noncomputable def zai:GR Pen3:=fnR 8 zjv
noncomputable def zqb:SFr Pen3:=(rSeq (rSet 2 (zak (eC (.str "abcdefghijklmnopqrstuvwxyz"))))
  (rSeq (rSet 3 (zbd 2 zai (zaz (zak (eC (.int 3))) rNil)))
  (rSeq (rSet 4 (rOp addD (zak (eC (.int 1))) (zbd 2 zai (zaz (zak (eC (.int 8))) rNil))))
  (rSeq (rSet 5 (zbd 2 zai (zaz (zak (eVar 4)) rNil)))
  (rSeq (rSet 6 (zbd 2 zai (zaz (zak (eOp powB (eC (.int 26)) (eC (.int 4)))) rNil)))
  (rSeq (rSet 6 (rOp addD (zak (eVar 6)) (rOp mulD (zak (eOp powB (eC (.int 26)) (eC (.int 4)))) (zbd 2 zai (zaz (zak (eOp powB (eC (.int 26)) (eC (.int 4)))) rNil)))))
  (rSeq (rSet 7 (zak (eLst aNil)))
  (rSeq (rFor (rIP (zcw (zag (eVar 4) aNil))) (gN 8)
  (rSeq (rApp 7 (zak (eIxV 2 (eOp modD (eVar 6) (eC (.int 26))))))
  (rSet 6 (zak (eOp zlx (eVar 6) (eC (.int 26)))))))
  (rSeq (rSet 9 (rOp ixD (zak (eLst (zag (eC (.str "none")) (zag (eC (.str "rule")) (zag (eC (.str "quarrel")) (zag (eC (.str "say")) (zag (eC (.str "tell")) (zag (eC (.str "call")) (zag (eC (.str "onward")) (zag (eC (.str "own")) (zag (eC (.str "new")) (zag (eC (.str "kind")) aNil)))))))))))) (zbd 2 zai (zaz (zak (eC (.int 10))) rNil))))
  (rSeq (rIf (qAnd (qB (rOp eqD (zbd 2 zai (zaz (zak (eC (.int 6))) rNil)) (zak (eC (.int 0))))) (zir (zfh (eOp (inD true) (eVar 9) (eVar 1))))) (rS 0 (zkc 9)) rNx)
  (rSeq (rIf (zir (zyu (zfh (eOp eqD (eVar 3) (eC (.int 0)))) (zfh (eOp gtD (eCB lenD (zag (eVar 1) aNil)) (eC (.int 0)))))) (rSeq (rSet 7 (zak (eCB znm (zag (eIxV 1 (eNeg (eC (.int 1)))) aNil))))
  (rSet 5 (zak (eOp modD (eVar 5) (eCB lenD (zag (eVar 7) aNil)))))) rNx)
  (rSeq (rFor (rIP (zcw (zag (eC (.int 26)) aNil))) (gN 10)
  (rSeq (rIf (zir (zfh (eOp (inD true) (zdg "" (eVar 7)) (eVar 1)))) (rRet (zak (zdg "" (eVar 7)))) rNx)
  (zzo 7 (zak (eVar 5)) (zak (eIxV 2 (eOp modD (eOp addD (zzs (eVar 2) (eIxV 7 (eVar 5))) (eC (.int 1))) (eC (.int 26))))))))
  (rRet (zak (zdg "" (eVar 7))))))))))))))))
noncomputable def zel:GR Pen3:=fnR 11 zqb
noncomputable def zqc:SFr Pen3:=(rSeq (rSet 3 (zak (eCB znm (zag (eVar 1) aNil))))
  (rSeq (rSet 4 (zak (eLst aNil)))
  (rSeq (rFor (rIP (zcw (zag (eCB minD (zag (eVar 2) (zag (eCB lenD (zag (eVar 3) aNil)) aNil))) aNil))) (gN 5)
  (zno 4 3 (zbd 2 zai (zaz (zak (eCB lenD (zag (eVar 3) aNil))) rNil))))
  (rS 0 (zkc 4)))))
noncomputable def zgs:GR Pen3:=fnR 6 zqc
noncomputable def zkt:SFr Pen3:=(rSeq (rSet 2 (zbd 2 zai (zaz (zak (eC (.int 5))) rNil)))
  (rSeq (rSet 3 (zak (eLst aNil)))
  (rSeq (rSet 4 (zak (eLst aNil)))
  (rSeq (rFor (rIP (zcw (zag (eVar 1) aNil))) (gN 5)
  (rSeq (rSet 6 (zbd 2 zel (zaz (zak (eVar 4)) rNil)))
  (zxk 7 8 3 6 (eOp ixD (eLst (zag (eSl (eVar 4) (zmy (eNeg (eC (.int 1)))) zpk) (zag (eVar 4) (zag (eVar 4) (zag (eSl (eVar 4) zpk (zmy (eC (.int 2)))) (zag (eVar 4) aNil)))))) (eVar 2)) (rOp ixD (rLst (zaz (zak (eC (.int 1))) (zaz (zak (eC (.int 1))) (zaz (rOp addD (zak (eC (.int 1))) (zbd 2 zai (zaz (zak (eC (.int 2))) rNil))) (zaz (zak (eOp mulD (eC (.int 2)) (eCB zlz (zag (eOp gtD (eVar 5) (eC (.int 1))) aNil)))) (zaz (zbd 2 zai (zaz (zak (eC (.int 5))) rNil)) rNil)))))) (zak (eVar 2))) zgs
  (rApp 4 (zak (eVar 6))))))
  (rS 0 (zkc 3))))))
noncomputable def zew:GR Pen3:=fnR 9 zkt
noncomputable def zlt:SFr Pen3:=(rSeq (rSet 1 (zbd 2 zai (zaz (zak (eC (.int 4))) rNil)))
  (rSeq (rSet 2 (rOp subD (zak (eC (.int 1))) (rOp mulD (zak (eC (.int 2))) (zbd 2 zai (zaz (zak (eC (.int 2))) rNil)))))
  (rSeq (rIf (zir (zfh (eOp gtD (eVar 1) (eC (.int 0))))) (rRet (rOp mulD (zak (eVar 2)) (zbd 2 zai (zaz (zak (eC (.int 100))) rNil)))) rNx)
  (rSeq (rSet 3 (zak (eC (.int 0))))
  (rSeq (rFor (rIP (zcw (zag (eC (.int 5)) aNil))) (gN 4)
  (rSet 3 (rOp addD (zak (eOp mulD (eVar 3) (eOp powB (eC (.int 10)) (eC (.int 6))))) (zbd 2 zai (zaz (zak (eOp powB (eC (.int 10)) (eC (.int 6)))) rNil)))))
  (rRet (zak (eOp mulD (eVar 2) (eVar 3)))))))))
noncomputable def zdr:GR Pen3:=fnR 5 zlt
noncomputable def zqd:SFr Pen3:=(rSeq (rSet 4 (zbd 2 zai (zaz (zak (eC (.int 6))) rNil)))
  (rSeq (rAsg (rOp ixD (zak (eVar 2)) (zbd 2 zai (zaz (zak (eCB lenD (zag (eVar 2) aNil))) rNil))) (gT 2 (zax 5 (zax 6 zeg))))
  (rSeq (rIf (zir (zfh (eOp ltD (eVar 4) (eC (.int 2))))) (rRet (rTup (zaz (zak (eC (.str "say"))) (zaz (zbd 1 zdr rNil) rNil)))) rNx)
  (rSeq (rIf (zir (zfh (eOp eqD (eVar 4) (eC (.int 2))))) (rRet (rTup (zaz (zak (eC (.str "tell"))) (zaz (zbd 2 zai (zaz (zak (eVar 3)) rNil)) rNil)))) rNx)
  (rSeq (rIf (zir (zfh (eOp eqD (eVar 4) (eC (.int 3))))) (rRet (zak (eTup (zag (eC (.str "onward")) aNil)))) rNx)
  (rSeq (rSet 7 (zak (eLst aNil)))
  (rSeq (rFor (rIP (zcw (zag (eVar 6) aNil))) (gN 8)
  (rIf (qB (rOp eqD (zbd 2 zai (zaz (zak (eC (.int 2))) rNil)) (zak (eC (.int 0))))) (rApp 7 (rTup (zaz (zak (eC (.str "own"))) (zaz (zbd 2 zai (zaz (zak (eVar 3)) rNil)) rNil)))) (rApp 7 (rTup (zaz (zak (eC (.str "new"))) (zaz (rOp ixD (zak (eVar 1)) (zbd 2 zai (zaz (zak (eCB lenD (zag (eVar 1) aNil))) rNil))) (zaz (zbd 1 zdr rNil) rNil)))))))
  (rRet (zak (eTup (zag (eC (.str "call")) (zag (eVar 5) (zag (eVar 7) aNil)))))))))))))
noncomputable def zjq:GR Pen3:=fnR 9 zqd
noncomputable def zja:SFr Pen3:=(rSeq (rSet 6 (zbd 3 zgs (zaz (zak (zzw (eOp ixD (eLst (zag (eC (.int 1)) (zag (eCB lenD (zag (eVar 1) aNil)) (zag (eOp powB (eCB lenD (zag (eVar 1) aNil)) (eC (.int 2))) (zag (eOp powB (eCB lenD (zag (eVar 1) aNil)) (eC (.int 3))) aNil))))) (eVar 3)))) (zaz (zak (eVar 4)) rNil))))
  (rSeq (rSet 7 (zak (eLst aNil)))
  (rSeq (rFor (rIP (zbg (eVar 6))) (gN 8)
  (rSeq (rSet 9 (zak (eLst aNil)))
  (rSeq (rFor (rIP (zcw (zag (eVar 3) aNil))) (gN 10)
  (rSeq (rApp 9 (zak (eIxV 1 (eOp modD (eVar 8) (eCB lenD (zag (eVar 1) aNil))))))
  (rSet 8 (zak (eOp zlx (eVar 8) (eCB lenD (zag (eVar 1) aNil)))))))
  (rSeq (rSet 11 (zbd 2 zel (zaz (zak (zep ["_law_rule"] [] (zbg (eVar 7)) (gN 0) zci (eIxV 0 (eC (.int 0))))) rNil)))
  (rApp 7 (rTup (zaz (zak (eVar 11)) (zaz (zak (eCB zyy (zag (eVar 9) aNil))) (zaz (zzn ["_law_k"] [0,1,2,3] (rIP (zcw (zag (eVar 5) aNil))) (gN 0) zci (zbd 4 zjq (zaz (zak (eVar 2)) (zaz (zak (eVar 3)) (zaz (zak (eVar 4)) rNil))))) rNil)))))))))
  (rS 0 (zkc 7)))))
noncomputable def zex:GR Pen3:=fnR 12 zja
noncomputable def zku:SFr Pen3:=(rSeq (rSet 5 (zbd 2 zew (zaz (zak (eVar 1)) rNil)))
  (rSeq (rSet 6 (zak (zep ["_law_name","_law_elders"] [] (zbg (eVar 5)) (gT 2 (zax 0 (zax 1 zeg))) zci (eVar 0))))
  (rSeq (rSet 7 (zak (eLst aNil)))
  (rSeq (rFor (rIP (zcw (zag (eVar 2) aNil))) (gN 8)
  (rSeq (rSet 9 (rCB minD (zaz (rOp addD (zak (eC (.int 1))) (zbd 2 zai (zaz (zak (eC (.int 3))) rNil))) (zaz (zak (eOp addD (eC (.int 2)) (eCB zlz (zag (eOp ltD (eVar 1) (eC (.int 7))) aNil)))) rNil))))
  (rApp 7 (rTup (zaz (zbd 2 zel (zaz (zak (zep ["_law_head"] [] (zbg (eVar 7)) (gN 0) zci (eIxV 0 (eC (.int 0))))) rNil)) (zaz (zak (eVar 9)) rNil))))))
  (rSeq (rSet 10 (zak (eLst aNil)))
  (rSeq (rFor (rIP (zbg (eVar 7))) (gT 2 (zax 11 (zax 9 zeg)))
  (rApp 10 (rTup (zaz (zak (eVar 11)) (zaz (zak (eVar 9)) (zaz (zbd 6 zex (zaz (zak (eVar 6)) (zaz (zak (eVar 7)) (zaz (zak (eVar 9)) (zaz (zak (eVar 3)) (zaz (zak (eVar 4)) rNil)))))) rNil))))))
  (rRet (zak (eTup (zag (eVar 5) (zag (eVar 10) aNil)))))))))))
noncomputable def zdw:GR Pen3:=fnR 12 zku
noncomputable def zjb:SF:=(sSeq (sIf (zfh (eOp eqD (eIxV 0 (eC (.int 0))) (eC (.str "own")))) (sRet (eCB znk (zag (eIxV 0 (eC (.int 1))) aNil))) sNil)
  (sRet (eOp addD (eOp addD (eIxV 0 (eC (.int 1))) (eC (.str ":"))) (eCB znk (zag (eIxV 0 (eC (.int 2))) aNil)))))
noncomputable def zds:GF:=fnD 1 zjb
noncomputable def zjc:SF:=(sSeq (sIf (zfh (eOp eqD (eIxV 0 (eC (.int 0))) (eC (.str "call")))) (sRet (eOp addD (eOp addD (eC (.str "call ")) (eIxV 0 (eC (.int 1)))) (zdg "" (zep ["_law_pick"] [] (zbg (eIxV 0 (eC (.int 2)))) (gN 0) zci (eOp addD (eC (.str " ")) (zef 1 zds (zag (eVar 0) aNil))))))) sNil)
  (sSeq (sIf (zfh (eOp eqD (eIxV 0 (eC (.int 0))) (eC (.str "onward")))) (sRet (eC (.str "onward"))) sNil)
  (sRet (eOp addD (eOp addD (eIxV 0 (eC (.int 0))) (eC (.str " "))) (eCB znk (zag (eIxV 0 (eC (.int 1))) aNil))))))
noncomputable def zcd:GF:=fnD 1 zjc
noncomputable def znx:SF:=(sSeq (sSet 2 (eLst aNil))
  (sSeq (sFor (zbg (eVar 0)) (gT 2 (zax 3 (zax 4 zeg)))
  (sApp 2 (eOp addD (eOp addD (eOp addD (eC (.str "kind ")) (eVar 3)) (eOp mulD (eC (.str " <")) (eCB zlz (zag (eOp neD (eVar 4) (eLst aNil)) aNil)))) (zdg "" (zep ["_law_elder"] [] (zbg (eVar 4)) (gN 0) zci (eOp addD (eC (.str " ")) (eVar 0)))))))
  (sSeq (sFor (zbg (eVar 1)) (gT 3 (zax 3 (zax 5 (zax 6 zeg))))
  (sApp 2 (eOp addD (eOp addD (eOp addD (eC (.str "deed ")) (eVar 3)) (eC (.str " "))) (eOp ixD (eC (.str "123")) (eOp subD (eVar 5) (eC (.int 1)))))))
  (sSeq (sFor (zbg (eVar 1)) (gT 3 (zax 3 (zax 5 (zax 6 zeg))))
  (sFor (zbg (eVar 6)) (gT 3 (zax 7 (zax 8 (zax 9 zeg))))
  (sSeq (sSet 10 (eOp addD (eOp addD (eOp addD (eOp addD (eC (.str "rule ")) (eVar 3)) (eC (.str " "))) (eVar 7)) (zdg "" (zep ["_law_kind"] [] (zbg (eVar 8)) (gN 0) zci (eOp addD (eC (.str " ")) (eVar 0))))))
  (sSeq (sSet 11 (zep ["_law_step_here"] [] (zbg (eVar 9)) (gN 0) zci (zef 1 zcd (zag (eVar 0) aNil))))
  (sApp 2 (eOp addD (eOp addD (eVar 10) (eOp mulD (eC (.str " = ")) (eCB zlz (zag (eOp neD (eVar 9) (eLst aNil)) aNil)))) (zdg ", " (eVar 11))))))))
  (zkc 2)))))
noncomputable def zhh:GF:=fnD 12 znx
noncomputable def zny:SFr Pen3:=(rSeq (rIf (qB (rOp eqD (zbd 2 zai (zaz (zak (eC (.int 10))) rNil)) (zak (eC (.int 0))))) (rSeq (rSet 1 (rOp ixD (zak (eLst (zag (eC (.int 10)) (zag (eC (.int 6)) aNil)))) (zbd 2 zai (zaz (zak (eC (.int 2))) rNil))))
  (rRet (zbd 5 zdw (zaz (zak (eVar 1)) (zaz (zak (eC (.int 4))) (zaz (zak (eC (.int 12))) (zaz (rOp ixD (zak (eLst (zag (eC (.int 6)) (zag (eC (.int 1)) aNil)))) (zbd 2 zai (zaz (zak (eC (.int 2))) rNil))) rNil))))))) rNx)
  (rSeq (rSet 1 (rOp addD (zak (eC (.int 1))) (zbd 2 zai (zaz (zak (eC (.int 7))) rNil))))
  (rRet (zbd 5 zdw (zaz (zak (eVar 1)) (zaz (zbd 2 zai (zaz (zak (eC (.int 4))) rNil)) (zaz (zbd 2 zai (zaz (zak (eC (.int 4))) rNil)) (zaz (zbd 2 zai (zaz (zak (eC (.int 5))) rNil)) rNil))))))))
noncomputable def zij:GR Pen3:=fnR 2 zny
noncomputable def zkv:SFr Pen3:=(rSeq (rAsg (zak (eVar 1)) (gT 2 (zax 2 (zax 3 zeg))))
  (rSeq (rSet 4 (zak (zep ["_law_name","_law_elders"] [] (zbg (eVar 2)) (gT 2 (zax 0 (zax 1 zeg))) zci (eVar 0))))
  (rSeq (rIf (zir (zfh (eOp ltD (eCB lenD (zag (eVar 2) aNil)) (eC (.int 6))))) (rSet 2 (rOp addD (zak (eVar 2)) (rLst (zaz (rTup (zaz (zbd 2 zel (zaz (zak (eVar 4)) rNil)) (zaz (zbd 3 zgs (zaz (zak (eVar 4)) (zaz (zbd 2 zai (zaz (zak (eC (.int 5))) rNil)) rNil))) rNil))) rNil)))) rNx)
  (rSeq (rSet 5 (zak (eLst aNil)))
  (rSeq (rFor (rIP (zbg (eVar 3))) (gT 3 (zax 6 (zax 7 (zax 8 zeg))))
  (rSeq (rSet 9 (zak (eLst aNil)))
  (rSeq (rFor (rIP (zbg (eVar 8))) (gT 3 (zax 10 (zax 11 (zax 12 zeg))))
  (rSeq (rIf (qB (rOp eqD (zbd 2 zai (zaz (zak (eC (.int 2))) rNil)) (zak (eC (.int 0))))) (rSet 12 (rOp addD (rLst (zaz (rTup (zaz (zak (eC (.str "say"))) (zaz (zbd 1 zdr rNil) rNil))) rNil)) (zak (eSl (eVar 12) (zmy (eC (.int 1))) zpk)))) rNx)
  (rApp 9 (zak (eTup (zag (eVar 10) (zag (eVar 11) (zag (eVar 12) aNil))))))))
  (rApp 5 (zak (eTup (zag (eVar 6) (zag (eVar 7) (zag (eVar 9) aNil)))))))))
  (rRet (zak (eTup (zag (eVar 2) (zag (eVar 5) aNil))))))))))
noncomputable def zgq:GR Pen3:=fnR 13 zkv
noncomputable def zjd:SF:=(sSeq (sSet 1 (eCB zuy (zag (eVar 0) aNil)))
  (sSeq (sSet 2 (zdg "" (zep ["_law_line"] [] (zbg (zef 2 zhh (zag (eIxV 0 (eC (.int 0))) (zag (eIxV 0 (eC (.int 1))) aNil)))) (gN 0) zci (eOp addD (eVar 0) (eC (.str "\n"))))))
  (sSeq (sSet 3 (zvx 1 zii [0] 1 (zag (eVar 0) aNil)))
  (sRet (eAnd (eIsi "str" (eVar 3)) (eAnd (eOp eqD (eVar 3) (eVar 2)) (eAnd (eOp eqD (zef 1 zii (zag (eVar 0) aNil)) (eVar 2)) (eOp eqD (eCB zuy (zag (eVar 0) aNil)) (eVar 1)))))))))
noncomputable def zbx:GF:=fnD 4 zjd
theorem zrj:bootBuiltins "abs"=some (.builtin "abs"):=by decide +kernel
theorem zml:bootBuiltins "int"=some (.type "int"):=by decide +kernel
theorem znz:bootBuiltins "isinstance"=some (.builtin "isinstance"):=by decide +kernel
theorem zcy:bootBuiltins "len"=some (.builtin "len"):=by decide +kernel
theorem zoa:bootBuiltins "list"=some (.type "list"):=by decide +kernel
theorem zwh:bootBuiltins "min"=some (.builtin "min"):=by decide +kernel
theorem zsx:bootBuiltins "repr"=some (.builtin "repr"):=by decide +kernel
theorem zjr:bootBuiltins "str"=some (.type "str"):=by decide +kernel
theorem zxm:bootBuiltins "tuple"=some (.type "tuple"):=by decide +kernel
noncomputable def top(i:Nat):Stmt:=PySem.Challenge.pw_bestcalls_k80_programs_written.main.body.getD i (.Pass ⟨0,0,0,0⟩)
structure Txt(mg:Str->Option Value):Prop where
 abs:mg "abs"=none
 int:mg "int"=none
 isinstance:mg "isinstance"=none
 len:mg "len"=none
 list:mg "list"=none
 min:mg "min"=none
 range:mg "range"=none
 repr:mg "repr"=none
 str:mg "str"=none
 tuple:mg "tuple"=none
noncomputable abbrev zfn:Stmt:=top 1
noncomputable abbrev zob:List Str:=["kind","name","elders"]
theorem zje:zob.Nodup:=by decide +kernel
theorem zsy:FnScope zob ["kind"] (zar zfn):=⟨rfl,rfl,rfl,zje,rfl,by decide +kernel,by decide +kernel⟩
noncomputable abbrev zfo:Stmt:=top 2
noncomputable abbrev zoc:List Str:=["name","places"]
theorem zsz:zoc.Nodup:=by decide +kernel
theorem zta:FnScope zoc ["name","places"] (zar zfo):=⟨rfl,rfl,rfl,zsz,rfl,by decide +kernel,by decide +kernel⟩
noncomputable abbrev zfp:Stmt:=top 3
noncomputable abbrev zod:List Str:=["pick"]
theorem ztb:zod.Nodup:=by decide +kernel
theorem ztc:FnScope zod ["pick"] (zar zfp):=⟨rfl,rfl,rfl,ztb,rfl,by decide +kernel,by decide +kernel⟩
noncomputable abbrev zem:Stmt:=top 4
noncomputable abbrev zlu:List Str:=["step"]
theorem zrk:zlu.Nodup:=by decide +kernel
theorem zrl:FnScope zlu ["step"] (zar zem):=⟨rfl,rfl,rfl,zrk,rfl,by decide +kernel,by decide +kernel⟩
noncomputable abbrev zfq:Stmt:=top 5
noncomputable abbrev zoe:List Str:=["deed","rule","name","kinds","steps","head"]
theorem zgh:zoe.Nodup:=by decide +kernel
theorem ztd:FnScope zoe ["deed","rule"] (zar zfq):=⟨rfl,rfl,rfl,zgh,rfl,by decide +kernel,by decide +kernel⟩
noncomputable abbrev zll:Stmt:=top 6
noncomputable abbrev zaac:List Str:=["program","web","deeds","lines"]
theorem zmm:zaac.Nodup:=by decide +kernel
theorem zacq:FnScope zaac ["program"] (zar zll):=⟨rfl,rfl,rfl,zmm,rfl,by decide +kernel,by decide +kernel⟩
noncomputable abbrev zhy:Stmt:=top 8
noncomputable abbrev zte:List Str:=["_law_script"]
theorem zxn:zte.Nodup:=by decide +kernel
theorem zxo:FnScope zte ["_law_script"] (zar zhy):=⟨rfl,rfl,rfl,zxn,rfl,by decide +kernel,by decide +kernel⟩
noncomputable abbrev zgt:Stmt:=top 9
noncomputable abbrev zqe:List Str:=["_law_pen_here","_law_many","_law_found","_law_at","_law_cell","_law_first","_law_last","_law_number"]
theorem zcz:zqe.Nodup:=by decide +kernel
theorem zvb:FnScope zqe ["_law_pen_here","_law_many"] (zar zgt):=⟨rfl,rfl,rfl,zcz,rfl,by decide +kernel,by decide +kernel⟩
noncomputable abbrev zgu:Stmt:=top 10
noncomputable abbrev zqf:List Str:=["_law_pen_here","_law_taken","_law_abc","_law_way","_law_long","_law_at","_law_code","_law_letters","_law_k","_law_odd","_law_turn"]
theorem zbn:zqf.Nodup:=by decide +kernel
theorem zvc:FnScope zqf ["_law_pen_here","_law_taken"] (zar zgu):=⟨rfl,rfl,rfl,zbn,rfl,by decide +kernel,by decide +kernel⟩
noncomputable abbrev zgv:Stmt:=top 11
noncomputable abbrev zqg:List Str:=["_law_pen_here","_law_pool","_law_count","_law_left","_law_found","_law_k"]
theorem zik:zqg.Nodup:=by decide +kernel
theorem zvd:FnScope zqg ["_law_pen_here","_law_pool","_law_count"] (zar zgv):=⟨rfl,rfl,rfl,zik,rfl,by decide +kernel,by decide +kernel⟩
noncomputable abbrev zhz:Stmt:=top 12
noncomputable abbrev ztf:List Str:=["_law_pen_here","_law_many","_law_way","_law_web_here","_law_names","_law_k","_law_name","_law_pool","_law_count"]
theorem zen:ztf.Nodup:=by decide +kernel
theorem zxp:FnScope ztf ["_law_pen_here","_law_many"] (zar zhz):=⟨rfl,rfl,rfl,zen,rfl,by decide +kernel,by decide +kernel⟩
noncomputable abbrev zeo:Stmt:=top 13
noncomputable abbrev zlv:List Str:=["_law_pen_here","_law_way","_law_sign","_law_found","_law_k"]
theorem zdx:zlv.Nodup:=by decide +kernel
theorem zrm:FnScope zlv ["_law_pen_here"] (zar zeo):=⟨rfl,rfl,rfl,zdx,rfl,by decide +kernel,by decide +kernel⟩
noncomputable abbrev zgw:Stmt:=top 14
noncomputable abbrev zqh:List Str:=["_law_pen_here","_law_names","_law_heads","_law_places","_law_way","_law_deed","_law_wanted","_law_picks","_law_k"]
theorem zfr:zqh.Nodup:=by decide +kernel
theorem zve:FnScope zqh ["_law_pen_here","_law_names","_law_heads","_law_places"] (zar zgw):=⟨rfl,rfl,rfl,zfr,rfl,by decide +kernel,by decide +kernel⟩
noncomputable abbrev zfs:Stmt:=top 15
noncomputable abbrev zof:List Str:=["_law_pen_here","_law_names","_law_heads","_law_places","_law_most","_law_steps","_law_numbers","_law_rules_here","_law_number","_law_kinds","_law_place","_law_name"]
theorem zct:zof.Nodup:=by decide +kernel
theorem ztg:FnScope zof ["_law_pen_here","_law_names","_law_heads","_law_places","_law_most","_law_steps"] (zar zfs):=⟨rfl,rfl,rfl,zct,rfl,by decide +kernel,by decide +kernel⟩
noncomputable abbrev zdy:Stmt:=top 16
noncomputable abbrev zkw:List Str:=["_law_pen_here","_law_kinds","_law_deeds","_law_rules_here","_law_steps","_law_web_here","_law_names","_law_heads","_law_k","_law_places","_law_made","_law_name"]
theorem zbu:zkw.Nodup:=by decide +kernel
theorem zpl:FnScope zkw ["_law_pen_here","_law_kinds","_law_deeds","_law_rules_here","_law_steps"] (zar zdy):=⟨rfl,rfl,rfl,zbu,rfl,by decide +kernel,by decide +kernel⟩
noncomputable abbrev zcr:Stmt:=top 17
noncomputable abbrev zjf:List Str:=["_law_pick"]
theorem zma:zjf.Nodup:=by decide +kernel
theorem zmb:FnScope zjf ["_law_pick"] (zar zcr):=⟨rfl,rfl,rfl,zma,rfl,by decide +kernel,by decide +kernel⟩
noncomputable abbrev zcs:Stmt:=top 18
noncomputable abbrev zjg:List Str:=["_law_step_here"]
theorem zmc:zjg.Nodup:=by decide +kernel
theorem zmd:FnScope zjg ["_law_step_here"] (zar zcs):=⟨rfl,rfl,rfl,zmc,rfl,by decide +kernel,by decide +kernel⟩
noncomputable abbrev zft:Stmt:=top 19
noncomputable abbrev zog:List Str:=["_law_web_here","_law_deeds","_law_lines_here","_law_name","_law_elders","_law_places","_law_rules_here","_law_rule","_law_kinds","_law_steps","_law_line","_law_rest"]
theorem zbi:zog.Nodup:=by decide +kernel
theorem zth:FnScope zog ["_law_web_here","_law_deeds"] (zar zft):=⟨rfl,rfl,rfl,zbi,rfl,by decide +kernel,by decide +kernel⟩
noncomputable abbrev zfu:Stmt:=top 20
noncomputable abbrev zoh:List Str:=["_law_pen_here","_law_kinds"]
theorem zjh:zoh.Nodup:=by decide +kernel
theorem zti:FnScope zoh ["_law_pen_here"] (zar zfu):=⟨rfl,rfl,rfl,zjh,rfl,by decide +kernel,by decide +kernel⟩
noncomputable abbrev zdz:Stmt:=top 21
noncomputable abbrev zkx:List Str:=["_law_pen_here","_law_made","_law_web_here","_law_deeds","_law_names","_law_found","_law_name","_law_places","_law_rules_here","_law_rows","_law_rule","_law_kinds","_law_steps"]
theorem zbe:zkx.Nodup:=by decide +kernel
theorem zpm:FnScope zkx ["_law_pen_here","_law_made"] (zar zdz):=⟨rfl,rfl,rfl,zbe,rfl,by decide +kernel,by decide +kernel⟩
noncomputable abbrev zfv:Stmt:=top 22
noncomputable abbrev zoi:List Str:=["_law_made","_law_kept","_law_due","_law_found"]
theorem zhm:zoi.Nodup:=by decide +kernel
theorem ztj:FnScope zoi ["_law_made"] (zar zfv):=⟨rfl,rfl,rfl,zhm,rfl,by decide +kernel,by decide +kernel⟩
noncomputable abbrev zrn:Stmt:=top 23
noncomputable abbrev zaga:List Str:=["_law_script","_law_pen_here","_law_made"]
theorem zaad:zaga.Nodup:=by decide +kernel
theorem zajb:FnScope zaga ["_law_script"] (zar zrn):=⟨rfl,rfl,rfl,zaad,rfl,by decide +kernel,by decide +kernel⟩
theorem zme:(["pick"]:List Str).Nodup:=by decide +kernel
theorem zmf:(["part"]:List Str).Nodup:=by decide +kernel
theorem zoj:(["step"]:List Str).Nodup:=by decide +kernel
theorem zvf:(["kind"]:List Str).Nodup:=by decide +kernel
theorem zke:(["name","places","rules"]:List Str).Nodup:=by decide +kernel
theorem zil:(["name","places","rules","rule"]:List Str).Nodup:=by decide +kernel
theorem zvg:(["line"]:List Str).Nodup:=by decide +kernel
theorem zok:(["_law_rule"]:List Str).Nodup:=by decide +kernel
theorem zol:(["_law_k","_law_pen_here","_law_names","_law_heads","_law_places"]:List Str).Nodup:=by decide +kernel
theorem zia:(["_law_name","_law_elders"]:List Str).Nodup:=by decide +kernel
theorem zlm:(["_law_head"]:List Str).Nodup:=by decide +kernel
theorem zkf:(["_law_pick"]:List Str).Nodup:=by decide +kernel
theorem zom:(["_law_elder"]:List Str).Nodup:=by decide +kernel
theorem zon:(["_law_kind"]:List Str).Nodup:=by decide +kernel
theorem zoo:(["_law_step_here"]:List Str).Nodup:=by decide +kernel
theorem zib:(["_law_name","_law_elders"]:List Str).Nodup:=by decide +kernel
theorem zop:(["_law_line"]:List Str).Nodup:=by decide +kernel
section
variable(P:Program)(w:World)(K:qD)(mg:Str->Option Value)(base:Heap)
noncomputable abbrev zoq:Prop:=Dn P w K mg base "kind_line" ["kind"] 1 (spD 1 zhg)
noncomputable abbrev zor:Prop:=Dn P w K mg base "deed_line" ["name","places"] 1 (spD 2 zfl)
noncomputable abbrev zos:Prop:=Dn P w K mg base "pick_word" ["pick"] 1 (spD 1 zfm)
noncomputable abbrev zlw:Prop:=Dn P w K mg base "step_words" ["step"] 2 (spD 1 zgg)
noncomputable abbrev zot:Prop:=Dn P w K mg base "rule_line" ["deed","rule"] 3 (spD 2 zej)
noncomputable abbrev zaae:Prop:=Dn P w K mg base "shown" ["program"] 4 (spD 1 zii)
noncomputable abbrev ztk:Prop:=Dn P w K mg base "_law_pen" ["_law_script"] 1 (zpz K)
noncomputable abbrev zea:Prop:=Dn P w K mg base "_law_take" ["_law_pen_here","_law_many"] 1 (spR (zgd K) 2 zai)
noncomputable abbrev zic:Prop:=Dn P w K mg base "_law_word" ["_law_pen_here","_law_taken"] 2 (spR (zgd K) 2 zel)
noncomputable abbrev zjs:Prop:=Dn P w K mg base "_law_some" ["_law_pen_here","_law_pool","_law_count"] 2 (spR (zgd K) 3 zgs)
noncomputable abbrev ztl:Prop:=Dn P w K mg base "_law_web" ["_law_pen_here","_law_many"] 3 (spR (zgd K) 2 zew)
noncomputable abbrev zji:Prop:=Dn P w K mg base "_law_figure" ["_law_pen_here"] 2 (spR (zgd K) 1 zdr)
noncomputable abbrev zqi:Prop:=Dn P w K mg base "_law_step" ["_law_pen_here","_law_names","_law_heads","_law_places"] 3 (spR (zgd K) 4 zjq)
noncomputable abbrev zou:Prop:=Dn P w K mg base "_law_rules" ["_law_pen_here","_law_names","_law_heads","_law_places","_law_most","_law_steps"] 4 (spR (zgd K) 6 zex)
noncomputable abbrev zky:Prop:=Dn P w K mg base "_law_program" ["_law_pen_here","_law_kinds","_law_deeds","_law_rules_here","_law_steps"] 5 (spR (zgd K) 5 zdw)
noncomputable abbrev zjj:Prop:=Dn P w K mg base "_law_pick_text" ["_law_pick"] 1 (spD 1 zds)
noncomputable abbrev zjk:Prop:=Dn P w K mg base "_law_step_text" ["_law_step_here"] 2 (spD 1 zcd)
noncomputable abbrev zov:Prop:=Dn P w K mg base "_law_lines" ["_law_web_here","_law_deeds"] 3 (spD 2 zhh)
noncomputable abbrev zow:Prop:=Dn P w K mg base "_law_sized" ["_law_pen_here"] 6 (spR (zgd K) 1 zij)
noncomputable abbrev zkz:Prop:=Dn P w K mg base "_law_changed" ["_law_pen_here","_law_made"] 3 (spR (zgd K) 2 zgq)
noncomputable abbrev zox:Prop:=Dn P w K mg base "_law_right" ["_law_made"] 5 (spD 1 zbx)
end
section
variable{P:Program}{w:World}{K:qD}{mg:Str->Option Value}{base:Heap}
theorem ztm {f:Addr} {fd:qw} (F:Fun K "kind_line" "kind_line" zfn f fd) (T:Txt mg)  : FnOk P w K mg base CX0 1 f fd ["kind"] (spD 1 zhg):=by
 refine F.ok zsy (λvs H Q E h=>zhn h) (λcdv A outer s H vs Q E hr h=>?_)
 have hu:=zhk hr
 apply Exists.intro
 apply And.intro
 ·refine' Bx.out (zad (znh (bv 0) (zcn (K:=K) (n:=2) rfl rfl (zaw (bpgN (i:=1) zje rfl (Or.inl rfl)) (zaw (bpgN (i:=2) zje rfl (Or.inl rfl)) zcm (by rfl)) (by rfl)) (by rfl) (by rfl)) (by rfl) (by rfl) (by rfl))
 (zad (zec (zus (zlh (K:=K) rfl (bv 2) (λ_=>rfl))) (zam (zbf (zqa (zst (zsu (bv 1) zlk))))) zbt)
 (zam (zbf (zau (zba (K:=K) rfl) (zqa (zst (zsu (bv 1) (zst zlk)))) (zbj (K:=K) rfl qY qj qi (zdm (sep:=" ")) zay (bpaC (bv 2) zab) (by rfl) (by rfl) (by rfl) (zaq (by rfl)) (by rfl)))))))
 exact fn_d (f:=znt) ((zdo (zza (zae 0) (ziv (zbh (zbh zgz)))) (zdo (zum (zyv (zyt (zae 2))) (zgy (zxg (.c (.e (zae 1) .nil)))) zmz) (zgy (zbc zbm (zxg (.c (.e (zae 1) (.c .nil)))) (zdn (zae 2))))))) h
theorem ztn {f:Addr} {fd:qw} (F:Fun K "deed_line" "deed_line" zfo f fd) (T:Txt mg)  : FnOk P w K mg base CX0 1 f fd ["name","places"] (spD 2 zfl):=by
 refine F.ok zta (λvs H Q E h=>zhn h) (λcdv A outer s H vs Q E hr h=>?_)
 have hu:=zhk hr
 apply Exists.intro
 apply And.intro
 ·refine' Bx.out (zam (zbf (zqa (zst (zsu (bv 0) (zst (zsu (bv 1) zlk)))))))
 exact fn_d (f:=znu) ((zgy (zxg (.c (.e (zae 0) (.c (.e (zae 1) .nil))))))) h
theorem zto {f:Addr} {fd:qw} (F:Fun K "pick_word" "pick_word" zfp f fd) (T:Txt mg)  : FnOk P w K mg base CX0 1 f fd ["pick"] (spD 1 zfm):=by
 refine F.ok ztc (λvs H Q E h=>zhn h) (λcdv A outer s H vs Q E hr h=>?_)
 have hu:=zhk hr
 apply Exists.intro
 apply And.intro
 ·refine' Bx.out (zad (zec (zbq (zhc (K:=K) rfl hr.units) (bpeX (zcb (K:=K) rfl) (bv 0) zaf) zay (zco _)) (zam (zbf (bpeT ziy T.str zjr (bpaC (bpeX (zcb (K:=K) rfl) (bv 0) zaf) zab)))) zbt)
 (zam (zbf (zqa (zsu (bpeX (zcb (K:=K) rfl) (bv 0) zaf) (zst (zsu (bpeX (zcb (K:=K) rfl) (bv 0) zaf) zlk)))))))
 exact fn_d (f:=znv) ((zdo (zum (st_t (zbc zka (zcp (se_c λ_=>zaa)) (se_c λ_=>zal))) (zgy (zeh znl (zah (zcp (se_c λ_=>zaa)) zat))) zmz) (zgy (zxg (.e (zcp (se_c λ_=>zaa)) (.c (.e (zcp (se_c λ_=>zaa)) .nil))))))) h
theorem zro{f:Addr}{fd:qw}(F:Fun K "step_words" "step_words" zem f fd)(T:Txt mg)(D_pick_word:zos P w K mg base):FnOk P w K mg base CX0 2 f fd ["step"] (spD 1 zgg):=by
 refine F.ok zrl (λvs H Q E h=>zhn h) (λcdv A outer s H vs Q E hr h=>?_)
 have hu:=zhk hr
 apply Exists.intro
 apply And.intro
 ·refine' Bx.out (zad (zec (zbq (zhc (K:=K) rfl hr.units) (bpeX (zcb (K:=K) rfl) (bv 0) zaf) zay (zco _)) (zam (zbf (zbj (K:=K) rfl qY qj qi (zdm (sep:=" ")) zay (bpaC (zau (zba (K:=K) rfl) (zbp (bpaC zay (bpaC (bpeX (zcb (K:=K) rfl) (bv 0) zaf) zab))) (zdd (zbw (N':=["pick"]) (own:=["pick"]) (fr:=[]) (by kernel_rfl)) rfl (zbl (K:=K) rfl (bpeX (zcb (K:=K) rfl) (bv 0) zaf)) ?hb1 (by intro _;rfl))) zab) (by rfl) (by rfl) (by rfl) (zaq (by rfl)) (by rfl)))) zbt)
 (zam (zbf (zbj (K:=K) rfl qY qj qi (zdm (sep:=" ")) zay (bpaC (zdd (zbw (N':=["part"]) (own:=["part"]) (fr:=[]) (by kernel_rfl)) rfl (zbl (K:=K) rfl (bv 0)) ?hb2 (by intro _;rfl)) zab) (by rfl) (by rfl) (by rfl) (zaq (by rfl)) (by rfl)))))
  case hb1=>(intro cl C s H fp;refine'⟨Bx.out (bpgN (i:=0) zme rfl (Or.inl rfl)),Bx.out zdj,Bx.out (bpeD D_pick_word hr (bpaC (bv 0) zab))⟩)
  case hb2=>(intro cl C s H fp;refine'⟨Bx.out (bpgN (i:=0) zmf rfl (Or.inl rfl)),Bx.out zdj,Bx.out (bpeT ziy T.str zjr (bpaC (bv 0) zab))⟩)
 exact fn_d (f:=zls) ((zdo (zum (st_t (zbc zka (zcp (se_c λ_=>zaa)) (se_c λ_=>zal))) (zgy (zdn (zbc zbm (zdl (zah (se_c λ_=>zal) (zah (zcp (se_c λ_=>zaa)) zat))) (zei (zdc (zcp (se_c λ_=>zaa))) zfi (zfj (by decide)) zfd (zgj (zah (zae 0) zat)))))) zmz) (zgy (zdn (zei (zdc (zae 0)) zfi (zfj (by decide)) zfd (zeh znl (zah (zae 0) zat))))))) h
theorem ztp{f:Addr}{fd:qw}(F:Fun K "rule_line" "rule_line" zfq f fd)(T:Txt mg)(D_step_words:zlw P w K mg base):FnOk P w K mg base CX0 3 f fd ["deed","rule"] (spD 2 zej):=by
 refine F.ok ztd (λvs H Q E h=>zhn h) (λcdv A outer s H vs Q E hr h=>?_)
 have hu:=zhk hr
 apply Exists.intro
 apply And.intro
 ·refine' Bx.out (zad (znh (bv 1) (zcn (K:=K) (n:=3) rfl rfl (zaw (bpgN (i:=2) zgh rfl (Or.inl rfl)) (zaw (bpgN (i:=3) zgh rfl (Or.inl rfl)) (zaw (bpgN (i:=4) zgh rfl (Or.inl rfl)) zcm (by rfl)) (by rfl)) (by rfl)) (by rfl) (by rfl)) (by rfl) (by rfl) (by rfl))
 (zad (bpsS (i:=5) zgh rfl (Or.inl rfl) (zbj (K:=K) rfl qY qj qi (zdm (sep:=" ")) zay (bpaC (zau (zba (K:=K) rfl) (zbp (bpaC zay (bpaC (bv 0) (bpaC (bv 2) zab)))) (bpeT (zlj (K:=K) rfl rfl) T.list zoa (bpaC (bv 3) zab))) zab) (by rfl) (by rfl) (by rfl) (zaq (by rfl)) (by rfl)))
 (zad (zec (zus (zlh (K:=K) rfl (bv 4) (λ_=>rfl))) (zam (zbf (bv 5))) zbt)
 (zam (zbf (zau (zba (K:=K) rfl) (zqa (zsu (bv 5) (zst zlk))) (zbj (K:=K) rfl qY qj qi (zdm (sep:=", ")) zay (bpaC (zdd (zbw (N':=["step"]) (own:=["step"]) (fr:=[]) (by kernel_rfl)) rfl (zbl (K:=K) rfl (bv 4)) ?hb1 (by intro _;rfl)) zab) (by rfl) (by rfl) (by rfl) (zaq (by rfl)) (by rfl))))))))
  case hb1=>(intro cl C s H fp;refine'⟨Bx.out (bpgN (i:=0) zoj rfl (Or.inl rfl)),Bx.out zdj,Bx.out (bpeD D_step_words hr (bpaC (bv 0) zab))⟩)
 exact fn_d (f:=znw) ((zdo (zza (zae 1) (ziv (zbh (zbh (zbh zgz))))) (zdo (zlo (zdn (zbc zbm (zdl (zah (se_c λ_=>zal) (zah (zae 0) (zah (zae 2) zat)))) (zeh zrg (zah (zae 3) zat))))) (zdo (zum (zyv (zyt (zae 4))) zul zmz) (zgy (zbc zbm (zxg (.e (zae 5) (.c .nil))) (zdn (zei (zdc (zae 4)) zfi (zfj (by decide)) zfd (zgj (zah (zae 0) zat)))))))))) h
theorem zwi{f:Addr}{fd:qw}(F:Fun K "shown" "shown" zll f fd)(T:Txt mg)(D_deed_line:zor P w K mg base)(D_kind_line:zoq P w K mg base)(D_rule_line:zot P w K mg base):FnOk P w K mg base CX0 4 f fd ["program"] (spD 1 zii):=by
 refine F.ok zacq (λvs H Q E h=>zhn h) (λcdv A outer s H vs Q E hr h=>?_)
 have hu:=zhk hr
 apply Exists.intro
 apply And.intro
 ·refine' Bx.out (zad (znh (bv 0) (zcn (K:=K) (n:=2) rfl rfl (zaw (bpgN (i:=1) zmm rfl (Or.inl rfl)) (zaw (bpgN (i:=2) zmm rfl (Or.inl rfl)) zcm (by rfl)) (by rfl)) (by rfl) (by rfl)) (by rfl) (by rfl) (by rfl))
 (zad (zkm (i:=3) (zbw (N':=["kind"]) (own:=["kind"]) (fr:=[]) (by kernel_rfl)) rfl (zbl (K:=K) rfl (bv 1)) ?hb1 (by rfl) zmm rfl rfl (by intro _;rfl))
 (zad (zch (zbj (K:=K) rfl qM qBF qBE zsi (bv 3) (bpaC (zdd (zbw (N':=["name","places","rules"]) (own:=["name","places","rules"]) (fr:=[]) (by kernel_rfl)) rfl (zbl (K:=K) rfl (bv 2)) ?hb2 (by intro _;rfl)) zab) (by rfl) (by rfl) (by rfl) (zaq (by rfl)) (by rfl)) (by rfl))
 (zad (zch (zbj (K:=K) rfl qM qBF qBE zsi (bv 3) (bpaC (zzj (zbw (N':=["name","places","rules","rule"]) (own:=["name","places","rules","rule"]) (fr:=[]) (by kernel_rfl)) rfl (zbl (K:=K) rfl (bv 2)) ?hb3 (by intro _;rfl) (by intro _ _;rfl)) zab) (by rfl) (by rfl) (by rfl) (zaq (by rfl)) (by rfl)) (by rfl))
 (zam (zbf (zbj (K:=K) rfl qY qj qi (zdm (sep:="")) zay (bpaC (zdd (zbw (N':=["line"]) (own:=["line"]) (fr:=[]) (by kernel_rfl)) rfl (zbl (K:=K) rfl (bv 3)) ?hb4 (by intro _;rfl)) zab) (by rfl) (by rfl) (by rfl) (zaq (by rfl)) (by rfl))))))))
  case hb1=>(intro cl C s H fp;refine'⟨Bx.out (bpgN (i:=0) zvf rfl (Or.inl rfl)),Bx.out zdj,Bx.out (bpeD D_kind_line hr (bpaC (bv 0) zab))⟩)
  case hb2=>(intro cl C s H fp;refine'⟨Bx.out (zcn (K:=K) (n:=3) rfl rfl (zaw (bpgN (i:=0) zke rfl (Or.inl rfl)) (zaw (bpgN (i:=1) zke rfl (Or.inl rfl)) (zaw (bpgN (i:=2) zke rfl (Or.inl rfl)) zcm (by rfl)) (by rfl)) (by rfl)) (by rfl) (by rfl)),Bx.out zdj,Bx.out (bpeD D_deed_line hr (bpaC (bv 0) (bpaC (bv 1) zab)))⟩)
  case hb3=>(intro cl C s H fp;refine'⟨Bx.out (zcn (K:=K) (n:=3) rfl rfl (zaw (bpgN (i:=0) zil rfl (Or.inl rfl)) (zaw (bpgN (i:=1) zil rfl (Or.inl rfl)) (zaw (bpgN (i:=2) zil rfl (Or.inl rfl)) zcm (by rfl)) (by rfl)) (by rfl)) (by rfl) (by rfl)),Bx.out zdj,Bx.out (zbl (K:=K) rfl (bv 2)),Bx.out (bpgN (i:=3) zil rfl (Or.inl rfl)),Bx.out zdj,Bx.out (bpeD D_rule_line hr (bpaC (bv 0) (bpaC (bv 3) zab)))⟩)
  case hb4=>(intro cl C s H fp;refine'⟨Bx.out (bpgN (i:=0) zvg rfl (Or.inl rfl)),Bx.out zdj,Bx.out (zqa (zsu (bv 0) (zst zlk)))⟩)
 exact fn_d (f:=zaab) ((zdo (zza (zae 0) (ziv (zbh (zbh zgz)))) (zdo (zlo (zei (zdc (zae 1)) zfi (zfj (by decide)) zfd (zgj (zah (zae 0) zat)))) (zdo (zadn (zei (zdc (zae 2)) (ziv (zbh (zbh (zbh zgz)))) (zzc (zif (by decide) (zif (by decide) (zif (by decide) zuo)))) zfd (zgj (zah (zae 0) (zah (zae 1) zat))))) (zdo (zadn (zacb (k:=3) (zdc (zae 2)) (ziv (zbh (zbh (zbh zgz)))) (zaio (zqz (by decide) (by decide) (zqz (by decide) (by decide) (zqz (by decide) (by decide) zafh)))) (by decide) zfd (zdc (zae 2)) zfi (zafg (by decide) (by decide)) zfd (zgj (zah (zae 0) (zah (zae 3) zat))))) (zgy (zdn (zei (zdc (zae 3)) zfi (zfj (by decide)) zfd (zxg (.e (zae 0) (.c .nil))))))))))) h
theorem zxq{f:Addr}{fd:qw}(F:Fun K "_law_pen" "_law_pen" zhy f fd)(T:Txt mg):FnOk P w K mg base CX0 1 f fd ["_law_script"] (zpz K):=by
 refine F.ok zxo (λvs H Q E h=>zxf h) (λcdv A outer s H vs Q E hr h=>?_)
 have hu:=zhk hr
 apply Exists.intro
 apply And.intro
 ·refine' Bx.out (zam (zbf (zbp (bpaC (bv 0) (bpaC zaf (bpaC zaf zab))))))
 exact zafs h
theorem zvh {f:Addr} {fd:qw} (F:Fun K "_law_take" "_law_take" zgt f fd) (T:Txt mg)  : FnOk P w K mg base CX0 1 f fd ["_law_pen_here","_law_many"] (spR (zgd K) 2 zai):=by
 refine F.ok zvb (λvs H Q E h=>zhp h) (λcdv A outer s H vs Q E hr h=>?_)
 have hu:=zhk hr
 apply Exists.intro
 apply And.intro
 ·refine' Bx.out (zad (zec (zbq zyc (bpeX (zcb (K:=K) rfl) (bv 0) zaf) zaf (zco _)) (zad (bpsS (i:=2) zcz rfl (Or.inl rfl) (zau zhw (bpeX (zcb (K:=K) rfl) (bv 0) zaf) (bv 1)))
 (zad (zmj (bv 0) zaf (zau zmp (bpeX (zcb (K:=K) rfl) (bv 0) zaf) (bv 1)) (by intro _;rfl) (by rfl) (by rfl) (by rfl))
 (zam (zbf (bv 2))))) zbt)
 (zad (bpsS (i:=3) zcz rfl (Or.inl rfl) (bpeX (zcb (K:=K) rfl) (bv 0) zaf))
 (zad (zmj (bv 0) zaf (zau (zba (K:=K) rfl) (bv 3) zaf) (by intro _;rfl) (by rfl) (by rfl) (by rfl))
 (zad (bpsS (i:=4) zcz rfl (Or.inl rfl) zaf)
 (zad (zec (zbq zyc (bpeB (zcc (K:=K) rfl) T.len zcy (bpaC (bpeX (zcb (K:=K) rfl) (bv 0) zaf) zab)) zaf (zco _)) (zam (bpsS (i:=4) zcz rfl (Or.inl rfl) (bpeX (zcb (K:=K) rfl) (bpeX (zcb (K:=K) rfl) (bv 0) zaf) (zau zhw (bv 3) (bpeB (zcc (K:=K) rfl) T.len zcy (bpaC (bpeX (zcb (K:=K) rfl) (bv 0) zaf) zab)))))) zbt)
 (zad (zec (zut (zbq zaaz (bv 3) (bpeB (zcc (K:=K) rfl) T.len zcy (bpaC (bpeX (zcb (K:=K) rfl) (bv 0) zaf) zab)) (zco _)) (zrc (zbq zakn (bpeB zqo T.abs zrj (bpaC (bv 4) zab)) (zau zhq zaf zaf) (zco _)))).pt (zad (zmj (bv 0) zaf (zau zmp (bpeB zqo T.abs zrj (bpaC (bv 4) zab)) (bv 1)) (by intro _;rfl) (by rfl) (by rfl) (by rfl))
 (zam (zbf (zau zhw (bpeB zqo T.abs zrj (bpaC (bv 4) zab)) (bv 1))))) zbt)
 (zad (bpsS (i:=5) zcz rfl (Or.inl rfl) (bpeX (zcb (K:=K) rfl) (zbp (bpaC zaf (bpaC zaf (bpaC zaf (bpaC zaf (bpaC zaf (bpaC zaf (bpaC zaf zab)))))))) (zau zhw (bv 3) zaf)))
 (zad (bpsS (i:=6) zcz rfl (Or.inl rfl) (bpeX (zcb (K:=K) rfl) (zbp (bpaC zaf (bpaC zaf (bpaC zaf (bpaC zaf (bpaC zaf zab)))))) (zau zhw (bv 3) zaf)))
 (zad (bpsS (i:=7) zcz rfl (Or.inl rfl) (zau zhw (zau zhq (zau (zba (K:=K) rfl) (zau zhw (bv 4) (bv 5)) (zau zgi (zau zgi (zau (zba (K:=K) rfl) (bv 3) zaf) (zau (zba (K:=K) rfl) (bv 3) zaf)) zaf)) zaf) (bv 5)))
 (zad (bpsS (i:=7) zcz rfl (Or.inl rfl) (zau zhw (zau zhq (zau (zba (K:=K) rfl) (zau zgi (bv 7) (zau (zba (K:=K) rfl) (zau zgi zaf (bv 3)) zaf)) (bv 3)) zaf) (bv 6)))
 (zam (zbf (zau zhw (zau zmp (bv 7) zaf) (bv 1))))))))))))))
 exact fn_r (by decide) (F:=zjv) ((zan (zhd (zuv (zcq zyr (zmk (i:=2)) (zac (se_c λ_=>zaa)))) (zan (zbb (zcq zin (zmk (i:=2)) (zac (zae 1))) (by decide)) (zan (zrh (i:=2) (zcq zmw (zmk (i:=2)) (zac (zae 1)))) (zso zko))) zeu) (zan (zbb (zmk (i:=1)) (by decide)) (zan (zrh (i:=1) (zac (zbc zbm (zae 3) (se_c λ_=>zaa)))) (zan (zbb (zac (se_c λ_=>zaa)) (by decide)) (zan (zhd (zuv (zcq zyr zwc (zac (se_c λ_=>zaa)))) (zbb (zafr (zae 3)) (by decide)) zeu) (zan (zhd (zzl (zuv (zcq zabq (zac (zae 3)) zwc)) (zga (st_t (zbc zakt (zeh zyx (zah (zae 4) zat)) (zbc zhr (se_c λ_=>zaa) (se_c λ_=>zaa)))))) (zan (zrh (i:=2) (zac (zbc zmw (zeh zyx (zah (zae 4) zat)) (zae 1)))) (zee (zac (zbc zin (zeh zyx (zah (zae 4) zat)) (zae 1))))) zeu) (zan (zbb (zac (zbc zly (zdl (zah (se_c λ_=>zaa) (zah (se_c λ_=>zaa) (zah (se_c λ_=>zaa) (zah (se_c λ_=>zaa) (zah (se_c λ_=>zaa) (zah (se_c λ_=>zaa) (zah (se_c λ_=>zaa) zat)))))))) (zbc zin (zae 3) (se_c λ_=>zaa)))) (by decide)) (zan (zbb (zac (zbc zly (zdl (zah (se_c λ_=>zaa) (zah (se_c λ_=>zaa) (zah (se_c λ_=>zaa) (zah (se_c λ_=>zaa) (zah (se_c λ_=>zaa) zat)))))) (zbc zin (zae 3) (se_c λ_=>zaa)))) (by decide)) (zan (zbb (zac (zbc zin (zbc zhr (zbc zbm (zbc zin (zae 4) (zae 5)) (zbc zio (zbc zio (zbc zbm (zae 3) (se_c λ_=>zaa)) (zbc zbm (zae 3) (se_c λ_=>zaa))) (se_c λ_=>zaa))) (se_c λ_=>zaa)) (zae 5))) (by decide)) (zan (zbb (zac (zbc zin (zbc zhr (zbc zbm (zbc zio (zae 7) (zbc zbm (zbc zio (se_c λ_=>zaa) (zae 3)) (se_c λ_=>zaa))) (zae 3)) (se_c λ_=>zaa)) (zae 6))) (by decide)) (zee (zac (zbc zin (zbc zmw (zae 7) (se_c λ_=>zaa)) (zae 1))))))))))))))) h
theorem zvi{f:Addr}{fd:qw}(F:Fun K "_law_word" "_law_word" zgu f fd)(T:Txt mg)(D_law_take:zea P w K mg base):FnOk P w K mg base CX0 2 f fd ["_law_pen_here","_law_taken"] (spR (zgd K) 2 zel):=by
 refine F.ok zvc (λvs H Q E h=>zhp h) (λcdv A outer s H vs Q E hr h=>?_)
 have hu:=zhk hr
 apply Exists.intro
 apply And.intro
 ·refine' Bx.out (zad (bpsS (i:=2) zbn rfl (Or.inl rfl) zay)
 (zad (bpsS (i:=3) zbn rfl (Or.inl rfl) (bpeD D_law_take hr (bpaC (bv 0) (bpaC zaf zab))))
 (zad (bpsS (i:=4) zbn rfl (Or.inl rfl) (zau (zba (K:=K) rfl) zaf (bpeD D_law_take hr (bpaC (bv 0) (bpaC zaf zab)))))
 (zad (bpsS (i:=5) zbn rfl (Or.inl rfl) (bpeD D_law_take hr (bpaC (bv 0) (bpaC (bv 4) zab))))
 (zad (bpsS (i:=6) zbn rfl (Or.inl rfl) (bpeD D_law_take hr (bpaC (bv 0) (bpaC (zau zhq zaf zaf) zab))))
 (zad (bpsS (i:=6) zbn rfl (Or.inl rfl) (zau (zba (K:=K) rfl) (bv 6) (zau zgi (zau zhq zaf zaf) (bpeD D_law_take hr (bpaC (bv 0) (bpaC (zau zhq zaf zaf) zab))))))
 (zad (bpsS (i:=7) zbn rfl (Or.inl rfl) (zbp zab))
 (zad (zed qv rfl (zdu rfl T.range (bpaC (bv 4) zab) (by rfl)) (bpgN (i:=8) zbn rfl (Or.inl rfl))
  (zad (zch (zbj (K:=K) rfl qM qT qS zbz (bv 7) (bpaC (bpeX (zcb (K:=K) rfl) (bv 2) (zau zhw (bv 6) zaf)) zab) (by rfl) (by rfl) (by rfl) (zaq (by rfl)) (by rfl)) (by rfl))
 (zam (bpsS (i:=6) zbn rfl (Or.inl rfl) (zau zmp (bv 6) zaf)))) (by intro _;rfl))
 (zad (bpsS (i:=9) zbn rfl (Or.inl rfl) (bpeX (zcb (K:=K) rfl) (zbp (bpaC zay (bpaC zay (bpaC zay (bpaC zay (bpaC zay (bpaC zay (bpaC zay (bpaC zay (bpaC zay (bpaC zay zab))))))))))) (bpeD D_law_take hr (bpaC (bv 0) (bpaC zaf zab)))))
 (zad (zec (zut (zbq (zhc (K:=K) rfl hr.units) (bpeD D_law_take hr (bpaC (bv 0) (bpaC zaf zab))) zaf (zco _)) (zrc (zbq (zsk (K:=K) rfl) (bv 9) (bv 1) (by rfl)))).pt (zam (zbf (bv 9))) zbt)
 (zad (zec (zut (zbq (zhc (K:=K) rfl hr.units) (bv 3) zaf (zco _)) (zrc (zbq zyc (bpeB (zcc (K:=K) rfl) T.len zcy (bpaC (bv 1) zab)) zaf (zco _)))).pt (zad (bpsS (i:=7) zbn rfl (Or.inl rfl) (bpeT (zlj (K:=K) rfl rfl) T.list zoa (bpaC (bpeX (zcb (K:=K) rfl) (bv 1) (zadm zadd zaf)) zab)))
 (zam (bpsS (i:=5) zbn rfl (Or.inl rfl) (zau zhw (bv 5) (bpeB (zcc (K:=K) rfl) T.len zcy (bpaC (bv 7) zab)))))) zbt)
 (zad (zed qv rfl (zdu rfl T.range (bpaC zaf zab) (by rfl)) (bpgN (i:=10) zbn rfl (Or.inl rfl))
  (zad (zec (zbq (zsk (K:=K) rfl) (zbj (K:=K) rfl qY qj qi (zdm (sep:="")) zay (bpaC (bv 7) zab) (by rfl) (by rfl) (by rfl) (zaq (by rfl)) (by rfl)) (bv 1) (by rfl)) (zam (zbf (zbj (K:=K) rfl qY qj qi (zdm (sep:="")) zay (bpaC (bv 7) zab) (by rfl) (by rfl) (by rfl) (zaq (by rfl)) (by rfl)))) zbt)
 (zam (zmj (bv 7) (bv 5) (bpeX (zcb (K:=K) rfl) (bv 2) (zau zhw (zau (zba (K:=K) rfl) (zbj (K:=K) rfl qY PySem.F.slot_str_find PySem.F.type_str_find zafp (bv 2) (bpaC (bpeX (zcb (K:=K) rfl) (bv 7) (bv 5)) zab) (by rfl) (by rfl) (by rfl) (zaq (by rfl)) (by rfl)) zaf) zaf)) (by intro _;rfl) (by rfl) (by rfl) (by rfl)))) (by intro _;rfl))
 (zam (zbf (zbj (K:=K) rfl qY qj qi (zdm (sep:="")) zay (bpaC (bv 7) zab) (by rfl) (by rfl) (by rfl) (zaq (by rfl)) (by rfl))))))))))))))))
 exact fn_r (by decide) (F:=zqb) ((zan (zbb (zac (se_c λ_=>zal)) (by decide)) (zan (zbb (zao (zaj (zac (se_c λ_=>zaa)) zav)) (by decide)) (zan (zbb (zcq zbm (zac (se_c λ_=>zaa)) (zao (zaj (zac (se_c λ_=>zaa)) zav))) (by decide)) (zan (zbb (zao (zaj (zac (zae 4)) zav)) (by decide)) (zan (zbb (zao (zaj (zac (zbc zhr (se_c λ_=>zaa) (se_c λ_=>zaa))) zav)) (by decide)) (zan (zbb (zcq zbm (zac (zae 6)) (zcq zio (zac (zbc zhr (se_c λ_=>zaa) (se_c λ_=>zaa))) (zao (zaj (zac (zbc zhr (se_c λ_=>zaa) (se_c λ_=>zaa))) zav)))) (by decide)) (zan (zbb (zac (zdl zat)) (by decide)) (zan (zgk (zdv (zet (zah (zae 4) zat))) (zfz (by decide)) (zev (by decide)) (zan (zho (zac (zcp (zbc zin (zae 6) (se_c λ_=>zaa))))) (zbb (zac (zbc zmw (zae 6) (se_c λ_=>zaa))) (by decide)))) (zan (zbb (zcq zly (zac (zdl (zah (se_c λ_=>zal) (zah (se_c λ_=>zal) (zah (se_c λ_=>zal) (zah (se_c λ_=>zal) (zah (se_c λ_=>zal) (zah (se_c λ_=>zal) (zah (se_c λ_=>zal) (zah (se_c λ_=>zal) (zah (se_c λ_=>zal) (zah (se_c λ_=>zal) zat)))))))))))) (zao (zaj (zac (se_c λ_=>zaa)) zav))) (by decide)) (zan (zhd (zzl (zuv (zcq zka (zao (zaj (zac (se_c λ_=>zaa)) zav)) (zac (se_c λ_=>zaa)))) (zga (st_t (zbc zaii (zae 9) (zae 1))))) (zso zko) zeu) (zan (zhd (zga (zaij (st_t (zbc zka (zae 3) (se_c λ_=>zaa))) (st_t (zbc zyr (zeh ziq (zah (zae 1) zat)) (se_c λ_=>zaa))))) (zan (zbb (zac (zeh zrg (zah (zcp (zadk (se_c λ_=>zaa))) zat))) (by decide)) (zbb (zac (zbc zin (zae 5) (zeh ziq (zah (zae 7) zat)))) (by decide))) zeu) (zan (zgk (zdv (zet (zah (se_c λ_=>zaa) zat))) (zfz (by decide)) (zev (by decide)) (zan (zhd (zga (st_t (zbc zaii (zdn (zae 7)) (zae 1)))) (zee (zac (zdn (zae 7)))) zeu) (zacj (zac (zae 5)) (zac (zcp (zbc zin (zbc zbm (zafq (zae 2) (zcp (zae 5))) (se_c λ_=>zaa)) (se_c λ_=>zaa))))))) (zee (zac (zdn (zae 7))))))))))))))))) h
theorem zvj{f:Addr}{fd:qw}(F:Fun K "_law_some" "_law_some" zgv f fd)(T:Txt mg)(D_law_take:zea P w K mg base):FnOk P w K mg base CX0 2 f fd ["_law_pen_here","_law_pool","_law_count"] (spR (zgd K) 3 zgs):=by
 refine F.ok zvd (λvs H Q E h=>zhp h) (λcdv A outer s H vs Q E hr h=>?_)
 have hu:=zhk hr
 apply Exists.intro
 apply And.intro
 ·refine' Bx.out (zad (bpsS (i:=3) zik rfl (Or.inl rfl) (bpeT (zlj (K:=K) rfl rfl) T.list zoa (bpaC (bv 1) zab)))
 (zad (bpsS (i:=4) zik rfl (Or.inl rfl) (zbp zab))
 (zad (zed qv rfl (zdu rfl T.range (bpaC (bpeB (zry rfl) T.min zwh (bpaC (bv 2) (bpaC (bpeB (zcc (K:=K) rfl) T.len zcy (bpaC (bv 3) zab)) zab))) zab) (by rfl)) (bpgN (i:=5) zik rfl (Or.inl rfl))
  (zam (zch (zbj (K:=K) rfl qM qT qS zbz (bv 4) (bpaC (zbj (K:=K) rfl qM PySem.F.slot_list_pop PySem.F.type_list_pop zabh (bv 3) (bpaC (bpeD D_law_take hr (bpaC (bv 0) (bpaC (bpeB (zcc (K:=K) rfl) T.len zcy (bpaC (bv 3) zab)) zab))) zab) (by rfl) (by rfl) (by rfl) (zaq (by rfl)) (by rfl)) zab) (by rfl) (by rfl) (by rfl) (zaq (by rfl)) (by rfl)) (by rfl))) (by intro _;rfl))
 (zam (zbf (bv 4))))))
 exact fn_r (by decide) (F:=zqc) ((zan (zbb (zac (zeh zrg (zah (zae 1) zat))) (by decide)) (zan (zbb (zac (zdl zat)) (by decide)) (zan (zgk (zdv (zet (zah (zeh zadi (zah (zae 2) (zah (zeh ziq (zah (zae 3) zat)) zat))) zat))) (zfz (by decide)) (zev (by decide)) (zxi (zao (zaj (zac (zeh ziq (zah (zae 3) zat))) zav)))) (zso zko))))) h
theorem zxr{f:Addr}{fd:qw}(F:Fun K "_law_web" "_law_web" zhz f fd)(T:Txt mg)(D_law_some:zjs P w K mg base)(D_law_take:zea P w K mg base)(D_law_word:zic P w K mg base):FnOk P w K mg base CX0 3 f fd ["_law_pen_here","_law_many"] (spR (zgd K) 2 zew):=by
 refine F.ok zxp (λvs H Q E h=>zhp h) (λcdv A outer s H vs Q E hr h=>?_)
 have hu:=zhk hr
 apply Exists.intro
 apply And.intro
 ·refine' Bx.out (zad (bpsS (i:=2) zen rfl (Or.inl rfl) (bpeD D_law_take hr (bpaC (bv 0) (bpaC zaf zab))))
 (zad (bpsS (i:=3) zen rfl (Or.inl rfl) (zbp zab))
 (zad (bpsS (i:=4) zen rfl (Or.inl rfl) (zbp zab))
 (zad (zed qv rfl (zdu rfl T.range (bpaC (bv 1) zab) (by rfl)) (bpgN (i:=5) zen rfl (Or.inl rfl))
  (zad (bpsS (i:=6) zen rfl (Or.inl rfl) (bpeD D_law_word hr (bpaC (bv 0) (bpaC (bv 4) zab))))
 (zad (bpsS (i:=7) zen rfl (Or.inl rfl) (bpeX (zcb (K:=K) rfl) (zbp (bpaC (znf (zaet (K:=K) rfl) (bv 4) (zra (zadm zadd zaf)) zrb) (bpaC (bv 4) (bpaC (bv 4) (bpaC (znf (zaet (K:=K) rfl) (bv 4) zrb (zra zaf)) (bpaC (bv 4) zab)))))) (bv 2)))
 (zad (bpsS (i:=8) zen rfl (Or.inl rfl) (bpeX (zcb (K:=K) rfl) (zbp (bpaC zaf (bpaC zaf (bpaC (zau (zba (K:=K) rfl) zaf (bpeD D_law_take hr (bpaC (bv 0) (bpaC zaf zab)))) (bpaC (zau zgi zaf (bpeT zki T.int zml (bpaC (zig zyc (bv 5) zaf (zco _)) zab))) (bpaC (bpeD D_law_take hr (bpaC (bv 0) (bpaC zaf zab))) zab)))))) (bv 2)))
 (zad (zch (zbj (K:=K) rfl qM qT qS zbz (bv 3) (bpaC (zdq (bpaC (bv 6) (bpaC (bpeD D_law_some hr (bpaC (bv 0) (bpaC (bv 7) (bpaC (bv 8) zab)))) zab))) zab) (by rfl) (by rfl) (by rfl) (zaq (by rfl)) (by rfl)) (by rfl))
 (zam (zch (zbj (K:=K) rfl qM qT qS zbz (bv 4) (bpaC (bv 6) zab) (by rfl) (by rfl) (by rfl) (zaq (by rfl)) (by rfl)) (by rfl))))))) (by intro _;rfl))
 (zam (zbf (bv 3)))))))
 exact fn_r (by decide) (F:=zkt) ((zan (zbb (zao (zaj (zac (se_c λ_=>zaa)) zav)) (by decide)) (zan (zbb (zac (zdl zat)) (by decide)) (zan (zbb (zac (zdl zat)) (by decide)) (zan (zgk (zdv (zet (zah (zae 1) zat))) (zfz (by decide)) (zev (by decide)) (zan (zbb (zao (zaj (zac (zae 4)) zav)) (by decide)) (zacn (zbc zly (zdl (zah (zafb (zae 4) (zuj (zadk (se_c λ_=>zaa))) zui) (zah (zae 4) (zah (zae 4) (zah (zafb (zae 4) zui (zuj (se_c λ_=>zaa))) (zah (zae 4) zat)))))) (zae 2)) (zcq zly (zuu (zaj (zac (se_c λ_=>zaa)) (zaj (zac (se_c λ_=>zaa)) (zaj (zcq zbm (zac (se_c λ_=>zaa)) (zao (zaj (zac (se_c λ_=>zaa)) zav))) (zaj (zac (zbc zio (se_c λ_=>zaa) (zeh zre (zah (zbc zyr (zae 5) (se_c λ_=>zaa)) zat)))) (zaj (zao (zaj (zac (se_c λ_=>zaa)) zav)) zav)))))) (zac (zae 2))) (zho (zac (zae 6))) (by decide) (by decide) (by decide) (by decide) (by decide)))) (zso zko)))))) h
theorem zrp{f:Addr}{fd:qw}(F:Fun K "_law_figure" "_law_figure" zeo f fd)(T:Txt mg)(D_law_take:zea P w K mg base):FnOk P w K mg base CX0 2 f fd ["_law_pen_here"] (spR (zgd K) 1 zdr):=by
 refine F.ok zrm (λvs H Q E h=>zhp h) (λcdv A outer s H vs Q E hr h=>?_)
 have hu:=zhk hr
 apply Exists.intro
 apply And.intro
 ·refine' Bx.out (zad (bpsS (i:=1) zdx rfl (Or.inl rfl) (bpeD D_law_take hr (bpaC (bv 0) (bpaC zaf zab))))
 (zad (bpsS (i:=2) zdx rfl (Or.inl rfl) (zau zadc zaf (zau zgi zaf (bpeD D_law_take hr (bpaC (bv 0) (bpaC zaf zab))))))
 (zad (zec (zbq zyc (bv 1) zaf (zco _)) (zam (zbf (zau zgi (bv 2) (bpeD D_law_take hr (bpaC (bv 0) (bpaC zaf zab)))))) zbt)
 (zad (bpsS (i:=3) zdx rfl (Or.inl rfl) zaf)
 (zad (zed qv rfl (zdu rfl T.range (bpaC zaf zab) (by rfl)) (bpgN (i:=4) zdx rfl (Or.inl rfl))
  (zam (bpsS (i:=3) zdx rfl (Or.inl rfl) (zau (zba (K:=K) rfl) (zau zgi (bv 3) (zau zhq zaf zaf)) (bpeD D_law_take hr (bpaC (bv 0) (bpaC (zau zhq zaf zaf) zab)))))) (by intro _;rfl))
 (zam (zbf (zau zgi (bv 2) (bv 3)))))))))
 exact fn_r (by decide) (F:=zlt) ((zan (zbb (zao (zaj (zac (se_c λ_=>zaa)) zav)) (by decide)) (zan (zbb (zcq zadg (zac (se_c λ_=>zaa)) (zcq zio (zac (se_c λ_=>zaa)) (zao (zaj (zac (se_c λ_=>zaa)) zav)))) (by decide)) (zan (zhd (zga (st_t (zbc zyr (zae 1) (se_c λ_=>zaa)))) (zee (zcq zio (zac (zae 2)) (zao (zaj (zac (se_c λ_=>zaa)) zav)))) zeu) (zan (zbb (zac (se_c λ_=>zaa)) (by decide)) (zan (zgk (zdv (zet (zah (se_c λ_=>zaa) zat))) (zfz (by decide)) (zev (by decide)) (zbb (zcq zbm (zac (zbc zio (zae 3) (zbc zhr (se_c λ_=>zaa) (se_c λ_=>zaa)))) (zao (zaj (zac (zbc zhr (se_c λ_=>zaa) (se_c λ_=>zaa))) zav))) (by decide))) (zee (zac (zbc zio (zae 2) (zae 3)))))))))) h
theorem zvk{f:Addr}{fd:qw}(F:Fun K "_law_step" "_law_step" zgw f fd)(T:Txt mg)(D_law_figure:zji P w K mg base)(D_law_take:zea P w K mg base):FnOk P w K mg base CX0 3 f fd ["_law_pen_here","_law_names","_law_heads","_law_places"] (spR (zgd K) 4 zjq):=by
 refine F.ok zve (λvs H Q E h=>zhp h) (λcdv A outer s H vs Q E hr h=>?_)
 have hu:=zhk hr
 apply Exists.intro
 apply And.intro
 ·refine' Bx.out (zad (bpsS (i:=4) zfr rfl (Or.inl rfl) (bpeD D_law_take hr (bpaC (bv 0) (bpaC zaf zab))))
 (zad (znh (bpeX (zcb (K:=K) rfl) (bv 2) (bpeD D_law_take hr (bpaC (bv 0) (bpaC (bpeB (zcc (K:=K) rfl) T.len zcy (bpaC (bv 2) zab)) zab)))) (zcn (K:=K) (n:=2) rfl rfl (zaw (bpgN (i:=5) zfr rfl (Or.inl rfl)) (zaw (bpgN (i:=6) zfr rfl (Or.inl rfl)) zcm (by rfl)) (by rfl)) (by rfl) (by rfl)) (by rfl) (by rfl) (by rfl))
 (zad (zec (zbq zaaz (bv 4) zaf (zco _)) (zam (zbf (zdq (bpaC zay (bpaC (bpeD D_law_figure hr (bpaC (bv 0) zab)) zab))))) zbt)
 (zad (zec (zbq (zhc (K:=K) rfl hr.units) (bv 4) zaf (zco _)) (zam (zbf (zdq (bpaC zay (bpaC (bpeD D_law_take hr (bpaC (bv 0) (bpaC (bv 3) zab))) zab))))) zbt)
 (zad (zec (zbq (zhc (K:=K) rfl hr.units) (bv 4) zaf (zco _)) (zam (zbf (zdq (bpaC zay zab)))) zbt)
 (zad (bpsS (i:=7) zfr rfl (Or.inl rfl) (zbp zab))
 (zad (zed qv rfl (zdu rfl T.range (bpaC (bv 6) zab) (by rfl)) (bpgN (i:=8) zfr rfl (Or.inl rfl))
  (zam (zec (zbq (zhc (K:=K) rfl hr.units) (bpeD D_law_take hr (bpaC (bv 0) (bpaC zaf zab))) zaf (zco _)) (zam (zch (zbj (K:=K) rfl qM qT qS zbz (bv 7) (bpaC (zdq (bpaC zay (bpaC (bpeD D_law_take hr (bpaC (bv 0) (bpaC (bv 3) zab))) zab))) zab) (by rfl) (by rfl) (by rfl) (zaq (by rfl)) (by rfl)) (by rfl))) (zam (zch (zbj (K:=K) rfl qM qT qS zbz (bv 7) (bpaC (zdq (bpaC zay (bpaC (bpeX (zcb (K:=K) rfl) (bv 1) (bpeD D_law_take hr (bpaC (bv 0) (bpaC (bpeB (zcc (K:=K) rfl) T.len zcy (bpaC (bv 1) zab)) zab)))) (bpaC (bpeD D_law_figure hr (bpaC (bv 0) zab)) zab)))) zab) (by rfl) (by rfl) (by rfl) (zaq (by rfl)) (by rfl)) (by rfl))))) (by intro _;rfl))
 (zam (zbf (zdq (bpaC zay (bpaC (bv 5) (bpaC (bv 7) zab)))))))))))))
 exact fn_r (by decide) (F:=zqd) ((zan (zbb (zao (zaj (zac (se_c λ_=>zaa)) zav)) (by decide)) (zan (zzy (zcq zly (zac (zae 2)) (zao (zaj (zac (zeh ziq (zah (zae 2) zat))) zav))) (zni (zde (by decide) (zde (by decide) zkn))) (zkp (zdf (by decide) (zdf (by decide) zkq)))) (zan (zhd (zga (st_t (zbc zabq (zae 4) (se_c λ_=>zaa)))) (zee (zih (zaj (zac (se_c λ_=>zal)) (zaj (zao zav) zav)))) zeu) (zan (zhd (zga (st_t (zbc zka (zae 4) (se_c λ_=>zaa)))) (zee (zih (zaj (zac (se_c λ_=>zal)) (zaj (zao (zaj (zac (zae 3)) zav)) zav)))) zeu) (zan (zhd (zga (st_t (zbc zka (zae 4) (se_c λ_=>zaa)))) (zee (zac (zmx (zah (se_c λ_=>zal) zat)))) zeu) (zan (zbb (zac (zdl zat)) (by decide)) (zan (zgk (zdv (zet (zah (zae 6) zat))) (zfz (by decide)) (zev (by decide)) (zhd (zuv (zcq zka (zao (zaj (zac (se_c λ_=>zaa)) zav)) (zac (se_c λ_=>zaa)))) (zho (zih (zaj (zac (se_c λ_=>zal)) (zaj (zao (zaj (zac (zae 3)) zav)) zav)))) (zho (zih (zaj (zac (se_c λ_=>zal)) (zaj (zcq zly (zac (zae 1)) (zao (zaj (zac (zeh ziq (zah (zae 1) zat))) zav))) (zaj (zao zav) zav))))))) (zee (zac (zmx (zah (se_c λ_=>zal) (zah (zae 5) (zah (zae 7) zat)))))))))))))) h
theorem ztq{f:Addr}{fd:qw}(F:Fun K "_law_rules" "_law_rules" zfs f fd)(T:Txt mg)(D_law_some:zjs P w K mg base)(D_law_step:zqi P w K mg base)(D_law_word:zic P w K mg base):FnOk P w K mg base CX0 4 f fd ["_law_pen_here","_law_names","_law_heads","_law_places","_law_most","_law_steps"] (spR (zgd K) 6 zex):=by
 refine F.ok ztg (λvs H Q E h=>zhp h) (λcdv A outer s H vs Q E hr h=>?_)
 have hu:=zhk hr
 apply Exists.intro
 apply And.intro
 ·refine' Bx.out (zad (bpsS (i:=6) zct rfl (Or.inl rfl) (bpeD D_law_some hr (bpaC (bv 0) (bpaC (zacm rfl (by rfl) T.list (by rfl) T.range (bpeX (zcb (K:=K) rfl) (zbp (bpaC zaf (bpaC (bpeB (zcc (K:=K) rfl) T.len zcy (bpaC (bv 1) zab)) (bpaC (zau zhq (bpeB (zcc (K:=K) rfl) T.len zcy (bpaC (bv 1) zab)) zaf) (bpaC (zau zhq (bpeB (zcc (K:=K) rfl) T.len zcy (bpaC (bv 1) zab)) zaf) zab))))) (bv 3)) (zaq (by rfl))) (bpaC (bv 4) zab)))))
 (zad (bpsS (i:=7) zct rfl (Or.inl rfl) (zbp zab))
 (zad (zed qv rfl (zbl (K:=K) rfl (bv 6)) (bpgN (i:=8) zct rfl (Or.inl rfl))
  (zad (bpsS (i:=9) zct rfl (Or.inl rfl) (zbp zab))
 (zad (zed qv rfl (zdu rfl T.range (bpaC (bv 3) zab) (by rfl)) (bpgN (i:=10) zct rfl (Or.inl rfl))
  (zad (zch (zbj (K:=K) rfl qM qT qS zbz (bv 9) (bpaC (bpeX (zcb (K:=K) rfl) (bv 1) (zau zhw (bv 8) (bpeB (zcc (K:=K) rfl) T.len zcy (bpaC (bv 1) zab)))) zab) (by rfl) (by rfl) (by rfl) (zaq (by rfl)) (by rfl)) (by rfl))
 (zam (bpsS (i:=8) zct rfl (Or.inl rfl) (zau zmp (bv 8) (bpeB (zcc (K:=K) rfl) T.len zcy (bpaC (bv 1) zab)))))) (by intro _;rfl))
 (zad (bpsS (i:=11) zct rfl (Or.inl rfl) (bpeD D_law_word hr (bpaC (bv 0) (bpaC (zdd (zbw (N':=["_law_rule"]) (own:=["_law_rule"]) (fr:=[]) (by kernel_rfl)) rfl (zbl (K:=K) rfl (bv 7)) ?hb1 (by intro _;rfl)) zab))))
 (zam (zch (zbj (K:=K) rfl qM qT qS zbz (bv 7) (bpaC (zdq (bpaC (bv 11) (bpaC (bpeT (zup (K:=K) rfl) T.tuple zxm (bpaC (bv 9) zab)) (bpaC (zdd (zbw (N':=["_law_k","_law_pen_here","_law_names","_law_heads","_law_places"]) (own:=["_law_k"]) (fr:=[0,1,2,3]) (by kernel_rfl)) rfl (zdu rfl T.range (bpaC (bv 5) zab) (by rfl)) ?hb2 (by intro _;rfl)) zab)))) zab) (by rfl) (by rfl) (by rfl) (zaq (by rfl)) (by rfl)) (by rfl)))))) (by intro _;rfl))
 (zam (zbf (bv 7))))))
  case hb1=>(intro cl C s H fp;refine'⟨Bx.out (bpgN (i:=0) zok rfl (Or.inl rfl)),Bx.out zdj,Bx.out (bpeX (zcb (K:=K) rfl) (bv 0) zaf)⟩)
  case hb2=>(intro cl C s H fp;refine'⟨Bx.out (bpgN (i:=0) zol rfl (Or.inl rfl)),Bx.out zdj,Bx.out (bpeD D_law_step hr (bpaC (bv 1) (bpaC (bv 2) (bpaC (bv 3) (bpaC (bv 4) zab)))))⟩)
 exact fn_r (by decide) (F:=zja) ((zan (zbb (zao (zaj (zac (zafw (zbc zly (zdl (zah (se_c λ_=>zaa) (zah (zeh ziq (zah (zae 1) zat)) (zah (zbc zhr (zeh ziq (zah (zae 1) zat)) (se_c λ_=>zaa)) (zah (zbc zhr (zeh ziq (zah (zae 1) zat)) (se_c λ_=>zaa)) zat))))) (zae 3)))) (zaj (zac (zae 4)) zav))) (by decide)) (zan (zbb (zac (zdl zat)) (by decide)) (zan (zgk (zdv (zdc (zae 6))) (zfz (by decide)) (zev (by decide)) (zan (zbb (zac (zdl zat)) (by decide)) (zan (zgk (zdv (zet (zah (zae 3) zat))) (zfz (by decide)) (zev (by decide)) (zan (zho (zac (zcp (zbc zin (zae 8) (zeh ziq (zah (zae 1) zat)))))) (zbb (zac (zbc zmw (zae 8) (zeh ziq (zah (zae 1) zat)))) (by decide)))) (zan (zbb (zao (zaj (zac (zei (zdc (zae 7)) zfi (zfj (by decide)) zfd (zcp (se_c λ_=>zaa)))) zav)) (by decide)) (zho (zih (zaj (zac (zae 11)) (zaj (zac (zeh zabs (zah (zae 9) zat))) (zaj (zaci (kk:=0) (by rfl) (zdv (zet (zah (zae 5) zat))) (zfz (by decide)) (zfj (by decide)) zfd (zao (zaj (zac (zae 2)) (zaj (zac (zae 3)) (zaj (zac (zae 4)) zav))))) zav))))))))) (zso zko))))) h
theorem zpn{f:Addr}{fd:qw}(F:Fun K "_law_program" "_law_program" zdy f fd)(T:Txt mg)(D_law_rules:zou P w K mg base)(D_law_take:zea P w K mg base)(D_law_web:ztl P w K mg base)(D_law_word:zic P w K mg base):FnOk P w K mg base CX0 5 f fd ["_law_pen_here","_law_kinds","_law_deeds","_law_rules_here","_law_steps"] (spR (zgd K) 5 zdw):=by
 refine F.ok zpl (λvs H Q E h=>zhp h) (λcdv A outer s H vs Q E hr h=>?_)
 have hu:=zhk hr
 apply Exists.intro
 apply And.intro
 ·refine' Bx.out (zad (bpsS (i:=5) zbu rfl (Or.inl rfl) (bpeD D_law_web hr (bpaC (bv 0) (bpaC (bv 1) zab))))
 (zad (zkm (i:=6) (zbw (N':=["_law_name","_law_elders"]) (own:=["_law_name","_law_elders"]) (fr:=[]) (by kernel_rfl)) rfl (zbl (K:=K) rfl (bv 5)) ?hb1 (by rfl) zbu rfl rfl (by intro _;rfl))
 (zad (bpsS (i:=7) zbu rfl (Or.inl rfl) (zbp zab))
 (zad (zed qv rfl (zdu rfl T.range (bpaC (bv 2) zab) (by rfl)) (bpgN (i:=8) zbu rfl (Or.inl rfl))
  (zad (bpsS (i:=9) zbu rfl (Or.inl rfl) (bpeB (zry rfl) T.min zwh (bpaC (zau (zba (K:=K) rfl) zaf (bpeD D_law_take hr (bpaC (bv 0) (bpaC zaf zab)))) (bpaC (zau (zba (K:=K) rfl) zaf (bpeT zki T.int zml (bpaC (zig zaaz (bv 1) zaf (zco _)) zab))) zab))))
 (zam (zch (zbj (K:=K) rfl qM qT qS zbz (bv 7) (bpaC (zdq (bpaC (bpeD D_law_word hr (bpaC (bv 0) (bpaC (zdd (zbw (N':=["_law_head"]) (own:=["_law_head"]) (fr:=[]) (by kernel_rfl)) rfl (zbl (K:=K) rfl (bv 7)) ?hb2 (by intro _;rfl)) zab))) (bpaC (bv 9) zab))) zab) (by rfl) (by rfl) (by rfl) (zaq (by rfl)) (by rfl)) (by rfl)))) (by intro _;rfl))
 (zad (bpsS (i:=10) zbu rfl (Or.inl rfl) (zbp zab))
 (zad (zed qv rfl (zbl (K:=K) rfl (bv 7)) (zcn (K:=K) (n:=2) rfl rfl (zaw (bpgN (i:=11) zbu rfl (Or.inl rfl)) (zaw (bpgN (i:=9) zbu rfl (Or.inl rfl)) zcm (by rfl)) (by rfl)) (by rfl) (by rfl))
  (zam (zch (zbj (K:=K) rfl qM qT qS zbz (bv 10) (bpaC (zdq (bpaC (bv 11) (bpaC (bv 9) (bpaC (bpeD D_law_rules hr (bpaC (bv 0) (bpaC (bv 6) (bpaC (bv 7) (bpaC (bv 9) (bpaC (bv 3) (bpaC (bv 4) zab))))))) zab)))) zab) (by rfl) (by rfl) (by rfl) (zaq (by rfl)) (by rfl)) (by rfl))) (by intro _;rfl))
 (zam (zbf (zdq (bpaC (bv 5) (bpaC (bv 10) zab)))))))))))
  case hb1=>(intro cl C s H fp;refine'⟨Bx.out (zcn (K:=K) (n:=2) rfl rfl (zaw (bpgN (i:=0) zia rfl (Or.inl rfl)) (zaw (bpgN (i:=1) zia rfl (Or.inl rfl)) zcm (by rfl)) (by rfl)) (by rfl) (by rfl)),Bx.out zdj,Bx.out (bv 0)⟩)
  case hb2=>(intro cl C s H fp;refine'⟨Bx.out (bpgN (i:=0) zlm rfl (Or.inl rfl)),Bx.out zdj,Bx.out (bpeX (zcb (K:=K) rfl) (bv 0) zaf)⟩)
 exact fn_r (by decide) (F:=zku) ((zan (zbb (zao (zaj (zac (zae 1)) zav)) (by decide)) (zan (zbb (zac (zei (zdc (zae 5)) (ziv (zbh (zbh zgz))) (zzc (zif (by decide) (zif (by decide) zuo))) zfd (zae 0))) (by decide)) (zan (zbb (zac (zdl zat)) (by decide)) (zan (zgk (zdv (zet (zah (zae 2) zat))) (zfz (by decide)) (zev (by decide)) (zan (zbb (zair zadi (zaj (zcq zbm (zac (se_c λ_=>zaa)) (zao (zaj (zac (se_c λ_=>zaa)) zav))) (zaj (zac (zbc zbm (se_c λ_=>zaa) (zeh zre (zah (zbc zabq (zae 1) (se_c λ_=>zaa)) zat)))) zav))) (by decide)) (zho (zih (zaj (zao (zaj (zac (zei (zdc (zae 7)) zfi (zfj (by decide)) zfd (zcp (se_c λ_=>zaa)))) zav)) (zaj (zac (zae 9)) zav)))))) (zan (zbb (zac (zdl zat)) (by decide)) (zan (zgk (zdv (zdc (zae 7))) (zni (zde (by decide) (zde (by decide) zkn))) (zkp (zdf (by decide) (zdf (by decide) zkq))) (zho (zih (zaj (zac (zae 11)) (zaj (zac (zae 9)) (zaj (zao (zaj (zac (zae 6)) (zaj (zac (zae 7)) (zaj (zac (zae 9)) (zaj (zac (zae 3)) (zaj (zac (zae 4)) zav)))))) zav)))))) (zee (zac (zmx (zah (zae 5) (zah (zae 10) zat)))))))))))) h
theorem zmg {f:Addr} {fd:qw} (F:Fun K "_law_pick_text" "_law_pick_text" zcr f fd) (T:Txt mg)  : FnOk P w K mg base CX0 1 f fd ["_law_pick"] (spD 1 zds):=by
 refine F.ok zmb (λvs H Q E h=>zhn h) (λcdv A outer s H vs Q E hr h=>?_)
 have hu:=zhk hr
 apply Exists.intro
 apply And.intro
 ·refine' Bx.out (zad (zec (zbq (zhc (K:=K) rfl hr.units) (bpeX (zcb (K:=K) rfl) (bv 0) zaf) zay (zco _)) (zam (zbf (bpeT ziy T.str zjr (bpaC (bpeX (zcb (K:=K) rfl) (bv 0) zaf) zab)))) zbt)
 (zam (zbf (zau (zba (K:=K) rfl) (zau (zba (K:=K) rfl) (bpeX (zcb (K:=K) rfl) (bv 0) zaf) zay) (bpeT ziy T.str zjr (bpaC (bpeX (zcb (K:=K) rfl) (bv 0) zaf) zab))))))
 exact fn_d (f:=zjb) ((zdo (zum (st_t (zbc zka (zcp (se_c λ_=>zaa)) (se_c λ_=>zal))) (zgy (zeh znl (zah (zcp (se_c λ_=>zaa)) zat))) zmz) (zgy (zbc zbm (zbc zbm (zcp (se_c λ_=>zaa)) (se_c λ_=>zal)) (zeh znl (zah (zcp (se_c λ_=>zaa)) zat)))))) h
theorem zmh{f:Addr}{fd:qw}(F:Fun K "_law_step_text" "_law_step_text" zcs f fd)(T:Txt mg)(D_law_pick_text:zjj P w K mg base):FnOk P w K mg base CX0 2 f fd ["_law_step_here"] (spD 1 zcd):=by
 refine F.ok zmd (λvs H Q E h=>zhn h) (λcdv A outer s H vs Q E hr h=>?_)
 have hu:=zhk hr
 apply Exists.intro
 apply And.intro
 ·refine' Bx.out (zad (zec (zbq (zhc (K:=K) rfl hr.units) (bpeX (zcb (K:=K) rfl) (bv 0) zaf) zay (zco _)) (zam (zbf (zau (zba (K:=K) rfl) (zau (zba (K:=K) rfl) zay (bpeX (zcb (K:=K) rfl) (bv 0) zaf)) (zbj (K:=K) rfl qY qj qi (zdm (sep:="")) zay (bpaC (zdd (zbw (N':=["_law_pick"]) (own:=["_law_pick"]) (fr:=[]) (by kernel_rfl)) rfl (zbl (K:=K) rfl (bpeX (zcb (K:=K) rfl) (bv 0) zaf)) ?hb1 (by intro _;rfl)) zab) (by rfl) (by rfl) (by rfl) (zaq (by rfl)) (by rfl))))) zbt)
 (zad (zec (zbq (zhc (K:=K) rfl hr.units) (bpeX (zcb (K:=K) rfl) (bv 0) zaf) zay (zco _)) (zam (zbf zay)) zbt)
 (zam (zbf (zau (zba (K:=K) rfl) (zau (zba (K:=K) rfl) (bpeX (zcb (K:=K) rfl) (bv 0) zaf) zay) (bpeT ziy T.str zjr (bpaC (bpeX (zcb (K:=K) rfl) (bv 0) zaf) zab)))))))
  case hb1=>(intro cl C s H fp;refine'⟨Bx.out (bpgN (i:=0) zkf rfl (Or.inl rfl)),Bx.out zdj,Bx.out (zau (zba (K:=K) rfl) zay (bpeD D_law_pick_text hr (bpaC (bv 0) zab)))⟩)
 exact fn_d (f:=zjc) ((zdo (zum (st_t (zbc zka (zcp (se_c λ_=>zaa)) (se_c λ_=>zal))) (zgy (zbc zbm (zbc zbm (se_c λ_=>zal) (zcp (se_c λ_=>zaa))) (zdn (zei (zdc (zcp (se_c λ_=>zaa))) zfi (zfj (by decide)) zfd (zbc zbm (se_c λ_=>zal) (zgj (zah (zae 0) zat))))))) zmz) (zdo (zum (st_t (zbc zka (zcp (se_c λ_=>zaa)) (se_c λ_=>zal))) (zgy (se_c λ_=>zal)) zmz) (zgy (zbc zbm (zbc zbm (zcp (se_c λ_=>zaa)) (se_c λ_=>zal)) (zeh znl (zah (zcp (se_c λ_=>zaa)) zat))))))) h
theorem ztr{f:Addr}{fd:qw}(F:Fun K "_law_lines" "_law_lines" zft f fd)(T:Txt mg)(D_law_step_text:zjk P w K mg base):FnOk P w K mg base CX0 3 f fd ["_law_web_here","_law_deeds"] (spD 2 zhh):=by
 refine F.ok zth (λvs H Q E h=>zhn h) (λcdv A outer s H vs Q E hr h=>?_)
 have hu:=zhk hr
 apply Exists.intro
 apply And.intro
 ·refine' Bx.out (zad (bpsS (i:=2) zbi rfl (Or.inl rfl) (zbp zab))
 (zad (zed qv rfl (zbl (K:=K) rfl (bv 0)) (zcn (K:=K) (n:=2) rfl rfl (zaw (bpgN (i:=3) zbi rfl (Or.inl rfl)) (zaw (bpgN (i:=4) zbi rfl (Or.inl rfl)) zcm (by rfl)) (by rfl)) (by rfl) (by rfl))
  (zam (zch (zbj (K:=K) rfl qM qT qS zbz (bv 2) (bpaC (zau (zba (K:=K) rfl) (zau (zba (K:=K) rfl) (zau (zba (K:=K) rfl) zay (bv 3)) (zau zgi zay (bpeT zki T.int zml (bpaC (zig (zadj (K:=K) rfl hr.units) (bv 4) (zbp zab) (zco _)) zab)))) (zbj (K:=K) rfl qY qj qi (zdm (sep:="")) zay (bpaC (zdd (zbw (N':=["_law_elder"]) (own:=["_law_elder"]) (fr:=[]) (by kernel_rfl)) rfl (zbl (K:=K) rfl (bv 4)) ?hb1 (by intro _;rfl)) zab) (by rfl) (by rfl) (by rfl) (zaq (by rfl)) (by rfl))) zab) (by rfl) (by rfl) (by rfl) (zaq (by rfl)) (by rfl)) (by rfl))) (by intro _;rfl))
 (zad (zed qv rfl (zbl (K:=K) rfl (bv 1)) (zcn (K:=K) (n:=3) rfl rfl (zaw (bpgN (i:=3) zbi rfl (Or.inl rfl)) (zaw (bpgN (i:=5) zbi rfl (Or.inl rfl)) (zaw (bpgN (i:=6) zbi rfl (Or.inl rfl)) zcm (by rfl)) (by rfl)) (by rfl)) (by rfl) (by rfl))
  (zam (zch (zbj (K:=K) rfl qM qT qS zbz (bv 2) (bpaC (zau (zba (K:=K) rfl) (zau (zba (K:=K) rfl) (zau (zba (K:=K) rfl) zay (bv 3)) zay) (bpeX (zcb (K:=K) rfl) zay (zau zadc (bv 5) zaf))) zab) (by rfl) (by rfl) (by rfl) (zaq (by rfl)) (by rfl)) (by rfl))) (by intro _;rfl))
 (zad (zed qv rfl (zbl (K:=K) rfl (bv 1)) (zcn (K:=K) (n:=3) rfl rfl (zaw (bpgN (i:=3) zbi rfl (Or.inl rfl)) (zaw (bpgN (i:=5) zbi rfl (Or.inl rfl)) (zaw (bpgN (i:=6) zbi rfl (Or.inl rfl)) zcm (by rfl)) (by rfl)) (by rfl)) (by rfl) (by rfl))
  (zam (zed qv rfl (zbl (K:=K) rfl (bv 6)) (zcn (K:=K) (n:=3) rfl rfl (zaw (bpgN (i:=7) zbi rfl (Or.inl rfl)) (zaw (bpgN (i:=8) zbi rfl (Or.inl rfl)) (zaw (bpgN (i:=9) zbi rfl (Or.inl rfl)) zcm (by rfl)) (by rfl)) (by rfl)) (by rfl) (by rfl))
  (zad (bpsS (i:=10) zbi rfl (Or.inl rfl) (zau (zba (K:=K) rfl) (zau (zba (K:=K) rfl) (zau (zba (K:=K) rfl) (zau (zba (K:=K) rfl) zay (bv 3)) zay) (bv 7)) (zbj (K:=K) rfl qY qj qi (zdm (sep:="")) zay (bpaC (zdd (zbw (N':=["_law_kind"]) (own:=["_law_kind"]) (fr:=[]) (by kernel_rfl)) rfl (zbl (K:=K) rfl (bv 8)) ?hb2 (by intro _;rfl)) zab) (by rfl) (by rfl) (by rfl) (zaq (by rfl)) (by rfl))))
 (zad (zkm (i:=11) (zbw (N':=["_law_step_here"]) (own:=["_law_step_here"]) (fr:=[]) (by kernel_rfl)) rfl (zbl (K:=K) rfl (bv 9)) ?hb3 (by rfl) zbi rfl rfl (by intro _;rfl))
 (zam (zch (zbj (K:=K) rfl qM qT qS zbz (bv 2) (bpaC (zau (zba (K:=K) rfl) (zau (zba (K:=K) rfl) (bv 10) (zau zgi zay (bpeT zki T.int zml (bpaC (zig (zadj (K:=K) rfl hr.units) (bv 9) (zbp zab) (zco _)) zab)))) (zbj (K:=K) rfl qY qj qi (zdm (sep:=", ")) zay (bpaC (bv 11) zab) (by rfl) (by rfl) (by rfl) (zaq (by rfl)) (by rfl))) zab) (by rfl) (by rfl) (by rfl) (zaq (by rfl)) (by rfl)) (by rfl))))) (by intro _;rfl))) (by intro _;rfl))
 (zam (zbf (bv 2)))))))
  case hb1=>(intro cl C s H fp;refine'⟨Bx.out (bpgN (i:=0) zom rfl (Or.inl rfl)),Bx.out zdj,Bx.out (zau (zba (K:=K) rfl) zay (bv 0))⟩)
  case hb2=>(intro cl C s H fp;refine'⟨Bx.out (bpgN (i:=0) zon rfl (Or.inl rfl)),Bx.out zdj,Bx.out (zau (zba (K:=K) rfl) zay (bv 0))⟩)
  case hb3=>(intro cl C s H fp;refine'⟨Bx.out (bpgN (i:=0) zoo rfl (Or.inl rfl)),Bx.out zdj,Bx.out (bpeD D_law_step_text hr (bpaC (bv 0) zab))⟩)
 exact fn_d (f:=znx) ((zdo (zlo (zdl zat)) (zdo (zvw (zdc (zae 0)) (ziv (zbh (zbh zgz))) (zzb (zbc zbm (zbc zbm (zbc zbm (se_c λ_=>zal) (zae 3)) (zbc zio (se_c λ_=>zal) (zeh zre (zah (zbc zaih (zae 4) (zdl zat)) zat)))) (zdn (zei (zdc (zae 4)) zfi (zfj (by decide)) zfd (zbc zbm (se_c λ_=>zal) (zae 0))))))) (zdo (zvw (zdc (zae 1)) (ziv (zbh (zbh (zbh zgz)))) (zzb (zbc zbm (zbc zbm (zbc zbm (se_c λ_=>zal) (zae 3)) (se_c λ_=>zal)) (zbc zly (se_c λ_=>zal) (zbc zadg (zae 5) (se_c λ_=>zaa)))))) (zdo (zvw (zdc (zae 1)) (ziv (zbh (zbh (zbh zgz)))) (zvw (zdc (zae 6)) (ziv (zbh (zbh (zbh zgz)))) (zdo (zlo (zbc zbm (zbc zbm (zbc zbm (zbc zbm (se_c λ_=>zal) (zae 3)) (se_c λ_=>zal)) (zae 7)) (zdn (zei (zdc (zae 8)) zfi (zfj (by decide)) zfd (zbc zbm (se_c λ_=>zal) (zae 0)))))) (zdo (zlo (zei (zdc (zae 9)) zfi (zfj (by decide)) zfd (zgj (zah (zae 0) zat)))) (zzb (zbc zbm (zbc zbm (zae 10) (zbc zio (se_c λ_=>zal) (zeh zre (zah (zbc zaih (zae 9) (zdl zat)) zat)))) (zdn (zae 11)))))))) zul))))) h
theorem zts{f:Addr}{fd:qw}(F:Fun K "_law_sized" "_law_sized" zfu f fd)(T:Txt mg)(D_law_program:zky P w K mg base)(D_law_take:zea P w K mg base):FnOk P w K mg base CX0 6 f fd ["_law_pen_here"] (spR (zgd K) 1 zij):=by
 refine F.ok zti (λvs H Q E h=>zhp h) (λcdv A outer s H vs Q E hr h=>?_)
 have hu:=zhk hr
 apply Exists.intro
 apply And.intro
 ·refine' Bx.out (zad (zec (zbq (zhc (K:=K) rfl hr.units) (bpeD D_law_take hr (bpaC (bv 0) (bpaC zaf zab))) zaf (zco _)) (zad (bpsS (i:=1) zjh rfl (Or.inl rfl) (bpeX (zcb (K:=K) rfl) (zbp (bpaC zaf (bpaC zaf zab))) (bpeD D_law_take hr (bpaC (bv 0) (bpaC zaf zab)))))
 (zam (zbf (bpeD D_law_program hr (bpaC (bv 0) (bpaC (bv 1) (bpaC zaf (bpaC zaf (bpaC (bpeX (zcb (K:=K) rfl) (zbp (bpaC zaf (bpaC zaf zab))) (bpeD D_law_take hr (bpaC (bv 0) (bpaC zaf zab)))) zab))))))))) zbt)
 (zad (bpsS (i:=1) zjh rfl (Or.inl rfl) (zau (zba (K:=K) rfl) zaf (bpeD D_law_take hr (bpaC (bv 0) (bpaC zaf zab)))))
 (zam (zbf (bpeD D_law_program hr (bpaC (bv 0) (bpaC (bv 1) (bpaC (bpeD D_law_take hr (bpaC (bv 0) (bpaC zaf zab))) (bpaC (bpeD D_law_take hr (bpaC (bv 0) (bpaC zaf zab))) (bpaC (bpeD D_law_take hr (bpaC (bv 0) (bpaC zaf zab))) zab))))))))))
 exact fn_r (by decide) (F:=zny) ((zan (zhd (zuv (zcq zka (zao (zaj (zac (se_c λ_=>zaa)) zav)) (zac (se_c λ_=>zaa)))) (zan (zbb (zcq zly (zac (zdl (zah (se_c λ_=>zaa) (zah (se_c λ_=>zaa) zat)))) (zao (zaj (zac (se_c λ_=>zaa)) zav))) (by decide)) (zee (zao (zaj (zac (zae 1)) (zaj (zac (se_c λ_=>zaa)) (zaj (zac (se_c λ_=>zaa)) (zaj (zcq zly (zac (zdl (zah (se_c λ_=>zaa) (zah (se_c λ_=>zaa) zat)))) (zao (zaj (zac (se_c λ_=>zaa)) zav))) zav))))))) zeu) (zan (zbb (zcq zbm (zac (se_c λ_=>zaa)) (zao (zaj (zac (se_c λ_=>zaa)) zav))) (by decide)) (zee (zao (zaj (zac (zae 1)) (zaj (zao (zaj (zac (se_c λ_=>zaa)) zav)) (zaj (zao (zaj (zac (se_c λ_=>zaa)) zav)) (zaj (zao (zaj (zac (se_c λ_=>zaa)) zav)) zav))))))))) h
theorem zpo{f:Addr}{fd:qw}(F:Fun K "_law_changed" "_law_changed" zdz f fd)(T:Txt mg)(D_law_figure:zji P w K mg base)(D_law_some:zjs P w K mg base)(D_law_take:zea P w K mg base)(D_law_word:zic P w K mg base):FnOk P w K mg base CX0 3 f fd ["_law_pen_here","_law_made"] (spR (zgd K) 2 zgq):=by
 refine F.ok zpm (λvs H Q E h=>zhp h) (λcdv A outer s H vs Q E hr h=>?_)
 have hu:=zhk hr
 apply Exists.intro
 apply And.intro
 ·refine' Bx.out (zad (znh (bv 1) (zcn (K:=K) (n:=2) rfl rfl (zaw (bpgN (i:=2) zbe rfl (Or.inl rfl)) (zaw (bpgN (i:=3) zbe rfl (Or.inl rfl)) zcm (by rfl)) (by rfl)) (by rfl) (by rfl)) (by rfl) (by rfl) (by rfl))
 (zad (zkm (i:=4) (zbw (N':=["_law_name","_law_elders"]) (own:=["_law_name","_law_elders"]) (fr:=[]) (by kernel_rfl)) rfl (zbl (K:=K) rfl (bv 2)) ?hb1 (by rfl) zbe rfl rfl (by intro _;rfl))
 (zad (zec (zbq zaaz (bpeB (zcc (K:=K) rfl) T.len zcy (bpaC (bv 2) zab)) zaf (zco _)) (zam (bpsS (i:=2) zbe rfl (Or.inl rfl) (zau (zba (K:=K) rfl) (bv 2) (zbp (bpaC (zdq (bpaC (bpeD D_law_word hr (bpaC (bv 0) (bpaC (bv 4) zab))) (bpaC (bpeD D_law_some hr (bpaC (bv 0) (bpaC (bv 4) (bpaC (bpeD D_law_take hr (bpaC (bv 0) (bpaC zaf zab))) zab)))) zab))) zab))))) zbt)
 (zad (bpsS (i:=5) zbe rfl (Or.inl rfl) (zbp zab))
 (zad (zed qv rfl (zbl (K:=K) rfl (bv 3)) (zcn (K:=K) (n:=3) rfl rfl (zaw (bpgN (i:=6) zbe rfl (Or.inl rfl)) (zaw (bpgN (i:=7) zbe rfl (Or.inl rfl)) (zaw (bpgN (i:=8) zbe rfl (Or.inl rfl)) zcm (by rfl)) (by rfl)) (by rfl)) (by rfl) (by rfl))
  (zad (bpsS (i:=9) zbe rfl (Or.inl rfl) (zbp zab))
 (zad (zed qv rfl (zbl (K:=K) rfl (bv 8)) (zcn (K:=K) (n:=3) rfl rfl (zaw (bpgN (i:=10) zbe rfl (Or.inl rfl)) (zaw (bpgN (i:=11) zbe rfl (Or.inl rfl)) (zaw (bpgN (i:=12) zbe rfl (Or.inl rfl)) zcm (by rfl)) (by rfl)) (by rfl)) (by rfl) (by rfl))
  (zad (zec (zbq (zhc (K:=K) rfl hr.units) (bpeD D_law_take hr (bpaC (bv 0) (bpaC zaf zab))) zaf (zco _)) (zam (bpsS (i:=12) zbe rfl (Or.inl rfl) (zau (zba (K:=K) rfl) (zbp (bpaC (zdq (bpaC zay (bpaC (bpeD D_law_figure hr (bpaC (bv 0) zab)) zab))) zab)) (znf (zaet (K:=K) rfl) (bv 12) (zra zaf) zrb)))) zbt)
 (zam (zch (zbj (K:=K) rfl qM qT qS zbz (bv 9) (bpaC (zdq (bpaC (bv 10) (bpaC (bv 11) (bpaC (bv 12) zab)))) zab) (by rfl) (by rfl) (by rfl) (zaq (by rfl)) (by rfl)) (by rfl)))) (by intro _;rfl))
 (zam (zch (zbj (K:=K) rfl qM qT qS zbz (bv 5) (bpaC (zdq (bpaC (bv 6) (bpaC (bv 7) (bpaC (bv 9) zab)))) zab) (by rfl) (by rfl) (by rfl) (zaq (by rfl)) (by rfl)) (by rfl))))) (by intro _;rfl))
 (zam (zbf (zdq (bpaC (bv 2) (bpaC (bv 5) zab))))))))))
  case hb1=>(intro cl C s H fp;refine'⟨Bx.out (zcn (K:=K) (n:=2) rfl rfl (zaw (bpgN (i:=0) zib rfl (Or.inl rfl)) (zaw (bpgN (i:=1) zib rfl (Or.inl rfl)) zcm (by rfl)) (by rfl)) (by rfl) (by rfl)),Bx.out zdj,Bx.out (bv 0)⟩)
 exact fn_r (by decide) (F:=zkv) ((zan (zzy (zac (zae 1)) (zni (zde (by decide) (zde (by decide) zkn))) (zkp (zdf (by decide) (zdf (by decide) zkq)))) (zan (zbb (zac (zei (zdc (zae 2)) (ziv (zbh (zbh zgz))) (zzc (zif (by decide) (zif (by decide) zuo))) zfd (zae 0))) (by decide)) (zan (zhd (zga (st_t (zbc zabq (zeh ziq (zah (zae 2) zat)) (se_c λ_=>zaa)))) (zbb (zcq zbm (zac (zae 2)) (zuu (zaj (zih (zaj (zao (zaj (zac (zae 4)) zav)) (zaj (zao (zaj (zac (zae 4)) (zaj (zao (zaj (zac (se_c λ_=>zaa)) zav)) zav))) zav))) zav))) (by decide)) zeu) (zan (zbb (zac (zdl zat)) (by decide)) (zan (zgk (zdv (zdc (zae 3))) (zni (zde (by decide) (zde (by decide) (zde (by decide) zkn)))) (zkp (zdf (by decide) (zdf (by decide) (zdf (by decide) zkq)))) (zan (zbb (zac (zdl zat)) (by decide)) (zan (zgk (zdv (zdc (zae 8))) (zni (zde (by decide) (zde (by decide) (zde (by decide) zkn)))) (zkp (zdf (by decide) (zdf (by decide) (zdf (by decide) zkq)))) (zan (zhd (zuv (zcq zka (zao (zaj (zac (se_c λ_=>zaa)) zav)) (zac (se_c λ_=>zaa)))) (zbb (zcq zbm (zuu (zaj (zih (zaj (zac (se_c λ_=>zal)) (zaj (zao zav) zav))) zav)) (zac (zafb (zae 12) (zuj (se_c λ_=>zaa)) zui))) (by decide)) zeu) (zho (zac (zmx (zah (zae 10) (zah (zae 11) (zah (zae 12) zat)))))))) (zho (zac (zmx (zah (zae 6) (zah (zae 7) (zah (zae 9) zat))))))))) (zee (zac (zmx (zah (zae 2) (zah (zae 5) zat))))))))))) h
theorem ztt{f:Addr}{fd:qw}(F:Fun K "_law_right" "_law_right" zfv f fd)(T:Txt mg)(D_law_lines:zov P w K mg base)(D_shown:zaae P w K mg base)(D_shown_kw0:DnK P w K mg base "shown" ["program"] ["program"] [0] 4 (spD 1 zii)):FnOk P w K mg base CX0 5 f fd ["_law_made"] (spD 1 zbx):=by
 refine F.ok ztj (λvs H Q E h=>zhn h) (λcdv A outer s H vs Q E hr h=>?_)
 have hu:=zhk hr
 apply Exists.intro
 apply And.intro
 ·refine' Bx.out (zad (bpsS (i:=1) zhm rfl (Or.inl rfl) (bpeB (zsq (K:=K) rfl hr) T.repr zsx (bpaC (bv 0) zab)))
 (zad (bpsS (i:=2) zhm rfl (Or.inl rfl) (zbj (K:=K) rfl qY qj qi (zdm (sep:="")) zay (bpaC (zdd (zbw (N':=["_law_line"]) (own:=["_law_line"]) (fr:=[]) (by kernel_rfl)) rfl (zbl (K:=K) rfl (bpeD D_law_lines hr (bpaC (bpeX (zcb (K:=K) rfl) (bv 0) zaf) (bpaC (bpeX (zcb (K:=K) rfl) (bv 0) zaf) zab)))) ?hb1 (by intro _;rfl)) zab) (by rfl) (by rfl) (by rfl) (zaq (by rfl)) (by rfl)))
 (zad (bpsS (i:=3) zhm rfl (Or.inl rfl) (zafj D_shown_kw0 (hr.mono (by decide)) (by rfl) (zacf (bv 0) zafi) (by rfl) (by rfl) (by decide) (by rfl)))
 (zam (zbf (zng (bpeB (zyn (K:=K) rfl) T.isinstance znz (bpaC (bv 3) (bpaC (zace (v:=.ty "str") (by rfl) T.str zjr rfl (by decide) (by decide)) zab))) (zng (zig (zhc (K:=K) rfl hr.units) (bv 3) (bv 2) (zco _)) (zng (zig (zhc (K:=K) rfl hr.units) (bpeD D_shown hr (bpaC (bv 0) zab)) (bv 2) (zco _)) (zzi (zig (zhc (K:=K) rfl hr.units) (bpeB (zsq (K:=K) rfl hr) T.repr zsx (bpaC (bv 0) zab)) (bv 1) (zco _)))))))))))
  case hb1=>(intro cl C s H fp;refine'⟨Bx.out (bpgN (i:=0) zop rfl (Or.inl rfl)),Bx.out zdj,Bx.out (zau (zba (K:=K) rfl) (bv 0) zay)⟩)
 exact fn_d (f:=zjd) ((zdo (zlo (zeh zzt (zah (zae 0) zat))) (zdo (zlo (zdn (zei (zdc (zgj (zah (zcp (se_c λ_=>zaa)) (zah (zcp (se_c λ_=>zaa)) zat)))) zfi (zfj (by decide)) zfd (zbc zbm (zae 0) (se_c λ_=>zal))))) (zdo (zlo (zabw (zah (zae 0) zat))) (zgy (zyw (zaik (zae 3) zafa) (zyw (zbc zka (zae 3) (zae 2)) (zyw (zbc zka (zgj (zah (zae 0) zat)) (zae 2)) (zbc zka (zeh zzt (zah (zae 0) zat)) (zae 1)))))))))) h
end
theorem zgl{w:OF}{a b:EF}{env:DEnv}{x y:Val}{d:PyData}{fr:Bool}(h1:a env=some x)(h2:b env=some y)(h3:w x.d y.d=some (d,fr)):eOp w a b env=some ⟨d,fr,bsOf d (x.bs++y.bs)⟩:=by
 unfold eOp;rw[h1,h2];show((w x.d y.d).bind _)=_;rw[h3];rfl
structure PB(n:Nat)(st:Pen3):Prop where
 lo:0<=st.at_
 hi:st.at_+n<=1000000
theorem PB.mono{n m:Nat}{st:Pen3}(h:PB m st)(l:n<=m):PB n st:=⟨h.lo,by have:=h.hi;omega⟩
noncomputable def Dr(c:Nat)(g:EFr Pen3)(env:DEnv)(P:Val->Prop):Prop:=∀n st,PB (n+c) st->∃r s,g env st=some (r,s)/\P r/\PB n s
noncomputable def DrA(c:Nat)(g:AFr Pen3)(env:DEnv)(P:List Val->Prop):Prop:=∀n st,PB (n+c) st->∃r s,g env st=some (r,s)/\P r/\PB n s
noncomputable def DrT(c:Nat)(g:TFr Pen3)(env:DEnv)(P:Bool->Prop):Prop:=∀n st,PB (n+c) st->∃r s,g env st=some (r,s)/\P r/\PB n s
noncomputable def DrG(c:Nat)(g:GR Pen3)(ds:List PyData)(P:PyData->Bool->Prop):Prop:=∀n st,PB (n+c) st->∃d fr s,g ds st=some (d,fr,s)/\P d fr/\PB n s
noncomputable def DrS(c:Nat)(F:SFr Pen3)(env:DEnv)(N:DEnv->Prop)(R:PyData->Bool->Prop):Prop:=∀n st,PB (n+c) st->(∃e s,F env st=some (.nx e s)/\N e/\PB n s)\/∃d fr s,F env st=some (.rt d fr s)/\R d fr/\PB n s
section
variable{c c1 c2:Nat}{env:DEnv}{P:Val->Prop}{N:DEnv->Prop}{R:PyData->Bool->Prop}
theorem Dr.mono{g:EFr Pen3}(h:Dr c1 g env P)(l:c1<=c):Dr c g env P:=λn st hb=>let⟨r,s,e,p,b⟩:=h (n+(c - c1)) st (hb.mono (by omega));⟨r,s,e,p,b.mono (by omega)⟩
theorem Dr.imp{g:EFr Pen3}{Q:Val->Prop}(h:Dr c g env P)(i:∀r,P r->Q r):Dr c g env Q:=λn st hb=>let⟨r,s,e,p,b⟩:=h n st hb;⟨r,s,e,i r p,b⟩
theorem DrS.mono{F:SFr Pen3}(h:DrS c1 F env N R)(l:c1<=c):DrS c F env N R:=λn st hb=>by
 rcases h (n+(c - c1)) st (hb.mono (by omega))with⟨e,s,h1,h2,h3⟩|⟨d,fr,s,h1,h2,h3⟩
 ·exact .inl ⟨e,s,h1,h2,h3.mono (by omega)⟩
 ·exact .inr ⟨d,fr,s,h1,h2,h3.mono (by omega)⟩
theorem Dr.pure{g:EF}{r:Val}(h:g env=some r)(p:P r):Dr 0 (zak g) env P:=λn st hb=>⟨r,st,zgb h,p,hb⟩
theorem Dr.op{w:OF}{a b:EFr Pen3}{P1 P2:Val->Prop}(h1:Dr c1 a env P1)(h2:Dr c2 b env P2)(h3:∀x y,P1 x->P2 y->∃d fr,w x.d y.d=some (d,fr)/\P ⟨d,fr,bsOf d (x.bs++y.bs)⟩):Dr (c1+c2) (rOp w a b) env P:=λn st hb=>by
 obtain⟨x,s1,e1,p1,b1⟩:=h1 (n+c2) st (hb.mono (by omega))
 obtain⟨y,s2,e2,p2,b2⟩:=h2 n s1 b1
 obtain⟨d,fr,e3,p⟩:=h3 x y p1 p2
 exact⟨_,s2,zpy e1 e2 e3,p,b2⟩
theorem DrA.nil{P:List Val->Prop}(p:P []):DrA 0 rNil env P:=λn st hb=>⟨[],st,rfl,p,hb⟩
theorem DrA.cons{a:EFr Pen3}{g:AFr Pen3}{P1:Val->Prop}{P2 P:List Val->Prop}(h1:Dr c1 a env P1)(h2:DrA c2 g env P2)(h3:∀x xs,P1 x->P2 xs->P (x::xs)):DrA (c1+c2) (zaz a g) env P:=λn st hb=>by
 obtain⟨x,s1,e1,p1,b1⟩:=h1 (n+c2) st (hb.mono (by omega))
 obtain⟨y,s2,e2,p2,b2⟩:=h2 n s1 b1
 exact⟨_,s2,zack e1 e2,h3 x y p1 p2,b2⟩
theorem DrA.one{a:EFr Pen3}{P:List Val->Prop}(h:Dr c a env λx=>P [x]):DrA c (zaz a rNil) env P:=DrA.cons (P1:=λx=>P [x]) (P2:=λxs=>xs=[]) (c2:=0) h (DrA.nil rfl) λx xs p e=>by subst e;exact p
theorem Dr.call{m:Nat}{g:GR Pen3}{a:AFr Pen3}{PA:List Val->Prop}(h1:DrA c1 a env PA)(h2:∀rs,PA rs->rs.length+1=m/\DrG c2 g (zdb rs) λd fr=>P ⟨d,fr,bsOf d (bss rs)⟩):Dr (c1+c2) (zbd m g a) env P:=λn st hb=>by
 obtain⟨rs,s1,e1,p1,b1⟩:=h1 (n+c2) st (hb.mono (by omega))
 obtain⟨hm,hg⟩:=h2 rs p1
 obtain⟨d,fr,s2,e2,p2,b2⟩:=hg n s1 b1
 exact⟨_,s2,zzp e1 hm e2,p2,b2⟩
theorem Dr.tup{a:AFr Pen3}{PA:List Val->Prop}(h1:DrA c a env PA)(h2:∀rs,PA rs->rs.length<=100000/\P ⟨.tuple (zdb rs),false,bss rs⟩):Dr c (rTup a) env P:=λn st hb=>by
 obtain⟨rs,s1,e1,p1,b1⟩:=h1 n st hb
 obtain⟨l,p⟩:=h2 rs p1
 exact⟨_,s1,by unfold rTup;rw[e1];exact if_pos l,p,b1⟩
theorem Dr.lst{a:AFr Pen3}{PA:List Val->Prop}(h1:DrA c a env PA)(h2:∀rs,PA rs->rs.length<=100000/\P ⟨.list (zdb rs),true,bss rs⟩):Dr c (rLst a) env P:=λn st hb=>by
 obtain⟨rs,s1,e1,p1,b1⟩:=h1 n st hb
 obtain⟨l,p⟩:=h2 rs p1
 exact⟨_,s1,by unfold rLst;rw[e1];exact if_pos l,p,b1⟩
theorem Dr.cb{g:GF}{a:AFr Pen3}{PA:List Val->Prop}(h1:DrA c a env PA)(h2:∀rs,PA rs->∃d fr,g (zdb rs)=some (d,fr)/\P ⟨d,fr,bsOf d (bss rs)⟩):Dr c (rCB g a) env P:=λn st hb=>by
 obtain⟨rs,s1,e1,p1,b1⟩:=h1 n st hb
 obtain⟨d,fr,e2,p⟩:=h2 rs p1
 exact⟨_,s1,by unfold rCB;rw[e1];show((g (zdb rs)).bind _)=_;rw[e2];rfl,p,b1⟩
theorem Dr.callD{m:Nat}{g:GF}{a:AFr Pen3}{PA:List Val->Prop}(h1:DrA c a env PA)(h2:∀rs,PA rs->rs.length=m/\∃d fr,g (zdb rs)=some (d,fr)/\P ⟨d,fr,bsOf d (bss rs)⟩):Dr c (zzk m g a) env P:=λn st hb=>by
 obtain⟨rs,s1,e1,p1,b1⟩:=h1 n st hb
 obtain⟨l,d,fr,e2,p⟩:=h2 rs p1
 exact⟨_,s1,by unfold zzk;rw[e1];show(if rs.length=m then _ else _)=_;rw[if_pos l,e2];rfl,p,b1⟩
theorem Dr.comp{α:Type}{enc:α->PyData}{own:List Str}{fr:List Nat}{it:IF'}{g:GT}{e:EFr Pen3}{l:List α}{bs:List Nat}{Q:PyData->Prop}(hit:it env=some (l.map enc,bs))(hl:l.length<100000)
  (hs:∀x∈l,∃e1,g (enc x) (envB own fr env)=some e1/\Dr c e e1 λr=>Q r.d) (hp:∀ys,ys.length=l.length->(∀y∈ys,Q y)->P ⟨.list ys,true,if zda ys=true then[]else bs++capA fr env⟩):Dr (c * l.length) (zzn own fr (rIP it) g zci e) env P:=λn st hb=>by
 have go:∀(k:List α),(∀x∈k,x∈l)->∀n st,PB (n+c * k.length) st->∃ys s,zix g zci e (envB own fr env) (k.map enc) st=some (ys,s)/\ys.length=k.length/\(∀y∈ys,Q y)/\PB n s:=by
  intro k
  induction k with
  | nil=>exact λ_ n st hb=>⟨[],st,rfl,rfl,(λy hy=>by cases hy),hb⟩
  | cons x k ih=>
   intro hk n st hb
   obtain⟨e1,h1,h2⟩:=hs x (hk x (by simp))
   obtain⟨r,s1,h3,h4,h5⟩:=h2 (n+c * k.length) st (hb.mono (by rw[qs,Nat.mul_succ];omega))
   obtain⟨ys,s2,h6,h7,h8,h9⟩:=ih (λx hx=>hk x (qL _ hx)) n s1 h5
   refine⟨r.d::ys,s2,?_,by simp[h7],λy hy=>?_,h9⟩
   ·rw[qm]
    unfold zix
    rw[h1]
    show((e e1 st).bind _)=_
    rw[h3]
    show((zix g zci e (envB own fr env) (k.map enc) s1).map _)=_
    rw[h6];rfl
   ·rcases qW.mp hy with rfl|hy
    ·exact h4
    ·exact h8 y hy
 obtain⟨ys,s,h1,h2,h3,h4⟩:=go l (λ_ h=>h) n st hb
 refine⟨_,s,?_,hp ys h2 h3,h4⟩
 unfold zzn rIP
 rw[hit]
 show(if(l.map enc).length<100000 then _ else _)=_
 rw[if_pos (by rw[qC];exact hl)]
 show((zix g zci e (envB own fr env) (l.map enc) st).map _)=_
 rw[h1];rfl
theorem DrT.pure{t:TF}{b:Bool}{P:Bool->Prop}(h:t env=some b)(p:P b):DrT 0 (zir t) env P:=λn st hb=>⟨b,st,zwb h,p,hb⟩
theorem DrT.b{g:EFr Pen3}{P:Bool->Prop}(h:Dr c g env λr=>∃b,r.d=.bool b/\P b):DrT c (qB g) env P:=λn st hb=>by
 obtain⟨r,s,e,⟨b,hb',p⟩,hb2⟩:=h n st hb
 refine⟨b,s,?_,p,hb2⟩
 unfold qB
 rw[e]
 show(match r.d with|.bool b=>some (b,s)|_=>none)=_
 rw[hb']
theorem DrT.and{t u:TFr Pen3}{P1 P:Bool->Prop}(h1:DrT c1 t env P1)(h2:P1 true->DrT c2 u env P)(h3:P1 false->P false):DrT (c1+c2) (qAnd t u) env P:=λn st hb=>by
 obtain⟨b,s,e,p,hb2⟩:=h1 (n+c2) st (hb.mono (by omega))
 unfold qAnd
 rw[e]
 cases b with
 | true=>exact h2 p n s hb2
 | false=>exact⟨false,s,rfl,h3 p,hb2.mono (by omega)⟩
theorem DrS.nx(h:N env):DrS 0 rNx env N R:=λn st hb=>.inl ⟨env,st,rfl,h,hb⟩
theorem DrS.ret{g:EFr Pen3}(h:Dr c g env λr=>R r.d r.fr):DrS c (rRet g) env N R:=λn st hb=>by
 obtain⟨r,s,e,p,b⟩:=h n st hb
 exact .inr ⟨r.d,r.fr,s,zux (bs:=r.bs) e,p,b⟩
theorem DrS.retV{f:Nat}{F:SF}{d:PyData}{fr:Bool}(h:F env=some (.rt d fr))(p:R d fr):DrS 0 (rS f F) env N R:=λn st hb=>.inr ⟨d,fr,st,by unfold rS;rw[h];rfl,p,hb⟩
theorem DrS.set{i:Nat}{g:EFr Pen3}(h:Dr c g env λr=>N (putV env i r)):DrS c (rSet i g) env N R:=λn st hb=>by
 obtain⟨r,s,e,p,b⟩:=h n st hb
 exact .inl ⟨_,s,zkd e,p,b⟩
theorem DrS.app {i:Nat} {ds:List PyData} {g:EFr Pen3} (hi:env[i]?=some (.ac (.list ds))) (hl:ds.length<100000) (h:Dr c g env λr=>i∉r.bs/\N ((frzs env r.bs).set i (.ac (.list (ds++[r.d]))))):DrS c (rApp i g) env N R:=λn st hb=>by
 obtain⟨r,s,e,⟨p1,p2⟩,b⟩:=h n st hb
 refine .inl ⟨_,s,?_,p2,b⟩
 unfold rApp
 rw[hi]
 show((g env st).bind _)=_
 rw[e]
 exact if_pos ⟨hl,p1⟩
theorem DrS.seq{A B:SFr Pen3}{N1:DEnv->Prop}(h1:DrS c1 A env N1 R)(h2:∀e,N1 e->DrS c2 B e N R):DrS (c1+c2) (rSeq A B) env N R:=λn st hb=>by
 rcases h1 (n+c2) st (hb.mono (by omega))with⟨e,s,e1,p,b⟩|⟨d,fr,s,e1,p,b⟩
 ·have:=h2 e p n s b
  unfold rSeq
  rw[e1]
  exact this
 ·exact .inr ⟨d,fr,s,zuw e1,p,b.mono (by omega)⟩
theorem DrS.iff{t:TFr Pen3}{A B:SFr Pen3}{P1:Bool->Prop}(h1:DrT c1 t env P1)(h2:P1 true->DrS c2 A env N R)(h3:P1 false->DrS c2 B env N R):DrS (c1+c2) (rIf t A B) env N R:=λn st hb=>by
 obtain⟨b,s,e,p,hb2⟩:=h1 (n+c2) st (hb.mono (by omega))
 unfold rIf
 rw[e]
 cases b with
 | true=>exact h2 p n s hb2
 | false=>exact h3 p n s hb2
theorem DrS.asg{g:EFr Pen3}{gt:GT}(h:Dr c g env λr=>∃e2,gt r.d (frzs env r.bs)=some e2/\N e2):DrS c (rAsg g gt) env N R:=λn st hb=>by
 obtain⟨r,s,e,⟨e2,p1,p2⟩,b⟩:=h n st hb
 refine .inl ⟨e2,s,?_,p2,b⟩
 unfold rAsg
 rw[e]
 show((gt r.d (frzs env r.bs)).map _)=_
 rw[p1];rfl
theorem DrS.for{α:Type}{enc:α->PyData}{it:IF'}{g:GT}{body:SFr Pen3}{l:List α}{bs:List Nat}(hit:it env=some (l.map enc,bs))(I:List α->DEnv->Prop)(h0:I [] (frzs env bs))
  (hs:∀pre x post e,pre++x::post=l->I pre e->∃e1,g (enc x) e=some e1/\DrS c body e1 (I (pre++[x])) R) (hn:∀e,I l e->N e):DrS (c * l.length) (rFor (rIP it) g body) env N R:=λn st hb=>by
 have go:∀(k pre:List α)(e:DEnv),pre++k=l->I pre e->∀n st,PB (n+c * k.length) st->(∃e2 s,zrd g body (k.map enc) e st=some (.nx e2 s)/\I l e2/\PB n s)\/∃d fr s,zrd g body (k.map enc) e st=some (.rt d fr s)/\R d fr/\PB n s:=by
  intro k
  induction k with
  | nil=>
   intro pre e hp hI n st hb
   rw[q9]at hp
   rw[hp]at hI
   exact .inl ⟨e,st,rfl,hI,hb⟩
  | cons x k ih=>
   intro pre e hp hI n st hb
   obtain⟨e1,h1,h2⟩:=hs pre x k e hp hI
   rw[qm]
   unfold zrd
   rw[h1]
   show(∃e2 s,((body e1 st).bind _)=_/\_)\/∃d fr s,((body e1 st).bind _)=_/\_
   rcases h2 (n+c * k.length) st (hb.mono (by rw[qs,Nat.mul_succ];omega))with⟨e2,s,e3,p,b⟩|⟨d,fr,s,e3,p,b⟩
   ·rw[e3]
    exact ih (pre++[x]) e2 (by rw[qAD];exact hp) p n s b
   ·rw[e3]
    exact .inr ⟨d,fr,s,rfl,p,b.mono (by omega)⟩
 have ef:rFor (rIP it) g body env st=zrd g body (l.map enc) (frzs env bs) st:=by
  unfold rFor rIP
  rw[hit];rfl
 rw[ef]
 rcases go l [] _ rfl h0 n st hb with⟨e2,s,h1,h2,h3⟩|h
 ·exact .inl ⟨e2,s,h1,hn e2 h2,h3⟩
 ·exact .inr h
theorem DrS.fn{m:Nat}{F:SFr Pen3}{ds:List PyData}(he:zpx m ds=env)(h:DrS c F env (λ_=>False) R):DrG c (fnR m F) ds R:=λn st hb=>by
 rcases h n st hb with⟨_,_,_,z,_⟩|⟨d,fr,s,e,p,b⟩
 ·exact z.elim
 ·exact⟨d,fr,s,zzq he e,p,b⟩
end
theorem zkg{α:Type}{l:List α}{i:Int}(h0:0<=i)(h1:i<l.length):∃x,atI l i=some x/\x∈l:=by
 have hn:i.toNat<l.length:=by omega
 refine⟨l[i.toNat],?_,qBB _⟩
 have:=zmq (xs:=l) (j:=i.toNat) (qN hn)
 rw[show((i.toNat:Nat):Int)=i by omega]at this
 exact this
theorem zxs{z:Str}(h:z.cps.toList.all (λc=>decide (c<128))=true):Low z:=λc hc=>of_decide_eq_true (qAO.mp h c hc)
theorem zaaf{n:Nat}:(Str.ofString (toString (n:Int))).length<=30↔n<10 ^ 30:=by
 have e:(Str.ofString (toString (n:Int))).length=(Nat.toDigits 10 n).length:=by
  have h1:(toString (n:Int))=String.ofList (Nat.toDigits 10 n):=by
   show(toString (Int.ofNat n))=_
   show Nat.repr n=_
   exact Nat.repr_eq_ofList_toDigits
  rw[h1]
  rw[qAs]
  simp[Str.length]
 rw[e]
 exact Nat.length_toDigits_le_iff (by decide) (by decide)
theorem zajc{a:EF}{env:DEnv}{n:Int}(h:a env=some (vi n)):eCB absD (zag a aNil) env=some (vi (n.natAbs:Nat)):=by
 unfold eCB
 rw[zgf h,qQ]
 show some (vi (if n<0 then -n else n))=_
 congr 2
 split<;>omega
theorem zoy{a b:EF}{env:DEnv}{i j:Int}(ha:a env=some (vi i))(hb:b env=some (vi j))(h0:0<=j)(h1:j<=1000)(h2:i.natAbs<2 ^ 1000):eOp powB a b env=some (vi (i ^ j.toNat)):=by
 unfold eOp
 rw[ha,hb]
 show((powB (.int i) (.int j)).bind _)=_
 unfold powB intD
 dsimp only
 rw[if_pos (by rw[qy];exact⟨decide_eq_true ⟨h0,h1⟩,decide_eq_true h2⟩)]
 rfl
theorem zoz{n:Nat}(h:n<2 ^ 200):n<2 ^ 1000:=qH h (Nat.pow_le_pow_right (by decide) (by decide))
theorem zajd{a b:EF}{env:DEnv}{ds:List PyData}{fr:Bool}{bs:List Nat}{i:Int}{x:Int}(ha:a env=some ⟨.list ds,fr,bs⟩)(hb:b env=some (vi i))(h:atI ds i=some (.int x)):eOp ixD a b env=some (vi x):=by
 unfold eOp
 rw[ha,hb]
 show((ixD (.list ds) (.int i)).bind _)=_
 unfold ixD
 dsimp only
 rw[h];rfl
noncomputable abbrev fstL:List PyData:=[.int 2147483647,.int 2147483629,.int 2147483587,.int 2147483579,.int 2147483563,.int 2147483549,.int 2147483543]
noncomputable abbrev lstL:List PyData:=[.int 2147483497,.int 2147483489,.int 2147483477,.int 2147483423,.int 2147483399]
theorem zaje{i:Int}(h0:0<=i)(h1:i<7):∃x:Int,atI fstL i=some (.int x)/\0<x/\x<=2147483647:=by
 obtain⟨d,e,m⟩:=zkg (l:=fstL) h0 h1
 simp only[qW,qAh,or_false]at m
 rcases m with rfl|rfl|rfl|rfl|rfl|rfl|rfl<;>exact⟨_,e,by decide,by decide⟩
theorem zajf{i:Int}(h0:0<=i)(h1:i<5):∃x:Int,atI lstL i=some (.int x)/\0<x/\x<=2147483647:=by
 obtain⟨d,e,m⟩:=zkg (l:=lstL) h0 h1
 simp only[qW,qAh,or_false]at m
 rcases m with rfl|rfl|rfl|rfl|rfl<;>exact⟨_,e,by decide,by decide⟩
noncomputable abbrev tkE(k a c:Int):DEnv:=[.no,.pl (.int k),.no,.pl (.int a),.pl (.int c),.no,.no,.no]
theorem zagb{k a:Int}{st:Pen3}:∃c:Int,rIf (qB (rOp gtD zss (zak (eC (.int 0))))) (rSet 4 (rIx3 (eVar 3))) rNx (tkE k a 37) st=some (.nx (tkE k a c) st):=by
 have t:qB (rOp gtD zss (zak (eC (.int 0)))) (tkE k a 37) st=some (decide ((0:Int)<st.ns.length),st):=by
  unfold qB
  rw[zpy (T:=Pen3) (x:=vi st.ns.length) (y:=vi 0) (s1:=st) (s2:=st) (d:=.bool (decide ((0:Int)<st.ns.length))) (fr:=false) rfl rfl rfl]
  rfl
 by_cases h:st.ns=[]
 ·rw[h]at t
  exact⟨37,zafo t rfl⟩
 ·have hp:0<st.ns.length:=qAy.mpr h
  rw[decide_eq_true (by omega)]at t
  obtain⟨c,ec,_⟩:=zkg (l:=st.ns) (i:=a % st.ns.length) (qAN _ (by omega)) (qAH _ (by omega))
  refine⟨c,zafn t ?_⟩
  have e:rIx3 (eVar 3) (tkE k a 37) st=some (vi c,st):=by
   unfold rIx3
   show(if st.ns=[]then none else _)=_
   rw[if_neg h,ec];rfl
  rw[zkd e];rfl
theorem mulI{i j:Int}(h:(-(2 ^ 64)<i/\i<2 ^ 64)\/(-(2 ^ 64)<j/\j<2 ^ 64)):mulD (.int i) (.int j)=some (.int (i * j),false):=by unfold mulD;dsimp only;rw[if_pos h]
theorem zajg{k:Int}(k1:1<=k)(k2:k<=1000000):DrG 1 zai [.int k] λd fr=>fr=false/\∃x:Int,d=.int x/\0<=x/\x<k:=by
 intro n st hb
 have fin:∀y:Int,0<=y % k/\y % k<k:=λy=>⟨qAN _ (by omega),qAH _ (by omega)⟩
 have t1:qB (rOp gtD (zxe 2) (zak (eC (.int 0)))) [.no,.pl (.int k),.no,.no,.no,.no,.no,.no] st=some (decide (0<st.acc),st):=by
  unfold qB
  rw[zpy (T:=Pen3) (x:=vi st.acc) (y:=vi 0) (s1:=st) (s2:=st) (d:=.bool (decide (0<st.acc))) (fr:=false) rfl rfl rfl]
  rfl
 by_cases hA:0<st.acc
 ·rw[decide_eq_true hA]at t1
  refine⟨.int (st.acc % k),false,{st with acc:=st.acc / k},?_,⟨rfl,_,rfl,fin _⟩,⟨hb.lo,by have:=hb.hi;show st.at_+(n:Int)<=_;omega⟩⟩
  refine zzq (env:=[.no,.pl (.int k),.no,.no,.no,.no,.no,.no]) rfl (zuw (zafn t1 ?_))
  refine zfk (e1:=[.no,.pl (.int k),.pl (.int (st.acc % k)),.no,.no,.no,.no,.no]) (s1:=st) (zkd (zpy (T:=Pen3) (x:=vi st.acc) (y:=vi k) (s1:=st) rfl rfl (show modD (.int st.acc) (.int k)=some (.int (st.acc % k),false) by unfold modD intD;dsimp only;rw[if_pos (decide_eq_true (by omega))]))) ?_
  refine zfk (e1:=[.no,.pl (.int k),.pl (.int (st.acc % k)),.no,.no,.no,.no,.no]) (s1:={st with acc:=st.acc / k}) ?_ rfl
  unfold zsr
  rw[zpy (T:=Pen3) (x:=vi st.acc) (y:=vi k) (s1:=st) rfl rfl (show zlx (.int st.acc) (.int k)=some (.int (st.acc / k),false) by unfold zlx intD;dsimp only;rw[if_pos (decide_eq_true ⟨by omega,by omega⟩)])]
  rfl
 ·rw[decide_eq_false hA]at t1
  have a0:=hb.lo
  have a1:st.at_+(n+1:Nat)<=1000000:=hb.hi
  have pb:∀y,PB n ⟨st.ns,st.at_+1,y⟩:=λy=>⟨by show 0<=st.at_+1;omega,by show st.at_+1+(n:Int)<=_;omega⟩
  obtain⟨c,ec⟩:=zagb (k:=k) (a:=st.at_) (st:=⟨st.ns,st.at_+1,st.acc⟩)
  generalize ha:st.at_=a at *
  have t2:qB (rOp ltD (zak (eVar 3)) zss) (tkE k a c) ⟨st.ns,a+1,st.acc⟩=some (decide (a<st.ns.length),⟨st.ns,a+1,st.acc⟩):=by
   unfold qB
   rw[zpy (T:=Pen3) (x:=vi a) (y:=vi st.ns.length) (s1:=⟨st.ns,a+1,st.acc⟩) (s2:=⟨st.ns,a+1,st.acc⟩) (d:=.bool (decide (a<st.ns.length))) (fr:=false) rfl rfl rfl]
   rfl
  have eabs:∀e:DEnv,e[4]?=some (.pl (.int c))->eCB absD (zag (eVar 4) aNil) e=some (vi (c.natAbs:Nat)):=λe he=>zajc (by unfold eVar;rw[he])
  have p18:∀e:DEnv,eOp powB (eC (.int 10)) (eC (.int 18)) e=some (vi 1000000000000000000):=λe=>zoy (i:=10) (j:=18) rfl rfl (by decide) (by decide) (by decide +kernel)
  have t3:qAnd (qB (rOp ltD (zak (eVar 3)) zss)) (zir (zfh (eOp geD (eCB absD (zag (eVar 4) aNil)) (eOp powB (eC (.int 10)) (eC (.int 18)))))) (tkE k a c) ⟨st.ns,a+1,st.acc⟩=some (decide (a<st.ns.length)&&decide ((1000000000000000000:Int)<=(c.natAbs:Nat)),⟨st.ns,a+1,st.acc⟩):=by
   unfold qAnd
   rw[t2]
   by_cases h:a<st.ns.length
   ·rw[decide_eq_true h]
    rw[qQ,if_pos rfl,Bool.true_and]
    exact zwb (zks (zgl (eabs _ rfl) (p18 _) rfl))
   ·rw[decide_eq_false h];rfl
  have run:∀(d:PyData)(fr:Bool)(s:Pen3),(rSeq (rIf (qAnd (qB (rOp ltD (zak (eVar 3)) zss)) (zir (zfh (eOp geD (eCB absD (zag (eVar 4) aNil)) (eOp powB (eC (.int 10)) (eC (.int 18))))))) (rSeq (zsr 2 (zak (eOp zlx (eCB absD (zag (eVar 4) aNil)) (eVar 1))))
  (rRet (zak (eOp modD (eCB absD (zag (eVar 4) aNil)) (eVar 1))))) rNx)
  (rSeq (rSet 5 (zak (eOp ixD (eLst (zag (eC (.int 2147483647)) (zag (eC (.int 2147483629)) (zag (eC (.int 2147483587)) (zag (eC (.int 2147483579)) (zag (eC (.int 2147483563)) (zag (eC (.int 2147483549)) (zag (eC (.int 2147483543)) aNil)))))))) (eOp modD (eVar 3) (eC (.int 7))))))
  (rSeq (rSet 6 (zak (eOp ixD (eLst (zag (eC (.int 2147483497)) (zag (eC (.int 2147483489)) (zag (eC (.int 2147483477)) (zag (eC (.int 2147483423)) (zag (eC (.int 2147483399)) aNil)))))) (eOp modD (eVar 3) (eC (.int 5))))))
  (rSeq (rSet 7 (zak (eOp modD (eOp powB (eOp addD (eOp modD (eVar 4) (eVar 5)) (eOp mulD (eOp mulD (eOp addD (eVar 3) (eC (.int 3))) (eOp addD (eVar 3) (eC (.int 3)))) (eC (.int 40503)))) (eC (.int 5))) (eVar 5))))
  (rSeq (rSet 7 (zak (eOp modD (eOp powB (eOp addD (eOp mulD (eVar 7) (eOp addD (eOp mulD (eC (.int 2)) (eVar 3)) (eC (.int 48271)))) (eVar 3)) (eC (.int 3))) (eVar 6))))
  (rRet (zak (eOp modD (eOp zlx (eVar 7) (eC (.int 32))) (eVar 1))))))))) (tkE k a c) ⟨st.ns,a+1,st.acc⟩=some (.rt d fr s)->zai [.int k] st=some (d,fr,s):=λd fr s ho=>by
   refine zzq (env:=[.no,.pl (.int k),.no,.no,.no,.no,.no,.no]) rfl (zfk (zafo (a:=_) t1 rfl) (zfk (e1:=[.no,.pl (.int k),.no,.pl (.int a),.no,.no,.no,.no]) (s1:=st) ?_ (zfk (e1:=[.no,.pl (.int k),.no,.pl (.int a),.no,.no,.no,.no]) (s1:=⟨st.ns,a+1,st.acc⟩) rfl (zfk (e1:=tkE k a 37) (s1:=⟨st.ns,a+1,st.acc⟩) rfl (zfk ec ho)))))
   rw[<- ha];rfl
  by_cases hc:(decide (a<st.ns.length)&&decide ((1000000000000000000:Int)<=(c.natAbs:Nat)))=true
  ·rw[hc]at t3
   refine⟨.int ((c.natAbs:Nat) % k),false,⟨st.ns,a+1,(c.natAbs:Nat) / k⟩,?_,⟨rfl,_,rfl,fin _⟩,pb _⟩
   refine run _ _ _ (zuw (zafn t3 (zfk (e1:=tkE k a c) (s1:=⟨st.ns,a+1,(c.natAbs:Nat) / k⟩) ?_ (zux (bs:=[]) (zgb (znr (eabs _ rfl) rfl (by omega)))))))
   unfold zsr
   rw[zgb (zwg (eabs _ rfl) rfl (by omega) (by omega))]
   rfl
  ·rw[Bool.eq_false_iff.mpr hc]at t3
   obtain⟨x5,e5,p5,q5⟩:=zaje (i:=a % 7) (qAN _ (by decide)) (qAH _ (by decide))
   obtain⟨x6,e6,p6,q6⟩:=zajf (i:=a % 5) (qAN _ (by decide)) (qAH _ (by decide))
   have m1:0<=c % x5:=qAN _ (by omega)
   have m2:c % x5<x5:=qAH _ p5
   have sq0:0<=(a+3) * (a+3):=Int.mul_nonneg (by omega) (by omega)
   have sq1:(a+3) * (a+3)<=1000003 * 1000003:=Int.mul_le_mul (by omega) (by omega) (by omega) (by omega)
   have n1:(c % x5+(a+3) * (a+3) * 40503).natAbs<2 ^ 200:=qH (show _<2 ^ 60 by omega) (by decide +kernel)
   generalize hy:(c % x5+(a+3) * (a+3) * 40503) ^ (5:Int).toNat % x5=y
   have y1:0<=y:=by rw[<- hy];exact qAN _ (by omega)
   have y2:y<x5:=by rw[<- hy];exact qAH _ p5
   have z0:0<=y * (2 * a+48271):=Int.mul_nonneg y1 (by omega)
   have z1:y * (2 * a+48271)<=2147483647 * 3000000:=Int.mul_le_mul (by omega) (by omega) (by omega) (by omega)
   have n2:(y * (2 * a+48271)+a).natAbs<2 ^ 200:=qH (show _<2 ^ 60 by omega) (by decide +kernel)
   refine⟨.int ((y * (2 * a+48271)+a) ^ (3:Int).toNat % x6 / 32 % k),false,⟨st.ns,a+1,st.acc⟩,?_,⟨rfl,_,rfl,fin _⟩,pb _⟩
   refine run _ _ _ (zfk (zafo t3 rfl) ?_)
   refine zfk (e1:=[.no,.pl (.int k),.no,.pl (.int a),.pl (.int c),.pl (.int x5),.no,.no]) (s1:=⟨st.ns,a+1,st.acc⟩) (zkd (r:=vi x5) (zgb (zajd (ds:=fstL) (fr:=true) (bs:=[]) rfl (znr rfl rfl (by decide)) e5))) ?_
   refine zfk (e1:=[.no,.pl (.int k),.no,.pl (.int a),.pl (.int c),.pl (.int x5),.pl (.int x6),.no]) (s1:=⟨st.ns,a+1,st.acc⟩) (zkd (r:=vi x6) (zgb (zajd (ds:=lstL) (fr:=true) (bs:=[]) rfl (znr rfl rfl (by decide)) e6))) ?_
   refine zfk (e1:=[.no,.pl (.int k),.no,.pl (.int a),.pl (.int c),.pl (.int x5),.pl (.int x6),.pl (.int y)]) (s1:=⟨st.ns,a+1,st.acc⟩) (zkd (r:=vi y) (zgb ?_)) ?_
   ·rw[<- hy]
    exact znr (zoy (zuz (znr rfl rfl p5) (zva (zva (zuz rfl rfl) (zuz rfl rfl) (.inl ⟨by omega,by omega⟩)) rfl (.inr ⟨by decide,by decide⟩))) rfl (by decide) (by decide) (zoz n1)) rfl p5
   refine zfk (e1:=[.no,.pl (.int k),.no,.pl (.int a),.pl (.int c),.pl (.int x5),.pl (.int x6),.pl (.int ((y * (2 * a+48271)+a) ^ (3:Int).toNat % x6))]) (s1:=⟨st.ns,a+1,st.acc⟩) (zkd (r:=vi _) (zgb ?_)) ?_
   ·exact znr (zoy (zuz (zva rfl (zuz (zva rfl rfl (.inl ⟨by decide,by decide⟩)) rfl) (.inr ⟨by omega,by omega⟩)) rfl) rfl (by decide) (by decide) (zoz n2)) rfl p6
   exact zux (bs:=[]) (zgb (znr (zwg rfl rfl (by decide) (by decide)) rfl (by omega)))
theorem zhs{a:EFr Pen3}{env:DEnv}{k:Int}(ha:Dr 0 a env λr=>r=vi k)(k1:1<=k)(k2:k<=1000000):Dr 1 (zbd 2 zai (zaz a rNil)) env λr=>∃x:Int,r=vi x/\0<=x/\x<k:=by
 refine(Dr.call (c1:=0) (c2:=1) (PA:=λrs=>rs=[vi k]) (DrA.one (ha.imp λr h=>by rw[h])) λrs h=>?_).mono (by decide)
 subst h
 refine⟨rfl,λn st hb=>?_⟩
 obtain⟨d,fr,s,e,⟨h1,x,h2,h3⟩,b⟩:=zajg k1 k2 n st hb
 exact⟨d,fr,s,e,⟨x,by rw[h1,h2];rfl,h3⟩,b⟩
theorem zbv{env:DEnv}{k:Int}(k1:1<=k)(k2:k<=1000000):Dr 1 (zbd 2 zai (zaz (zak (eC (.int k))) rNil)) env λr=>∃x:Int,r=vi x/\0<=x/\x<k:=zhs (Dr.pure rfl rfl) k1 k2
theorem zla{g:GF}{a:AF}{env:DEnv}{rs:List Val}{d:PyData}{fr:Bool}(h:a env=some rs)(k:g (zdb rs)=some (d,fr)):eCB g a env=some ⟨d,fr,bsOf d (bss rs)⟩:=by
 unfold eCB;rw[h];show((g (zdb rs)).bind _)=_;rw[k];rfl
theorem zht{a:EF}{g:AF}{env:DEnv}{x:Val}{xs:List Val}(h1:a env=some x)(h2:g env=some xs):zag a g env=some (x::xs):=by
 unfold zag;rw[h1,h2];rfl
noncomputable def Fig(i:Int):Prop:=i.natAbs<10 ^ 30
theorem p6(e:DEnv):eOp powB (eC (.int 10)) (eC (.int 6)) e=some (vi 1000000):=zoy (i:=10) (j:=6) rfl rfl (by decide) (by decide) (by decide +kernel)
theorem zacr:DrG 10 zdr [] λd fr=>fr=false/\∃i:Int,d=.int i/\Fig i:=by
 refine DrS.fn (env:=[.no,.no,.no,.no,.no]) rfl ?_
 refine(DrS.seq (c1:=1) (c2:=9) (N1:=λe=>∃w:Int,e=[.no,.pl (.int w),.no,.no,.no]) (DrS.set ((zbv (k:=4) (by decide) (by decide)).imp ?_)) ?_)
 ·rintro r ⟨x,rfl,_⟩;exact⟨x,rfl⟩
 rintro e ⟨w,rfl⟩
 refine(DrS.seq (c1:=1) (c2:=8) (N1:=λe=>∃s:Int,(s=1\/s=-1)/\e=[.no,.pl (.int w),.pl (.int s),.no,.no]) (DrS.set ?_) ?_)
 ·refine(Dr.op (c1:=0) (c2:=1) (P1:=λr=>r=vi 1) (P2:=λr=>∃x:Int,r=vi (2 * x)/\0<=x/\x<2) (Dr.pure rfl rfl) ?_ ?_)
  ·refine(Dr.op (c1:=0) (c2:=1) (P1:=λr=>r=vi 2) (Dr.pure rfl rfl) (zbv (k:=2) (by decide) (by decide)) ?_)
   rintro a b rfl ⟨x,rfl,h⟩
   exact⟨_,_,mulI (.inl ⟨by decide,by decide⟩),x,rfl,h⟩
  ·rintro a b rfl ⟨x,rfl,h0,h1⟩
   exact⟨.int (1 - 2 * x),false,rfl,1 - 2 * x,by omega,rfl⟩
 rintro e ⟨s,hs,rfl⟩
 refine(DrS.seq (c1:=1) (c2:=7) (N1:=λe=>e=[.no,.pl (.int w),.pl (.int s),.no,.no]) ?_ ?_)
 ·refine DrS.iff (c1:=0) (c2:=1) (P1:=λ_=>True) (DrT.pure (b:=decide (0<w)) rfl trivial) (λ_=>DrS.ret ?_) λ_=>DrS.mono (c1:=0) (c:=1) (DrS.nx rfl) (by decide)
  refine(Dr.op (c1:=0) (c2:=1) (P1:=λr=>r=vi s) (Dr.pure rfl rfl) (zbv (k:=100) (by decide) (by decide)) ?_)
  rintro a b rfl ⟨x,rfl,h0,h1⟩
  refine⟨_,_,mulI (.inl ⟨by omega,by omega⟩),rfl,s * x,rfl,?_⟩
  have:(s * x).natAbs<1000:=by rcases hs with rfl|rfl<;>omega
  exact qH this (by decide +kernel)
 rintro e rfl
 refine(DrS.seq (c1:=0) (c2:=7) (N1:=λe=>e=[.no,.pl (.int w),.pl (.int s),.pl (.int 0),.no]) (DrS.set (Dr.pure rfl rfl)) ?_)
 rintro e rfl
 refine(DrS.seq (c1:=5) (c2:=2) (N1:=λe=>∃(y:Int)(v:Sl),0<=y/\y<1000000 ^ 5/\e=[.no,.pl (.int w),.pl (.int s),.pl (.int y),v]) ?_ ?_)
 ·refine DrS.for (c:=1) (enc:=λ(k:Nat)=>PyData.int (k:Int)) (l:=List.range 5) (bs:=[]) rfl (λpre e=>∃(y:Int)(v:Sl),0<=y/\y<1000000 ^ pre.length/\e=[.no,.pl (.int w),.pl (.int s),.pl (.int y),v]) ⟨0,.no,Int.le_refl 0,by show(0:Int)<1000000 ^ 0;decide,rfl⟩ ?_ λe h=>h
  rintro pre k post e - ⟨y,v,y0,y1,rfl⟩
  refine⟨_,rfl,DrS.set ?_⟩
  refine(Dr.op (c1:=0) (c2:=1) (P1:=λr=>r=vi (y * 1000000)) (Dr.pure (zva rfl (p6 _) (.inr ⟨by decide,by decide⟩)) rfl) (zhs (k:=1000000) (Dr.pure (p6 _) rfl) (by decide) (by decide)) ?_)
  rintro a b rfl ⟨x,rfl,h0,h1⟩
  refine⟨.int (y * 1000000+x),false,rfl,y * 1000000+x,_,by omega,?_,rfl⟩
  rw[qF,qBZ,Int.pow_succ]
  omega
 rintro e ⟨y,v,y0,y1,rfl⟩
 refine DrS.mono (c1:=0) (DrS.ret (Dr.pure (zva rfl rfl (.inl ⟨by omega,by omega⟩)) ⟨rfl,_,rfl,?_⟩)) (by decide)
 have:(s * y).natAbs<1000000 ^ 5:=by
  have y1:y<1000000000000000000000000000000:=y1
  show(s * y).natAbs<1000000000000000000000000000000
  rcases hs with rfl|rfl<;>omega
 exact qH this (by decide +kernel)
theorem DrS.apppop{c i j:Nat}{env:DEnv}{N:DEnv->Prop}{R:PyData->Bool->Prop}{ds es:List PyData}{g:EFr Pen3}(hi:env[i]?=some (.ac (.list ds)))(hj:env[j]?=some (.ac (.list es)))(hl:ds.length<100000)(hij:i≠j)
  (h:Dr c g env λr=>∃(n:Int) (d:PyData),r.d=.int n/\0<=n/\n<100000/\es[n.toNat]?=some d/\N ((env.set j (.ac (.list (es.eraseIdx n.toNat)))).set i (.ac (.list (ds++[d]))))):DrS c (zno i j g) env N R:=λn st hb=>by
 obtain⟨r,s,e,⟨m,d,p1,p2,p3,p4,p5⟩,b⟩:=h n st hb
 refine .inl ⟨_,s,?_,p5,b⟩
 unfold zno
 rw[hi,hj]
 show((g env st).bind _)=_
 rw[e]
 show(match r.d with|.int n=>_|_=>none)=_
 rw[p1]
 show(if _ then _ else _)=_
 rw[if_pos ⟨p2,p3,hl,hij⟩,p4];rfl
theorem zaag{α:Type}{enc:α->PyData}(l:List α){m:Int}{C:Nat}(m0:0<=m)(m1:m<=1000)(hl:l.length<=1000)(hC:m<=C):DrG C zgs [.list (l.map enc),.int m] λd fr=>fr=true/\∃l':List α,d=.list (l'.map enc)/\(∀x∈l',x∈l)/\l'.length<=m.toNat:=by
 refine DrS.fn (env:=[.no,.pl (.list (l.map enc)),.pl (.int m),.no,.no,.no]) rfl ?_
 refine(DrS.seq (c1:=0) (c2:=C) (N1:=λe=>e=[.no,.pl (.list (l.map enc)),.pl (.int m),.ac (.list (l.map enc)),.no,.no]) (DrS.set (Dr.pure rfl rfl)) ?_).mono (by omega)
 rintro e rfl
 refine(DrS.seq (c1:=0) (c2:=C) (N1:=λe=>e=[.no,.pl (.list (l.map enc)),.pl (.int m),.ac (.list (l.map enc)),.ac (.list []),.no]) (DrS.set (Dr.pure rfl rfl)) ?_).mono (by omega)
 rintro e rfl
 generalize hn:(if(l.length:Int)<m then(l.length:Int)else m).toNat=n
 have n1:n<=l.length:=by split at hn<;>omega
 have n2:n<=m.toNat:=by split at hn<;>omega
 have it:zcw (zag (eCB minD (zag (eVar 2) (zag (eCB lenD (zag (eVar 3) aNil)) aNil))) aNil) [.no,.pl (.list (l.map enc)),.pl (.int m),.ac (.list (l.map enc)),.ac (.list []),.no]=some ((List.range n).map (λ(k:Nat)=>PyData.int (k:Int)),[]):=by
  have e1:zag (eCB minD (zag (eVar 2) (zag (eCB lenD (zag (eVar 3) aNil)) aNil))) aNil [.no,.pl (.list (l.map enc)),.pl (.int m),.ac (.list (l.map enc)),.ac (.list []),.no]=some [vi (if(l.length:Int)<m then(l.length:Int)else m)]:=by
   have e0:=zsv (a:=eVar 3) (env:=[.no,.pl (.list (l.map enc)),.pl (.int m),.ac (.list (l.map enc)),.ac (.list []),.no]) (ds:=l.map enc) (fr:=false) (bs:=[3]) rfl
   rw[qC]at e0
   exact zgf (zla (rs:=[vi m,vi l.length]) (zht rfl (zgf e0)) rfl)
  unfold zcw
  rw[e1]
  show(if _ then _ else _)=_
  rw[if_pos (by split<;>omega),hn,zhf]
 refine(DrS.seq (c1:=C) (c2:=0) (N1:=λe=>∃(l1 l2:List α)(v:Sl),(∀x∈l1,x∈l)/\l1.length=n/\e=[.no,.pl (.list (l.map enc)),.pl (.int m),.ac (.list (l2.map enc)),.ac (.list (l1.map enc)),v]) ?_ ?_)
 ·refine DrS.mono (DrS.for (c:=1) it (λpre e=>∃(l1 l2:List α)(v:Sl),(∀x∈l1,x∈l)/\(∀x∈l2,x∈l)/\l1.length=pre.length/\l2.length+pre.length=l.length/\e=[.no,.pl (.list (l.map enc)),.pl (.int m),.ac (.list (l2.map enc)),.ac (.list (l1.map enc)),v]) ⟨[],l,.no,(λx hx=>by cases hx),(λx hx=>hx),rfl,rfl,rfl⟩ ?_ ?_) (by rw[qX];omega)
  ·rintro pre k post e hp ⟨l1,l2,v,h1,h2,h3,h4,rfl⟩
   have hk:pre.length<n:=by
    have:=congrArg List.length hp
    rw[qF,qs,qX]at this
    omega
   refine⟨_,rfl,?_⟩
   have e2:eCB lenD (zag (eVar 3) aNil) [.no,.pl (.list (l.map enc)),.pl (.int m),.ac (.list (l2.map enc)),.ac (.list (l1.map enc)),.pl (.int (k:Int))]=some (vi (l2.length:Int)):=by
    have:=zsv (a:=eVar 3) (env:=[.no,.pl (.list (l.map enc)),.pl (.int m),.ac (.list (l2.map enc)),.ac (.list (l1.map enc)),.pl (.int (k:Int))]) (ds:=l2.map enc) (fr:=false) (bs:=[3]) rfl
    rw[qC]at this
    exact this
   refine DrS.apppop (ds:=l1.map enc) (es:=l2.map enc) rfl rfl (by rw[qC];omega) (by decide) ((zhs (Dr.pure e2 rfl) (by omega) (by omega)).imp ?_)
   rintro r ⟨x,rfl,x0,x1⟩
   have hx:x.toNat<l2.length:=by omega
   refine⟨x,enc l2[x.toNat],rfl,x0,by omega,by rw[qa,qN hx];rfl,l1++[l2[x.toNat]],l2.eraseIdx x.toNat,.pl (.int (k:Int)),λy hy=>?_,λy hy=>h2 y (List.mem_of_mem_eraseIdx hy),?_,?_,?_⟩
   ·rcases qz.mp hy with hy|hy
    ·exact h1 y hy
    ·rw[qR.mp hy];exact h2 _ (qBB hx)
   ·simp[h3]
   ·rw[List.length_eraseIdx_of_lt hx]
    simp;omega
   ·rw[qr,zsw];rfl
  ·rintro e ⟨l1,l2,v,h1,h2,h3,h4,rfl⟩
   exact⟨l1,l2,v,h1,by rw[h3,qX],rfl⟩
 rintro e ⟨l1,l2,v,h1,h2,rfl⟩
 exact DrS.retV (F:=zkc 4) rfl ⟨rfl,l1,rfl,h1,by omega⟩
noncomputable def tx(x:Str):List Nat:=x.cps.toList
theorem zjw{a b:Str}(h:tx a=tx b):a=b:=by
 obtain⟨⟨a⟩⟩:=a
 obtain⟨⟨b⟩⟩:=b
 have:a=b:=h
 rw[this]
theorem zqj(x:Str):(tx x).length=x.length:=by show x.cps.toList.length=x.cps.size;exact qAb
theorem zcl(a b:Str):tx (a++b)=tx a++tx b:=zwf a b
theorem zajh:tx Str.empty=[]:=rfl
theorem ztu(sep:List Nat):∀(xs:List Str)(sp:Array Nat)(acc:Array Nat),sp.toList=sep->(xs.foldl (λacc p=>acc++sp++p.cps) acc).toList=acc.toList++(xs.map λy=>sep++tx y).flatten
 | [],sp,acc,h=>by simp
 | x::xs,sp,acc,h=>by
  rw[qBJ,ztu sep xs sp _ h,qm,qAU]
  simp[Array.toList_append,h,tx,qAD]
theorem zwj(sep:Str):tx (zcx sep [])=[]:=rfl
theorem zjl(sep:Str)(x:Str)(xs:List Str):tx (zcx sep (x::xs))=tx x++(xs.map λy=>tx sep++tx y).flatten:=ztu (tx sep) xs sep.cps x.cps rfl
theorem zwk(xs:List Str):tx (zcx "" xs)=(xs.map tx).flatten:=by
 cases xs with
 | nil=>rfl
 | cons x xs=>
  rw[zjl,qm,qAU]
  congr 2
theorem zwl(k:Nat):∀(xs:List Str)(n:Nat),xs.foldl (λn z=>n+z.length+k) n=n+(xs.map λz=>z.length+k).sum
 | [],n=>by simp
 | x::xs,n=>by
  rw[qBJ,zwl k xs,qm,qAo]
  omega
theorem zwm(sep:Str)(xs:List Str):(zcx sep xs).length<=(xs.map λz=>z.length+sep.length).sum:=by
 rw[<- zqj]
 cases xs with
 | nil=>exact qAR _
 | cons x xs=>
  rw[zjl,qF,zqj,qm,qAo]
  have:((xs.map λy=>tx sep++tx y).flatten).length=(xs.map λz=>z.length+sep.length).sum:=by
   rw[List.length_flatten,qAM]
   congr 1
   refine qAx λy _=>?_
   show(tx sep++tx y).length=_
   rw[qF,zqj,zqj];omega
  omega
theorem zqk{α:Type}{f:α->Nat}{B:Nat}:∀{xs:List α},(∀x∈xs,f x<=B)->(xs.map f).sum<=xs.length * B
 | [],_=>by simp
 | x::xs,h=>by
  rw[qm,qAo,qs,Nat.succ_mul]
  have:=h x (by simp)
  have:=zqk (xs:=xs) λy hy=>h y (qL _ hy)
  omega
theorem zaah:∀(xs:List Str),zxd.unT (xs.map .str)=some xs
 | []=>rfl
 | x::xs=>by
  show((zxd.unT (xs.map .str)).map _)=_
  rw[zaah xs];rfl
theorem zagc{sep:Str}{xs:List Str}{B:Nat}(h:∀x∈xs,x.length+sep.length<=B)(hB:xs.length * B<=100000):zzr sep (.list (xs.map .str))=some (.str (zcx sep xs)):=by
 have s:=zqk (f:=λz:Str=>z.length+sep.length) h
 have g:=zwm sep xs
 show((zxd.unT (xs.map .str)).bind _)=_
 rw[zaah]
 show(if _/\_ then _ else _)=_
 rw[if_pos ⟨by rw[zwl];omega,by omega⟩]
theorem zfw{sep:Str}{a:EF}{env:DEnv}{xs:List Str}{fr:Bool}{bs:List Nat}{B:Nat}(ha:a env=some ⟨.list (xs.map .str),fr,bs⟩)(h:∀x∈xs,x.length+sep.length<=B)(hB:xs.length * B<=100000):zdg sep a env=some ⟨.str (zcx sep xs),false,[]⟩:=by
 unfold zdg
 rw[ha]
 show((zzr sep (.list (xs.map .str))).map _)=_
 rw[zagc h hB];rfl
noncomputable def sg(c:Nat):Str:=⟨#[c]⟩
theorem zaai(cs:List Nat):tx (zcx "" (cs.map sg))=cs:=by
 rw[zwk,qAM]
 induction cs with
 | nil=>rfl
 | cons c cs ih=>rw[qm,qAU,ih];rfl
structure Wd(x:Str):Prop where
 lo:1<=x.length
 hi:x.length<=8
 low:Low x
theorem zaaj{cs:List Nat}:(zcx "" (cs.map sg)).length=cs.length:=by rw[<- zqj,zaai]
theorem zaji{cs:List Nat}(h1:1<=cs.length)(h2:cs.length<=8)(h3:∀c∈cs,c<128):Wd (zcx "" (cs.map sg)):=⟨by rw[zaaj];exact h1,by rw[zaaj];exact h2,λc hc=>h3 c (by
 have:c∈tx (zcx "" (cs.map sg)):=hc
 rw[zaai]at this
 exact this)⟩
noncomputable abbrev zhu(cs:List Nat):PyData:=.list ((cs.map sg).map .str)
theorem zacs(cs:List Nat)(c:Nat):zhu (cs++[c])=.list ((cs.map sg).map .str++[.str (sg c)]):=by unfold zhu;rw[qr,qr];rfl
theorem eqI{i j:Int}:eqD (.int i) (.int j)=some (.bool (i==j),false):=by
 rfl
theorem zaak{env:DEnv}{cs:List Nat}(h:env[7]?=some (.ac (zhu cs)))(h2:cs.length<=8):zdg "" (eVar 7) env=some (vs (zcx "" (cs.map sg))):=by
 refine zfw (B:=1) (fr:=false) (bs:=[7]) (by unfold eVar;rw[h]) (λx hx=>?_) (by rw[qC];omega)
 obtain⟨c,_,rfl⟩:=ql.mp hx
 exact qI 1
theorem DrS.setI {c i j:Nat} {env:DEnv} {N:DEnv->Prop} {R:PyData->Bool->Prop} {ds:List PyData} {gk gv:EF} {d:PyData} {fr:Bool} {p:Int} (hi:env[i]?=some (.ac (.list ds))) (hv:gv env=some ⟨d,fr,[]⟩) (hk:gk env=some (vi p)) (hj:ixN ds.length p=some j) (h:N (env.set i (.ac (.list (ds.set j d))))) :
  DrS 0 (zzo i (zak gk) (zak gv)) env N R:=λn st hb=>by
 refine .inl ⟨_,st,?_,h,hb⟩
 unfold zzo
 rw[hi]
 show((zak gv env st).bind _)=_
 rw[zgb hv]
 show((zak gk env st).bind _)=_
 rw[zgb hk]
 show((ixN ds.length p).bind _)=_
 rw[hj]
 show(if i∉([]:List Nat)then some (OutR.nx ((frzs env []).set i (.ac (.list (ds.set j d)))) st)else none)=_
 rw[if_pos (by simp)];rfl
noncomputable abbrev oddL:List PyData:=[.str "none",.str "rule",.str "quarrel",.str "say",.str "tell",.str "call",.str "onward",.str "own",.str "new",.str "kind"]
theorem zpa {x:Str} (h:(decide (1<=x.length)&&decide (x.length<=8)&&x.cps.toList.all (λc=>decide (c<128)))=true):Wd x:=by
 rw[qy,qy]at h
 exact⟨of_decide_eq_true h.1.1,of_decide_eq_true h.1.2,zxs h.2⟩
theorem zajj{i:Int}(h0:0<=i)(h1:i<10):∃w:Str,ixD (.list oddL) (.int i)=some (.str w,false)/\Wd w:=by
 obtain⟨d,e,m⟩:=zkg (l:=oddL) h0 h1
 have key:∃w:Str,d=.str w/\Wd w:=by
  simp only[qW,qAh,or_false]at m
  rcases m with rfl|rfl|rfl|rfl|rfl|rfl|rfl|rfl|rfl|rfl<;>exact⟨_,rfl,zpa (by decide +kernel)⟩
 obtain⟨w,rfl,hw⟩:=key
 exact⟨w,by unfold ixD;dsimp only;rw[e];rfl,hw⟩
theorem zajk{n:Nat}{i:Int}(h0:0<=i)(h1:i<n):ixN n i=some i.toNat:=by unfold ixN;rw[if_pos h0,if_pos h1]
theorem zadq{A:List Str}(hA:∀x∈A,Wd x):DrG 7 zel [zas A] λd fr=>fr=false/\∃w:Str,d=.str w/\Wd w:=by
 refine DrS.fn (env:=[.no,.pl (zas A),.no,.no,.no,.no,.no,.no,.no,.no,.no]) rfl ?_
 refine DrS.seq (c1:=0) (c2:=7) (N1:=λe=>e=[.no,.pl (zas A),.pl (.str abc),.no,.no,.no,.no,.no,.no,.no,.no]) (DrS.set (Dr.pure rfl rfl)) ?_
 rintro e rfl
 refine DrS.seq (c1:=1) (c2:=6) (N1:=λe=>∃w:Int,e=[.no,.pl (zas A),.pl (.str abc),.pl (.int w),.no,.no,.no,.no,.no,.no,.no]) (DrS.set ((zbv (k:=3) (by decide) (by decide)).imp ?_)) ?_
 ·rintro r ⟨x,rfl,_⟩;exact⟨x,rfl⟩
 rintro e ⟨w,rfl⟩
 refine DrS.seq (c1:=1) (c2:=5) (N1:=λe=>∃l:Int,1<=l/\l<=8/\e=[.no,.pl (zas A),.pl (.str abc),.pl (.int w),.pl (.int l),.no,.no,.no,.no,.no,.no]) (DrS.set ?_) ?_
 ·refine Dr.op (c1:=0) (c2:=1) (P1:=λr=>r=vi 1) (Dr.pure rfl rfl) (zbv (k:=8) (by decide) (by decide)) ?_
  rintro a b rfl ⟨x,rfl,h0,h1⟩
  exact⟨.int (1+x),false,rfl,1+x,by omega,by omega,rfl⟩
 rintro e ⟨l,l0,l1,rfl⟩
 refine DrS.seq (c1:=1) (c2:=4) (N1:=λe=>∃p:Int,0<=p/\p<l/\e=[.no,.pl (zas A),.pl (.str abc),.pl (.int w),.pl (.int l),.pl (.int p),.no,.no,.no,.no,.no]) (DrS.set ((zhs (k:=l) (Dr.pure rfl rfl) (by omega) (by omega)).imp ?_)) ?_
 ·rintro r ⟨x,rfl,h0,h1⟩;exact⟨x,h0,h1,rfl⟩
 rintro e ⟨p,p0,p1,rfl⟩
 have p26:∀e:DEnv,eOp powB (eC (.int 26)) (eC (.int 4)) e=some (vi 456976):=λe=>zoy (i:=26) (j:=4) rfl rfl (by decide) (by decide) (by decide +kernel)
 refine DrS.seq (c1:=1) (c2:=3) (N1:=λe=>∃q:Int,e=[.no,.pl (zas A),.pl (.str abc),.pl (.int w),.pl (.int l),.pl (.int p),.pl (.int q),.no,.no,.no,.no]) (DrS.set ((zhs (k:=456976) (Dr.pure (p26 _) rfl) (by decide) (by decide)).imp ?_)) ?_
 ·rintro r ⟨x,rfl,_⟩;exact⟨x,rfl⟩
 rintro e ⟨q0,rfl⟩
 refine DrS.seq (c1:=1) (c2:=2) (N1:=λe=>∃q:Int,e=[.no,.pl (zas A),.pl (.str abc),.pl (.int w),.pl (.int l),.pl (.int p),.pl (.int q),.no,.no,.no,.no]) (DrS.set ?_) ?_
 ·refine Dr.op (c1:=0) (c2:=1) (P1:=λr=>r=vi q0) (P2:=λr=>∃x:Int,r=vi x) (Dr.pure rfl rfl) ?_ ?_
  ·refine Dr.op (c1:=0) (c2:=1) (P1:=λr=>r=vi 456976) (Dr.pure (p26 _) rfl) (zhs (k:=456976) (Dr.pure (p26 _) rfl) (by decide) (by decide)) ?_
   rintro a b rfl ⟨x,rfl,_⟩
   exact⟨_,_,mulI (.inl ⟨by decide,by decide⟩),_,rfl⟩
  ·rintro a b rfl ⟨x,rfl⟩
   exact⟨.int (q0+x),false,rfl,q0+x,rfl⟩
 rintro e ⟨q1,rfl⟩
 refine DrS.seq (c1:=0) (c2:=2) (N1:=λe=>e=[.no,.pl (zas A),.pl (.str abc),.pl (.int w),.pl (.int l),.pl (.int p),.pl (.int q1),.ac (.list []),.no,.no,.no]) (DrS.set (Dr.pure rfl rfl)) ?_
 rintro e rfl
 have it:zcw (zag (eVar 4) aNil) [.no,.pl (zas A),.pl (.str abc),.pl (.int w),.pl (.int l),.pl (.int p),.pl (.int q1),.ac (.list []),.no,.no,.no]=some ((List.range l.toNat).map (λ(k:Nat)=>PyData.int (k:Int)),[]):=by
  show(if _ then _ else _)=_
  rw[if_pos (by omega),zhf]
 refine DrS.seq (c1:=0) (c2:=2) (N1:=λe=>∃(cs:List Nat)(q:Int)(v:Sl),(cs.length:Int)=l/\(∀c∈cs,c<128)/\e=[.no,.pl (zas A),.pl (.str abc),.pl (.int w),.pl (.int l),.pl (.int p),.pl (.int q),.ac (zhu cs),v,.no,.no]) ?_ ?_
 ·refine DrS.mono (c:=0) (DrS.for (c:=0) it (λpre e=>∃(cs:List Nat)(q:Int)(v:Sl),cs.length=pre.length/\(∀c∈cs,c<128)/\e=[.no,.pl (zas A),.pl (.str abc),.pl (.int w),.pl (.int l),.pl (.int p),.pl (.int q),.ac (zhu cs),v,.no,.no]) ⟨[],q1,.no,rfl,(λc hc=>by cases hc),rfl⟩ ?_ ?_) (by omega)
  ·rintro pre k post e hp ⟨cs,q,v,h1,h2,rfl⟩
   have hk:pre.length<l.toNat:=by
    have:=congrArg List.length hp
    rw[qF,qs,qX]at this
    omega
   refine⟨_,rfl,?_⟩
   have m0:0<=q % 26:=qAN _ (by decide)
   have m1:q % 26<26:=qAH _ (by decide)
   refine DrS.seq (c1:=0) (c2:=0) (N1:=λe=>e=[.no,.pl (zas A),.pl (.str abc),.pl (.int w),.pl (.int l),.pl (.int p),.pl (.int q),.ac (zhu (cs++[97+(q % 26).toNat])),.pl (.int (k:Int)),.no,.no]) (DrS.app (ds:=(cs.map sg).map .str) rfl (by rw[qC,qC];omega) (Dr.pure (zaja rfl (znr rfl rfl (by decide)) m0 m1) ⟨by simp,?_⟩)) ?_
   ·rw[zacs];rfl
   rintro e rfl
   refine DrS.set (Dr.pure (zwg rfl rfl (by decide) (by decide)) ⟨cs++[97+(q % 26).toNat],q / 26,_,by simp[h1],λc hc=>?_,rfl⟩)
   rcases qz.mp hc with hc|hc
   ·exact h2 c hc
   ·rw[qR.mp hc];omega
  ·rintro e ⟨cs,q,v,h1,h2,rfl⟩
   rw[qX]at h1
   exact⟨cs,q,v,by omega,h2,rfl⟩
 rintro e ⟨cs,q,v,hcs,hlow,rfl⟩
 refine DrS.seq (c1:=1) (c2:=1) (N1:=λe=>∃o:Str,Wd o/\e=[.no,.pl (zas A),.pl (.str abc),.pl (.int w),.pl (.int l),.pl (.int p),.pl (.int q),.ac (zhu cs),v,.pl (.str o),.no]) (DrS.set ?_) ?_
 ·refine Dr.op (c1:=0) (c2:=1) (P1:=λr=>r.d=.list oddL/\r.bs=[]) (Dr.pure rfl ⟨rfl,rfl⟩) (zbv (k:=10) (by decide) (by decide)) ?_
  rintro a b ⟨ha,hb⟩ ⟨x,rfl,h0,h1⟩
  obtain⟨o,eo,ho⟩:=zajj h0 h1
  refine⟨.str o,false,by rw[ha];exact eo,o,ho,rfl⟩
 rintro e ⟨o,ho,rfl⟩
 refine DrS.seq (c1:=1) (c2:=0) (N1:=λe=>e=[.no,.pl (zas A),.pl (.str abc),.pl (.int w),.pl (.int l),.pl (.int p),.pl (.int q),.ac (zhu cs),v,.pl (.str o),.no]) ?_ ?_
 ·refine DrS.iff (c1:=1) (c2:=0) (P1:=λ_=>True) (DrT.and (c1:=1) (c2:=0) (P1:=λ_=>True) (DrT.b (Dr.op (c1:=1) (c2:=0) (P2:=λr=>r=vi 0) (zbv (k:=6) (by decide) (by decide)) (Dr.pure rfl rfl) ?_)) (λ_=>DrT.pure (zks (e_in (neg:=true) (xs:=A) rfl rfl)) trivial) λ_=>trivial) (λ_=>DrS.retV (F:=zkc 9) rfl ⟨rfl,o,rfl,ho⟩) λ_=>DrS.nx rfl
  rintro a b ⟨x,rfl,_⟩ rfl
  exact⟨.bool (x==0),false,eqI,_,rfl,trivial⟩
 rintro e rfl
 refine DrS.seq (c1:=0) (c2:=0) (N1:=λe=>∃(cs:List Nat)(p:Int),1<=cs.length/\cs.length<=8/\(∀c∈cs,c<128)/\0<=p/\p<cs.length/\e=[.no,.pl (zas A),.pl (.str abc),.pl (.int w),.pl (.int l),.pl (.int p),.pl (.int q),.ac (zhu cs),v,.pl (.str o),.no]) ?_ ?_
 ·by_cases hz:A=[]
  ·refine DrS.iff (c1:=0) (c2:=0) (P1:=λb=>b=false) (DrT.pure (b:=false) ?_ rfl) (λz=>by cases z) λ_=>DrS.nx ⟨cs,p,by omega,by omega,hlow,p0,by omega,rfl⟩
   subst hz
   unfold zyu
   rw[zks (zaix (i:=w) (j:=0) rfl rfl)]
   cases(w==0)<;>rfl
  ·have hpos:0<A.length:=qAy.mpr hz
   obtain⟨z,hzl⟩:∃z,A[A.length - 1]?=some z:=⟨_,qN (by omega)⟩
   have hzA:z∈A:=qAj hzl
   have wz:=hA z hzA
   refine DrS.iff (c1:=0) (c2:=0) (P1:=λ_=>True) (DrT.pure (b:=(w==0)&&true) ?_ trivial) (λ_=>?_) λ_=>DrS.nx ⟨cs,p,by omega,by omega,hlow,p0,by omega,rfl⟩
   ·unfold zyu
    rw[zks (zaix (i:=w) (j:=0) rfl rfl)]
    have e2:zfh (eOp gtD (eCB lenD (zag (eVar 1) aNil)) (eC (.int 0))) [.no,.pl (zas A),.pl (.str abc),.pl (.int w),.pl (.int l),.pl (.int p),.pl (.int q),.ac (zhu cs),v,.pl (.str o),.no]=some true:=by
     refine zks ?_
     have:=zsv (a:=eVar 1) (env:=[.no,.pl (zas A),.pl (.str abc),.pl (.int w),.pl (.int l),.pl (.int p),.pl (.int q),.ac (zhu cs),v,.pl (.str o),.no]) (ds:=A.map .str) (fr:=false) (bs:=[]) rfl
     rw[qC]at this
     exact(zgl this rfl (show gtD (.int (A.length:Int)) (.int 0)=some (.bool true,false) by unfold gtD intD;dsimp only;rw[if_pos rfl,decide_eq_true (by omega)])).trans rfl
    cases(w==0)
    ·rfl
    ·exact e2
   ·have ez:eIxV 1 (eNeg (eC (.int 1))) [.no,.pl (zas A),.pl (.str abc),.pl (.int w),.pl (.int l),.pl (.int p),.pl (.int q),.ac (zhu cs),v,.pl (.str o),.no]=some (vs z):=by
     have:atI (A.map PyData.str) (-1)=some (.str z):=by
      unfold atI ixN
      rw[if_neg (by decide),qC,if_pos (by omega)]
      show(A.map PyData.str)[((-1:Int)+A.length).toNat]?=_
      rw[show((-1:Int)+A.length).toNat=A.length - 1 by omega,qa,hzl];rfl
     show((ixD (zas A) (.int (-1))).bind _)=_
     unfold zas ixD
     dsimp only
     rw[this];rfl
    have hzc:(zlq z).map PyData.str=((tx z).map sg).map .str:=rfl
    refine DrS.seq (c1:=0) (c2:=0) (N1:=λe=>e=[.no,.pl (zas A),.pl (.str abc),.pl (.int w),.pl (.int l),.pl (.int p),.pl (.int q),.ac (zhu (tx z)),v,.pl (.str o),.no]) (DrS.set (Dr.pure (zla (zgf ez) (show znm [.str z]=some (zhu (tx z),true) by show(if _ then _ else _)=_;rw[if_pos (by have:=wz.hi;omega)];rfl)) rfl)) ?_
    rintro e rfl
    have lz:(tx z).length=z.length:=zqj z
    have w1:=wz.lo
    have w2:=wz.hi
    have el:eCB lenD (zag (eVar 7) aNil) [.no,.pl (zas A),.pl (.str abc),.pl (.int w),.pl (.int l),.pl (.int p),.pl (.int q),.ac (zhu (tx z)),v,.pl (.str o),.no]=some (vi (z.length:Int)):=by
     have:=zsv (a:=eVar 7) (env:=[.no,.pl (zas A),.pl (.str abc),.pl (.int w),.pl (.int l),.pl (.int p),.pl (.int q),.ac (zhu (tx z)),v,.pl (.str o),.no]) (ds:=((tx z).map sg).map .str) (fr:=false) (bs:=[7]) rfl
     rw[qC,qC,lz]at this
     exact this
    refine DrS.set (Dr.pure (znr rfl el (by omega)) ⟨tx z,p % z.length,by omega,by omega,λc hc=>wz.low c hc,qAN _ (by omega),by rw[lz];exact qAH _ (by omega),rfl⟩)
 rintro e ⟨cs,p,c0,c1,hlow,p0,p1,rfl⟩
 refine DrS.seq (c1:=0) (c2:=0) (N1:=λe=>∃(cs:List Nat)(v':Sl),1<=cs.length/\cs.length<=8/\(∀c∈cs,c<128)/\e=[.no,.pl (zas A),.pl (.str abc),.pl (.int w),.pl (.int l),.pl (.int p),.pl (.int q),.ac (zhu cs),v,.pl (.str o),v']) ?_ ?_
 ·refine DrS.mono (c:=0) (DrS.for (c:=0) (enc:=λ(k:Nat)=>PyData.int (k:Int)) (l:=List.range 26) (bs:=[]) rfl (λpre e=>∃(cs:List Nat)(v':Sl),1<=cs.length/\cs.length<=8/\(∀c∈cs,c<128)/\p<cs.length/\e=[.no,.pl (zas A),.pl (.str abc),.pl (.int w),.pl (.int l),.pl (.int p),.pl (.int q),.ac (zhu cs),v,.pl (.str o),v']) ⟨cs,.no,c0,c1,hlow,p1,rfl⟩ ?_ ?_) (by decide)
  ·rintro pre k post e - ⟨cs,v',c0,c1,hlow,p1,rfl⟩
   refine⟨_,rfl,?_⟩
   refine DrS.seq (c1:=0) (c2:=0) (N1:=λe=>e=[.no,.pl (zas A),.pl (.str abc),.pl (.int w),.pl (.int l),.pl (.int p),.pl (.int q),.ac (zhu cs),v,.pl (.str o),.pl (.int (k:Int))]) ?_ ?_
   ·exact DrS.iff (c1:=0) (c2:=0) (P1:=λ_=>True) (DrT.pure (zks (e_in (neg:=true) (xs:=A) (zaak rfl c1) rfl)) trivial) (λ_=>DrS.ret (Dr.pure (zaak rfl c1) ⟨rfl,_,rfl,zaji c0 c1 hlow⟩)) λ_=>DrS.nx rfl
   rintro e rfl
   have hpc:p.toNat<cs.length:=by omega
   have e7:eIxV 7 (eVar 5) [.no,.pl (zas A),.pl (.str abc),.pl (.int w),.pl (.int l),.pl (.int p),.pl (.int q),.ac (zhu cs),v,.pl (.str o),.pl (.int (k:Int))]=some (vs (sg cs[p.toNat])):=zalc (n:=p.toNat) (ds:=(cs.map sg).map .str) rfl (by show some (vi p)=_;rw[show((p.toNat:Nat):Int)=p by omega]) (by rw[qa,qa,qN hpc];rfl)
   generalize hf:Txt.find abc (sg cs[p.toNat])=f
   have ef:zzs (eVar 2) (eIxV 7 (eVar 5)) [.no,.pl (zas A),.pl (.str abc),.pl (.int w),.pl (.int l),.pl (.int p),.pl (.int q),.ac (zhu cs),v,.pl (.str o),.pl (.int (k:Int))]=some (vi f):=by
    unfold zzs
    rw[e7]
    show some (vi (Txt.find abc (sg cs[p.toNat])))=_
    rw[hf]
   have m0:0<=(f+1) % 26:=qAN _ (by decide)
   have m1:(f+1) % 26<26:=qAH _ (by decide)
   refine DrS.setI (c:=0) (ds:=(cs.map sg).map .str) (j:=p.toNat) rfl (zaja rfl (znr (zuz ef rfl) rfl (by decide)) m0 m1) rfl (zajk p0 (by rw[qC,qC];exact p1)) ⟨cs.set p.toNat (97+((f+1) % 26).toNat),.pl (.int (k:Int)),by rw[qe];exact c0,by rw[qe];exact c1,λc hc=>?_,by rw[qe];exact p1,?_⟩
   ·rcases List.mem_or_eq_of_mem_set hc with hc|rfl
    ·exact hlow c hc
    ·omega
   ·show _=[Sl.no,_,_,_,_,_,_,.ac (.list (((cs.set p.toNat (97+((f+1) % 26).toNat)).map sg).map .str)),_,_,_]
    rw[List.map_set,List.map_set];rfl
  ·rintro e ⟨cs,v',c0,c1,hlow,p1,rfl⟩
   exact⟨cs,v',c0,c1,hlow,rfl⟩
 rintro e ⟨cs,v',c0,c1,hlow,rfl⟩
 exact DrS.ret (Dr.pure (zaak rfl c1) ⟨rfl,_,rfl,zaji c0 c1 hlow⟩)
noncomputable abbrev Kd:=Str×List Str
noncomputable def kdD(r:Kd):PyData:=.tuple [.str r.1,zas r.2]
structure KdOk(r:Kd):Prop where
 n:Wd r.1
 e:∀x∈r.2,Wd x
 l:r.2.length<=4
inductive Pick where
 | own (i:Int)
 | new (w:Str) (i:Int)
inductive Stp where
 | say (i:Int)
 | tell (i:Int)
 | onw
 | call (d:Str) (ps:List Pick)
noncomputable def zhv:Pick->PyData
 | .own i=>.tuple [.str "own",.int i]
 | .new w i=>.tuple [.str "new",.str w,.int i]
noncomputable def zlb:Pick->Prop
 | .own i=>Fig i
 | .new w i=>Wd w/\Fig i
noncomputable def stpD:Stp->PyData
 | .say i=>.tuple [.str "say",.int i]
 | .tell i=>.tuple [.str "tell",.int i]
 | .onw=>.tuple [.str "onward"]
 | .call d ps=>.tuple [.str "call",.str d,.list (ps.map zhv)]
noncomputable def zkh:Stp->Prop
 | .say i=>Fig i
 | .tell i=>Fig i
 | .onw=>True
 | .call d ps=>Wd d/\ps.length<=3/\∀p∈ps,zlb p
structure Rl where
 n:Str
 ks:List Str
 ss:List Stp
noncomputable def rlD(r:Rl):PyData:=.tuple [.str r.n,.tuple (r.ks.map .str),.list (r.ss.map stpD)]
structure RlOk3(r:Rl):Prop where
 n:Wd r.n
 ks:∀x∈r.ks,Wd x
 kl:r.ks.length<=3
 ss:∀x∈r.ss,zkh x
 sl:r.ss.length<=6
structure Dd where
 n:Str
 p:Int
 rs:List Rl
noncomputable def ddD(d:Dd):PyData:=.tuple [.str d.n,.int d.p,.list (d.rs.map rlD)]
structure DdOk(d:Dd):Prop where
 n:Wd d.n
 p0:1<=d.p
 p1:d.p<=3
 rs:∀x∈d.rs,RlOk3 x
 rl:d.rs.length<=12
noncomputable def pgD(W:List Kd)(ds:List Dd):PyData:=.tuple [.list (W.map kdD),.list (ds.map ddD)]
structure PgOk(W:List Kd)(ds:List Dd):Prop where
 w:∀r∈W,KdOk r
 wl:W.length<=10
 d:∀x∈ds,DdOk x
 dl:ds.length<=4
theorem zvl{α:Type}(enc:α->PyData)(A:List α)(lo hi:Option Int):∃B:List α,cutD (A.map enc) lo hi=B.map enc/\(∀x∈B,x∈A)/\B.length<=A.length:=by
 unfold cutD
 refine⟨(A.drop (HT.sIx (A.map enc).length 0 lo)).take (HT.sIx (A.map enc).length (A.map enc).length hi - HT.sIx (A.map enc).length 0 lo),by rw[List.map_take,List.map_drop],λx hx=>List.mem_of_mem_drop (List.mem_of_mem_take hx),?_⟩
 rw[qAr,qBA]
 omega
theorem DrS.pool{x y z a c2 c3 c4:Nat}{env:DEnv}{N:DEnv->Prop}{R:PyData->Bool->Prop}{e1:EF}{e2:EFr Pen3}{g:GR Pen3}{F4:SFr Pen3}{r1:Val}(h1:e1 env=some r1)(lx:x<env.length)(ly:y<env.length)
  (h2:Dr c2 e2 (env.set x .no) λr2=>zfb r2.d=true/\∃da ds,(putV (env.set x .no) y r2)[a]?=some (.pl da)/\(putV (env.set x .no) y r2)[z]?=some (.ac (.list ds))/\zfb da=true/\ds.length<100000/\
   DrG c3 g [r1.d,r2.d] λd3 fr3=>fr3=true/\∃l3,d3=.list l3/\zda l3=true/\DrS c4 F4 ((putV (env.set x .no) y r2).set z (.ac (.list (ds++[.tuple [da,.list l3]])))) N R):DrS (c2+c3+c4) (zxk x y z a e1 e2 g F4) env N R:=λn st hb=>by
 obtain⟨r2,s2,e2',⟨f2,da,ds,ha,hz,fa,hl,hg⟩,b2⟩:=h2 (n+c4+c3) st (hb.mono (by omega))
 obtain⟨d3,fr3,s3,e3,⟨hf,l3,hd,f3,h4⟩,b3⟩:=hg (n+c4) s2 b2
 have ef:zxk x y z a e1 e2 g F4 env st=F4 ((putV (env.set x .no) y r2).set z (.ac (.list (ds++[.tuple [da,.list l3]])))) s3:=by
  subst hd
  subst hf
  unfold zxk
  rw[h1]
  show((e2 (env.set x .no) st).bind _)=_
  rw[e2']
  dsimp only[qQ]
  rw[ha,hz]
  dsimp only
  rw[e3]
  dsimp only[qQ]
  rw[if_pos ⟨fa,f2,f3,rfl,hl,lx,ly⟩]
 rw[ef]
 exact h4 n s3 b3
theorem zid(xs:List Str):zda (xs.map .str)=true:=by
 unfold zda
 rw[qAO]
 intro d hd
 obtain⟨x,_,rfl⟩:=ql.mp hd
 rfl
theorem zagd{a:EF}{l h:PF'}{env:DEnv}{x:Val}{lo hi:Option Int}{d:PyData}{fr:Bool}(ha:a env=some x)(hl:l env=some lo)(hh:h env=some hi)(k:slD x.d lo hi=some (d,fr)):eSl a l h env=some ⟨d,fr,bsOf d x.bs⟩:=by
 unfold eSl;rw[ha,hl,hh];show((slD x.d lo hi).bind _)=_;rw[k];rfl
theorem zact{A:List Str}{env:DEnv}{w:Int}(h4:env[4]?=some (.ac (zas A)))(h2:env[2]?=some (.pl (.int w)))(w0:0<=w)(w1:w<5) :
  ∃(B:List Str)(fr:Bool)(bs:List Nat),eOp ixD (eLst (zag (eSl (eVar 4) (zmy (eNeg (eC (.int 1)))) zpk) (zag (eVar 4) (zag (eVar 4) (zag (eSl (eVar 4) zpk (zmy (eC (.int 2)))) (zag (eVar 4) aNil)))))) (eVar 2) env=some ⟨zas B,fr,bs⟩/\(∀x∈B,x∈A)/\B.length<=A.length:=by
 obtain⟨B1,e1,s1,l1⟩:=zvl PyData.str A (some (-1)) none
 obtain⟨B2,e2,s2,l2⟩:=zvl PyData.str A none (some 2)
 have v4:eVar 4 env=some ⟨zas A,false,[4]⟩:=by unfold eVar;rw[h4]
 have v2:eVar 2 env=some (vi w):=by unfold eVar;rw[h2]
 have a1:eSl (eVar 4) (zmy (eNeg (eC (.int 1)))) zpk env=some ⟨zas B1,true,[4]⟩:=zagd (lo:=some (-1)) (hi:=none) (d:=zas B1) (fr:=true) v4 rfl rfl (by unfold zas slD;dsimp only;rw[e1])
 have a2:eSl (eVar 4) zpk (zmy (eC (.int 2))) env=some ⟨zas B2,true,[4]⟩:=zagd (lo:=none) (hi:=some 2) (d:=zas B2) (fr:=true) v4 rfl rfl (by unfold zas slD;dsimp only;rw[e2])
 have el:eLst (zag (eSl (eVar 4) (zmy (eNeg (eC (.int 1)))) zpk) (zag (eVar 4) (zag (eVar 4) (zag (eSl (eVar 4) zpk (zmy (eC (.int 2)))) (zag (eVar 4) aNil))))) env=some ⟨.list [zas B1,zas A,zas A,zas B2,zas A],true,[4,4,4,4,4]⟩:=by
  unfold eLst
  rw[zht a1 (zht v4 (zht v4 (zht a2 (zht v4 rfl))))]
  rfl
 obtain⟨d,ed,m⟩:=zkg (l:=[zas B1,zas A,zas A,zas B2,zas A]) w0 w1
 have key:∃B:List Str,d=zas B/\(∀x∈B,x∈A)/\B.length<=A.length:=by
  simp only[qW,qAh,or_false]at m
  rcases m with rfl|rfl|rfl|rfl|rfl
  ·exact⟨B1,rfl,s1,l1⟩
  ·exact⟨A,rfl,λ_ h=>h,qI _⟩
  ·exact⟨A,rfl,λ_ h=>h,qI _⟩
  ·exact⟨B2,rfl,s2,l2⟩
  ·exact⟨A,rfl,λ_ h=>h,qI _⟩
 obtain⟨B,rfl,hB⟩:=key
 exact⟨B,false,_,zgl el v2 (by unfold ixD;dsimp only;rw[ed];rfl),hB⟩
noncomputable abbrev cntE:EFr Pen3:=rOp ixD (rLst (zaz (zak (eC (.int 1))) (zaz (zak (eC (.int 1))) (zaz (rOp addD (zak (eC (.int 1))) (zbd 2 zai (zaz (zak (eC (.int 2))) rNil))) (zaz (zak (eOp mulD (eC (.int 2)) (eCB zlz (zag (eOp gtD (eVar 5) (eC (.int 1))) aNil)))) (zaz (zbd 2 zai (zaz (zak (eC (.int 5))) rNil)) rNil)))))) (zak (eVar 2))
theorem zajl{env:DEnv}{w k:Int}(h5:env[5]?=some (.pl (.int k)))(h2:env[2]?=some (.pl (.int w)))(w0:0<=w)(w1:w<5):Dr 2 cntE env λr=>∃c:Int,r=vi c/\0<=c/\c<=4:=by
 refine Dr.op (c1:=2) (c2:=0) (P1:=λr=>∃(x y z:Int),r.d=.list [.int 1,.int 1,.int x,.int y,.int z]/\0<=x/\x<=4/\0<=y/\y<=4/\0<=z/\z<=4) (P2:=λr=>r=vi w) ?_ (Dr.pure (by unfold eVar;rw[h2]) rfl) ?_
 ·refine Dr.lst (c:=2) (PA:=λrs=>∃(x y z:Int),zdb rs=[.int 1,.int 1,.int x,.int y,.int z]/\0<=x/\x<=4/\0<=y/\y<=4/\0<=z/\z<=4) ?_ λrs ⟨x,y,z,hd,h⟩=>⟨?_,x,y,z,by rw[hd],h⟩
  ·refine DrA.cons (c1:=0) (c2:=2) (P1:=λr=>r=vi 1) (P2:=λrs=>∃(x y z:Int),zdb rs=[.int 1,.int x,.int y,.int z]/\0<=x/\x<=4/\0<=y/\y<=4/\0<=z/\z<=4) (Dr.pure rfl rfl) ?_ (λr rs hr ⟨x,y,z,hd,h⟩=>⟨x,y,z,by rw[hr];show _::zdb rs=_;rw[hd],h⟩)
   refine DrA.cons (c1:=0) (c2:=2) (P1:=λr=>r=vi 1) (P2:=λrs=>∃(x y z:Int),zdb rs=[.int x,.int y,.int z]/\0<=x/\x<=4/\0<=y/\y<=4/\0<=z/\z<=4) (Dr.pure rfl rfl) ?_ (λr rs hr ⟨x,y,z,hd,h⟩=>⟨x,y,z,by rw[hr];show _::zdb rs=_;rw[hd],h⟩)
   refine DrA.cons (c1:=1) (c2:=1) (P1:=λr=>∃x:Int,r=vi x/\0<=x/\x<=4) (P2:=λrs=>∃(y z:Int),zdb rs=[.int y,.int z]/\0<=y/\y<=4/\0<=z/\z<=4) ?_ ?_ (λr rs ⟨x,hr,hx⟩ ⟨y,z,hd,h⟩=>⟨x,y,z,by rw[hr];show _::zdb rs=_;rw[hd],hx.1,hx.2,h⟩)
   ·refine Dr.op (c1:=0) (c2:=1) (P1:=λr=>r=vi 1) (Dr.pure rfl rfl) (zbv (k:=2) (by decide) (by decide)) ?_
    rintro a b rfl ⟨x,rfl,h0,h1⟩
    exact⟨.int (1+x),false,rfl,1+x,rfl,by omega,by omega⟩
   refine DrA.cons (c1:=0) (c2:=1) (P1:=λr=>∃y:Int,r=vi y/\0<=y/\y<=4) (P2:=λrs=>∃z:Int,zdb rs=[.int z]/\0<=z/\z<=4) ?_ ?_ (λr rs ⟨y,hr,hy⟩ ⟨z,hd,h⟩=>⟨y,z,by rw[hr];show _::zdb rs=_;rw[hd],hy.1,hy.2,h⟩)
   ·have e5:eVar 5 env=some (vi k):=by unfold eVar;rw[h5]
    have e6:eCB zlz (zag (eOp gtD (eVar 5) (eC (.int 1))) aNil) env=some (vi (if decide (1<k)=true then 1 else 0)):=zla (zgf (zgl e5 rfl rfl)) rfl
    refine Dr.pure (zva rfl e6 (.inl ⟨by decide,by decide⟩)) ⟨_,rfl,?_,?_⟩<;>split<;>omega
   ·refine DrA.one ((zbv (k:=5) (by decide) (by decide)).imp ?_)
    rintro r ⟨z,rfl,h0,h1⟩
    exact⟨z,rfl,h0,by omega⟩
  ·have:=congrArg List.length hd
   rw[zes]at this
   rw[this];show 5<=100000;decide
 ·rintro a b ⟨x,y,z,hd,h⟩ rfl
  obtain⟨d,ed,m⟩:=zkg (l:=[PyData.int 1,.int 1,.int x,.int y,.int z]) w0 w1
  have key:∃c:Int,d=.int c/\0<=c/\c<=4:=by
   simp only[qW,qAh,or_false]at m
   rcases m with rfl|rfl|rfl|rfl|rfl
   ·exact⟨1,rfl,by decide,by decide⟩
   ·exact⟨1,rfl,by decide,by decide⟩
   ·exact⟨x,rfl,h.1,h.2.1⟩
   ·exact⟨y,rfl,h.2.2.1,h.2.2.2.1⟩
   ·exact⟨z,rfl,h.2.2.2.2⟩
  obtain⟨c,rfl,hc⟩:=key
  exact⟨.int c,false,by rw[hd];unfold ixD;dsimp only;rw[ed];rfl,c,rfl,hc⟩
theorem zald{m:Int}(m0:0<=m)(m1:m<=10):DrG 150 zew [.int m] λd fr=>fr=true/\∃W:List Kd,d=.list (W.map kdD)/\(W.length:Int)=m/\∀r∈W,KdOk r:=by
 refine DrS.fn (env:=[.no,.pl (.int m),.no,.no,.no,.no,.no,.no,.no]) rfl ?_
 refine DrS.seq (c1:=1) (c2:=149) (N1:=λe=>∃w:Int,0<=w/\w<5/\e=[.no,.pl (.int m),.pl (.int w),.no,.no,.no,.no,.no,.no]) (DrS.set ((zbv (k:=5) (by decide) (by decide)).imp ?_)) ?_
 ·rintro r ⟨x,rfl,h0,h1⟩;exact⟨x,h0,h1,rfl⟩
 rintro e ⟨w,w0,w1,rfl⟩
 refine DrS.seq (c1:=0) (c2:=149) (N1:=λe=>e=[.no,.pl (.int m),.pl (.int w),.ac (.list []),.no,.no,.no,.no,.no]) (DrS.set (Dr.pure rfl rfl)) ?_
 rintro e rfl
 refine DrS.seq (c1:=0) (c2:=149) (N1:=λe=>e=[.no,.pl (.int m),.pl (.int w),.ac (.list []),.ac (.list []),.no,.no,.no,.no]) (DrS.set (Dr.pure rfl rfl)) ?_
 rintro e rfl
 have it:zcw (zag (eVar 1) aNil) [.no,.pl (.int m),.pl (.int w),.ac (.list []),.ac (.list []),.no,.no,.no,.no]=some ((List.range m.toNat).map (λ(k:Nat)=>PyData.int (k:Int)),[]):=by
  show(if _ then _ else _)=_
  rw[if_pos (by omega),zhf]
 refine DrS.seq (c1:=149) (c2:=0) (N1:=λe=>∃(W:List Kd)(A:List Str)(v5 v6 v7 v8:Sl),W.length=m.toNat/\(∀r∈W,KdOk r)/\e=[.no,.pl (.int m),.pl (.int w),.ac (.list (W.map kdD)),.ac (zas A),v5,v6,v7,v8]) ?_ ?_
 ·refine DrS.mono (DrS.for (c:=13) it (λpre e=>∃(W:List Kd)(A:List Str)(v5 v6 v7 v8:Sl),W.length=pre.length/\(∀r∈W,KdOk r)/\(∀x∈A,Wd x)/\A.length=pre.length/\e=[.no,.pl (.int m),.pl (.int w),.ac (.list (W.map kdD)),.ac (zas A),v5,v6,v7,v8]) ⟨[],[],.no,.no,.no,.no,rfl,(λr hr=>by cases hr),(λr hr=>by cases hr),rfl,rfl⟩ ?_ ?_) (by rw[qX];omega)
  ·rintro pre k post e hp ⟨W,A,v5,v6,v7,v8,hW,hWo,hA,hAl,rfl⟩
   have hk:pre.length<m.toNat:=by
    have:=congrArg List.length hp
    rw[qF,qs,qX]at this
    omega
   refine⟨_,rfl,?_⟩
   refine DrS.seq (c1:=7) (c2:=6) (N1:=λe=>∃x:Str,Wd x/\e=[.no,.pl (.int m),.pl (.int w),.ac (.list (W.map kdD)),.ac (zas A),.pl (.int (k:Int)),.pl (.str x),v7,v8]) (DrS.set ?_) ?_
   ·refine Dr.call (c1:=0) (c2:=7) (PA:=λrs=>rs=[⟨zas A,false,[4]⟩]) (DrA.one (Dr.pure rfl rfl)) ?_
    rintro rs rfl
    refine⟨rfl,λn st hb=>?_⟩
    obtain⟨d,fr,s,e,⟨h1,x,h2,h3⟩,b⟩:=zadq hA n st hb
    exact⟨d,fr,s,e,⟨x,h3,by rw[h1,h2];rfl⟩,b⟩
   rintro e ⟨x,hx,rfl⟩
   obtain⟨B,fr,bs,eB,hB,hBl⟩:=zact (A:=A) (env:=[.no,.pl (.int m),.pl (.int w),.ac (.list (W.map kdD)),.ac (zas A),.pl (.int (k:Int)),.pl (.str x),v7,v8]) rfl rfl w0 w1
   refine DrS.pool (c2:=2) (c3:=4) (c4:=0) eB (by show 7<9;decide) (by show 8<9;decide) ((zajl (k:=(k:Int)) rfl rfl w0 w1).imp ?_)
   rintro r ⟨c,rfl,h0,h1⟩
   refine⟨rfl,.str x,W.map kdD,rfl,rfl,rfl,by rw[qC];omega,λn st hb=>?_⟩
   obtain⟨d,fr3,s,e,⟨h2,l',h3,h4,h5⟩,b⟩:=zaag (enc:=PyData.str) B (m:=c) (C:=4) h0 (by omega) (by omega) (by omega) n st hb
   refine⟨d,fr3,s,e,⟨h2,_,h3,zid _,?_⟩,b⟩
   refine DrS.app (ds:=A.map .str) rfl (by rw[qC];omega) (Dr.pure rfl ⟨by simp,W++[(x,l')],A++[x],.pl (.int (k:Int)),.pl (.str x),.no,.pl (.int c),by simp[hW],λr hr=>?_,λy hy=>?_,by simp[hAl],?_⟩)
   ·rcases qz.mp hr with hr|hr
    ·exact hWo r hr
    ·rw[qR.mp hr]
     exact⟨hx,λy hy=>hA y (hB y (h4 y hy)),by show l'.length<=4;omega⟩
   ·rcases qz.mp hy with hy|hy
    ·exact hA y hy
    ·rw[qR.mp hy];exact hx
   ·show _=[Sl.no,_,_,.ac (.list ((W++[(x,l')]).map kdD)),.ac (.list ((A++[x]).map .str)),_,_,_,_]
    rw[qr,qr];rfl
  ·rintro e ⟨W,A,v5,v6,v7,v8,hW,hWo,hA,hAl,rfl⟩
   exact⟨W,A,v5,v6,v7,v8,by rw[hW,qX],hWo,rfl⟩
 rintro e ⟨W,A,v5,v6,v7,v8,hW,hWo,rfl⟩
 exact DrS.retV (F:=zkc 3) rfl ⟨rfl,W,rfl,by omega,hWo⟩
structure Shn(d:PyData)(n k:Nat):Prop where
 lay:d.canLay0=true
 shw:d.showable=true
 dep:d.depth<=k
 len:d.shown.length<=n
theorem Shn.mono{d:PyData}{n k m j:Nat}(h:Shn d n k)(a:n<=m)(b:k<=j):Shn d m j:=⟨h.lay,h.shw,qf h.dep b,qf h.len a⟩
theorem zxt:∀c<128,∀q∈[34,39],(Builtin.Str.reprChar q c).length<=4:=by decide +kernel
theorem zaal{x:Str}(h:Low x)(hl:x.length<=8):(reprText x).length<=34:=by
 have hq:reprQuote x∈[34,39]:=by unfold reprQuote;split<;>simp
 have fold:∀(l:List Nat)(a:Array Nat),(∀c∈l,c<128)->(l.foldl (λout c=>out++(Builtin.Str.reprChar (reprQuote x) c).toArray) a).size<=a.size+4 * l.length:=by
  intro l
  induction l with
  | nil=>intro a _;simp
  | cons c l ih=>
   intro a hc
   rw[qBJ]
   have h1:=ih (a++(Builtin.Str.reprChar (reprQuote x) c).toArray) λc' hc'=>hc c' (qL _ hc')
   have h2:=zxt c (hc c (by simp)) _ hq
   rw[Array.size_append]at h1
   simp only[qJ,qs]at h1 ⊢
   omega
 show((x.cps.foldl (λout c=>out++(Builtin.Str.reprChar (reprQuote x) c).toArray) #[reprQuote x]).push (reprQuote x)).size<=34
 rw[Array.size_push,<- Array.foldl_toList]
 have h1:=fold x.cps.toList #[reprQuote x] λc hc=>h c (by first|exact hc|exact qBb.mp hc|exact Array.mem_toList.mp hc)
 have h2:x.cps.toList.length=x.length:=rfl
 have h3:(#[reprQuote x]:Array Nat).size=1:=rfl
 omega
theorem zey{x:Str}(h:Wd x):Shn (.str x) 34 0:=⟨by simp only[PyData.canLay0];exact zzz h.low,by simp only[PyData.showable],by simp only[PyData.depth];exact qI _,by simp only[PyData.shown];exact zaal h.low h.hi⟩
theorem zez{i:Int}(h:Fig i):(Str.ofString (toString i)).length<=32:=by
 cases i with
 | ofNat n=>
  have:n<10 ^ 30:=h
  have:=zaaf.mpr this
  have e:(Str.ofString (toString (Int.ofNat n))).length<=30:=this
  omega
 | negSucc n=>
  have h':n+1<10 ^ 30:=h
  have:=zaaf.mpr h'
  have e1:toString (Int.negSucc n)="-"++toString ((n+1:Nat):Int):=rfl
  rw[e1,qAs]
  rw[qAs]at this
  simp[Str.length]at this ⊢
  omega
theorem zage{i:Int}(h:Fig i):i.natAbs.log2<1920:=by
 rcases qA5 i.natAbs with h0|hp
 ·rw[h0];decide
 ·have:i.natAbs.log2<400:=(Nat.log2_lt (by omega)).mpr (qH h (by decide +kernel))
  omega
theorem zpb{i:Int}(h:Fig i):Shn (.int i) 32 0:=⟨by simp only[PyData.canLay0],by simp only[PyData.showable];exact decide_eq_true (zage h),by simp only[PyData.depth];exact qI _,by simp only[PyData.shown];exact zez h⟩
theorem zvm:∀{ds:List PyData},(∀d∈ds,d.canLay0=true)->qAX ds=true
 | [],_=>by simp only[qAX]
 | d::ds,h=>by simp only[qAX,qy];exact⟨h d (by simp),zvm λx hx=>h x (qL _ hx)⟩
theorem zvn:∀{ds:List PyData},(∀d∈ds,d.showable=true)->PyData.showableAll ds=true
 | [],_=>by simp only[PyData.showableAll]
 | d::ds,h=>by simp only[PyData.showableAll,qy];exact⟨h d (by simp),zvn λx hx=>h x (qL _ hx)⟩
theorem zvo{k:Nat}:∀{ds:List PyData},(∀d∈ds,d.depth<=k)->qA9 ds<=k
 | [],_=>by simp only[qA9];exact qAR _
 | d::ds,h=>by simp only[qA9];exact Nat.max_le.mpr ⟨h d (by simp),zvo λx hx=>h x (qL _ hx)⟩
theorem zjm:∀ds:List PyData,PyData.shownAll ds=ds.map PyData.shown
 | []=>by simp only[PyData.shownAll];rfl
 | d::ds=>by simp only[PyData.shownAll];rw[zjm ds];rfl
theorem zpc:∀(ts:List Str)(k:Nat)(acc:Str),(textFrom k acc ts).length<=acc.length+(ts.map λt=>t.length+2).sum
 | [],k,acc=>by show acc.length<=_;omega
 | t::r,k,acc=>by
  have h:=zpc r (k+1) (acc++(if k > 0 then ", "else "":String)++t)
  have e:(acc++(if k > 0 then ", "else "":String)++t).length<=acc.length+2+t.length:=by
   rw[qAf,qAf]
   split
   ·show acc.length+2+t.length<=_;omega
   ·show acc.length+0+t.length<=_;omega
  show(textFrom (k+1) _ r).length<=_
  rw[qm,qAo]
  omega
theorem zjt{ds:List PyData}{n k m:Nat}(h:∀d∈ds,Shn d n k)(hl:ds.length<=m):Shn (.list ds) (m * (n+2)+2) (k+1):=by
 refine⟨by simp only[PyData.canLay0];exact zvm λd hd=>(h d hd).lay,by simp only[PyData.showable];exact zvn λd hd=>(h d hd).shw,by simp only[PyData.depth];exact qBD (zvo λd hd=>(h d hd).dep),?_⟩
 simp only[PyData.shown]
 unfold listText
 rw[qAf,zjm]
 have h1:=zpc (ds.map PyData.shown) 0 "["
 have h2:(((ds.map PyData.shown).map λt=>t.length+2).sum)<=ds.length * (n+2):=by
  rw[qAM]
  exact zqk λd hd=>by have:=(h d hd).len;show d.shown.length+2<=n+2;omega
 have h3:ds.length * (n+2)<=m * (n+2):=qAv _ hl
 have e1:((("[":String):Str)).length=1:=rfl
 have e2:((("]":String):Str)).length=1:=rfl
 rw[e2]
 rw[e1]at h1
 omega
theorem zaam:∀ts:List Str,(Str.join ", " ts).length<=(ts.map λt=>t.length+2).sum
 | []=>qAR _
 | [x]=>by show x.length<=x.length+2+0;omega
 | x::y::r=>by
  have ih:=zaam (y::r)
  show(x++", "++Str.join ", " (y::r)).length<=_
  have e2:((", ":String):Str).length=2:=rfl
  rw[qAf,qAf,e2,qm,qAo]
  omega
theorem zlc{ds:List PyData}{k m:Nat}(h:∀d∈ds,d.canLay0=true/\d.showable=true/\d.depth<=k)(hl:(ds.map λd=>d.shown.length+2).sum<=m):Shn (.tuple ds) (m+3) (k+1):=by
 refine⟨by simp only[PyData.canLay0];exact zvm λd hd=>(h d hd).1,by simp only[PyData.showable];exact zvn λd hd=>(h d hd).2.1,by simp only[PyData.depth];exact qBD (zvo λd hd=>(h d hd).2.2),?_⟩
 simp only[PyData.shown]
 unfold tupleText
 rw[qAf,qAf,zjm]
 have h1:=zaam (ds.map PyData.shown)
 rw[qAM]at h1
 have h1:(Str.join ", " (ds.map PyData.shown)).length<=(ds.map λd=>d.shown.length+2).sum:=h1
 have e1:((("(":String):Str)).length=1:=rfl
 have e3:(((if(ds.map PyData.shown).length==1 then ",)"else ")":String):Str)).length<=2:=by split<;>decide
 rw[e1]
 omega
theorem zajm{a:PyData}{n k:Nat}(ha:Shn a n k):Shn (.tuple [a]) (n+2+3) (k+1):=zlc (λd hd=>by rcases qW.mp hd with rfl|hd;exact⟨ha.lay,ha.shw,ha.dep⟩;cases hd) (by show a.shown.length+2+0<=_;have:=ha.len;omega)
theorem ztv{a b:PyData}{n m k:Nat}(ha:Shn a n k)(hb:Shn b m k):Shn (.tuple [a,b]) (n+m+4+3) (k+1):=zlc (λd hd=>by
 rcases qW.mp hd with rfl|hd
 ·exact⟨ha.lay,ha.shw,ha.dep⟩
 ·rw[qR.mp hd];exact⟨hb.lay,hb.shw,hb.dep⟩) (by show a.shown.length+2+(b.shown.length+2+0)<=_;have:=ha.len;have:=hb.len;omega)
theorem zwn{a b c:PyData}{n m l k:Nat}(ha:Shn a n k)(hb:Shn b m k)(hc:Shn c l k):Shn (.tuple [a,b,c]) (n+m+l+6+3) (k+1):=zlc (λd hd=>by
 rcases qW.mp hd with rfl|hd
 ·exact⟨ha.lay,ha.shw,ha.dep⟩
 ·rcases qW.mp hd with rfl|hd
  ·exact⟨hb.lay,hb.shw,hb.dep⟩
  ·rw[qR.mp hd];exact⟨hc.lay,hc.shw,hc.dep⟩) (by show a.shown.length+2+(b.shown.length+2+(c.shown.length+2+0))<=_;have:=ha.len;have:=hb.len;have:=hc.len;omega)
theorem zajn:Wd "own":=zpa (by decide +kernel)
theorem zajo:Wd "new":=zpa (by decide +kernel)
theorem zajp:Wd "say":=zpa (by decide +kernel)
theorem zagf:Wd "tell":=zpa (by decide +kernel)
theorem zajq:Wd "onward":=zpa (by decide +kernel)
theorem zagg:Wd "call":=zpa (by decide +kernel)
theorem zwo{xs:List Str}{m:Nat}(h:∀x∈xs,Wd x)(hl:xs.length<=m):Shn (zas xs) (m * 36+2) 1:=zjt (n:=34) (k:=0) (λd hd=>by obtain⟨x,hx,rfl⟩:=ql.mp hd;exact zey (h x hx)) (by rw[qC];exact hl)
theorem zajr{r:Kd}(h:KdOk r):Shn (kdD r) 187 2:=(ztv ((zey h.n).mono (qI _) (by decide:0<=1)) (zwo h.e h.l)).mono (by decide) (by decide)
theorem zacu{p:Pick}(h:zlb p):Shn (zhv p) 109 1:=by
 cases p with
 | own i=>exact(ztv (zey zajn) (zpb h)).mono (by decide) (by decide)
 | new w i=>exact(zwn (zey zajo) (zey h.1) (zpb h.2)).mono (by decide) (by decide)
theorem zagh{s:Stp}(h:zkh s):Shn (stpD s) 412 3:=by
 cases s with
 | say i=>exact(ztv (zey zajp) (zpb h)).mono (by decide) (by decide)
 | tell i=>exact(ztv (zey zagf) (zpb h)).mono (by decide) (by decide)
 | onw=>exact(zajm (zey zajq)).mono (by decide) (by decide)
 | call d ps=>exact(zwn (k:=2) ((zey zagg).mono (qI _) (by decide)) ((zey h.1).mono (qI _) (by decide)) (zjt (n:=109) (k:=1) (m:=3) (λx hx=>by obtain⟨y,hy,rfl⟩:=ql.mp hx;exact zacu (h.2.2 y hy)) (by rw[qC];exact h.2.1))).mono (by decide) (by decide)
theorem ztw{ss:List Stp}(h:∀s∈ss,zkh s)(hl:ss.length<=6):Shn (.list (ss.map stpD)) 2486 4:=(zjt (n:=412) (k:=3) (m:=6) (λx hx=>by obtain⟨y,hy,rfl⟩:=ql.mp hx;exact zagh (h y hy)) (by rw[qC];exact hl)).mono (by decide) (by decide)
theorem zajs{r:Rl}(h:RlOk3 r):Shn (rlD r) 2640 5:=by
 have kt:Shn (.tuple (r.ks.map .str)) 111 1:=by
  refine(zlc (k:=0) (m:=3 * 36) (λd hd=>?_) ?_).mono (by decide) (by decide)
  ·obtain⟨x,hx,rfl⟩:=ql.mp hd
   have:=zey (h.ks x hx)
   exact⟨this.lay,this.shw,this.dep⟩
  ·rw[qAM]
   refine qf (zqk (B:=36) λx hx=>?_) (qAv _ h.kl)
   have:=(zey (h.ks x hx)).len
   show(PyData.str x).shown.length+2<=36
   omega
 exact(zwn (k:=4) ((zey h.n).mono (qI _) (by decide)) (kt.mono (qI _) (by decide)) (ztw h.ss h.sl)).mono (by decide) (by decide)
theorem fig3{p:Int}(h0:1<=p)(h1:p<=3):Fig p:=qH (show p.natAbs<1000 by omega) (by decide +kernel)
theorem zajt{d:Dd}(h:DdOk d):Shn (ddD d) 31781 7:=(zwn (k:=6) ((zey h.n).mono (qI _) (by decide)) ((zpb (fig3 h.p0 h.p1)).mono (qI _) (by decide)) (zjt (n:=2640) (k:=5) (m:=12) (λx hx=>by obtain⟨y,hy,rfl⟩:=ql.mp hx;exact zajs (h.rs y hy)) (by rw[qC];exact h.rl))).mono (by decide) (by decide)
theorem zaju{W:List Kd}{ds:List Dd}(h:PgOk W ds):Shn (pgD W ds) 200000 9:=(ztv (k:=8) ((zjt (n:=187) (k:=2) (m:=10) (λx hx=>by obtain⟨y,hy,rfl⟩:=ql.mp hx;exact zajr (h.w y hy)) (by rw[qC];exact h.wl)).mono (qI _) (by decide)) (zjt (n:=31781) (k:=7) (m:=4) (λx hx=>by obtain⟨y,hy,rfl⟩:=ql.mp hx;exact zajt (h.d y hy)) (by rw[qC];exact h.dl))).mono (by decide) (by decide)
theorem zagi{W:List Kd}{ds:List Dd}(h:PgOk W ds):∃x:Str,zuy [pgD W ds]=some (.str x,false):=by
 have s:=zaju h
 refine⟨(pgD W ds).shown,?_⟩
 unfold zuy
 dsimp only
 rw[if_pos ⟨rfl,s.lay,s.shw,qf s.dep (by decide),qf s.len (by decide)⟩]
theorem zagj{ds:List PyData}{n k:Nat}(h:Shn (.list ds) n k)(hk:k<=64):neD (.list ds) (.list [])=some (.bool (!ds.isEmpty),false):=by
 have s1:qAg (.list ds)=true:=by unfold qAg;rw[h.lay,decide_eq_true (qf h.dep hk)];rfl
 have s2:qAg (.list [])=true:=by decide +kernel
 unfold neD
 rw[if_pos (by unfold eqOk;rw[s1,s2];simp)]
 cases ds with
 | nil=>rfl
 | cons d ds=>simp[qAP,PyData.eqvAll]
noncomputable abbrev figT(i:Int):Str:=toString i
noncomputable def zln:Pick->Str
 | .own i=>figT i
 | .new w i=>w++":"++figT i
noncomputable def zjn:Stp->Str
 | .say i=>"say"++" "++figT i
 | .tell i=>"tell"++" "++figT i
 | .onw=>"onward"
 | .call d ps=>"call "++d++zcx "" (ps.map λp=>" "++zln p)
noncomputable def zdk(r:Kd):Str:="kind "++r.1++Txt.mul " <" (if(!r.2.isEmpty)=true then 1 else 0)++zcx "" (r.2.map λx=>" "++x)
noncomputable def dig(p:Int):Str:=figT p
noncomputable def zfc(d:Dd):Str:="deed "++d.n++" "++dig d.p
noncomputable def zim(n:Str)(r:Rl):Str:="rule "++n++" "++r.n++zcx "" (r.ks.map λx=>" "++x)
noncomputable def zfx(n:Str)(r:Rl):Str:=zim n r++Txt.mul " = " (if(!r.ss.isEmpty)=true then 1 else 0)++zcx ", " (r.ss.map zjn)
theorem eqS{x y:Str}:eqD (.str x) (.str y)=some (.bool (decide (x=y)),false):=by
 show some (PyData.bool (qAP (.str x) (.str y)),false)=_
 simp[qAP,Bool.beq_eq_decide_eq]
theorem zmn{p:Pick}(h:zlb p):(zln p).length<=41:=by
 cases p with
 | own i=>have:=zez h;show(figT i).length<=41;exact qf this (by decide)
 | new w i=>
  have h1:Wd w:=h.1
  have h2:=zez h.2
  have:=h1.hi
  have e:((":":String):Str).length=1:=rfl
  show(w++":"++figT i).length<=41
  rw[zap,zap,e]
  have h3:(figT i).length<=32:=h2
  omega
theorem zxu{x:Str}(h:x.length<=100000):fmtD (.str x)=some x:=if_pos h
theorem zaan{i:Int}(h:Fig i):i.natAbs<10 ^ 101:=qH h (by decide +kernel)
theorem zajv{i:Int}(h:Fig i):fmtD (.int i)=some (figT i):=if_pos (zaan h)
theorem zvp{i:Int}(h:Fig i):znk [.int i]=some (.str (figT i),false):=if_pos (zaan h)
theorem zql{acc:Str}{env:DEnv}(h:acc.length<=100000):jnD [] acc env=some acc:=if_pos h
theorem jn_c{c acc:Str}{r:List (Str ⊕ EF)}{env:DEnv}{o:Option Str}(h:(acc++c).length<=100000)(k:jnD r (acc++c) env=o):jnD (.inl c::r) acc env=o:=by unfold jnD;rw[if_pos h];exact k
theorem jn_e{f:EF}{acc y:Str}{r:List (Str ⊕ EF)}{env:DEnv}{v:Val}{o:Option Str}(hf:f env=some v)(hy:fmtD v.d=some y)(h:(acc++y).length<=100000)(k:jnD r (acc++y) env=o):jnD (.inr f::r) acc env=o:=by
 unfold jnD
 rw[hf]
 show((fmtD v.d).bind _)=_
 rw[hy]
 show(if _ then _ else _)=_
 rw[if_pos h];exact k
theorem e_fs{js:List (Str ⊕ EF)}{env:DEnv}{x:Str}(h:jnD js Str.empty env=some x):eFs js env=some (vs x):=by unfold eFs;rw[h];rfl
theorem ea(x:Str):Str.empty++x=x:=zjw (by rw[zcl,zajh];rfl)
theorem zaao{x y:Str}(h:x=y){f g:EF}{env:DEnv}(h1:f env=some (vs x))(h2:g env=some (vs y)):zfh (eOp eqD f g) env=some true:=zks (by rw[zgl h1 h2 eqS,decide_eq_true h];rfl)
theorem zpp{x y:Str}(h:x≠y){f g:EF}{env:DEnv}(h1:f env=some (vs x))(h2:g env=some (vs y)):zfh (eOp eqD f g) env=some false:=zks (by rw[zgl h1 h2 eqS,decide_eq_false h];rfl)
theorem ne1:("new":Str)≠"own":=by decide +kernel
theorem ne2:("say":Str)≠"call":=by decide +kernel
theorem ne3:("tell":Str)≠"call":=by decide +kernel
theorem ne4:("onward":Str)≠"call":=by decide +kernel
theorem ne5:("say":Str)≠"onward":=by decide +kernel
theorem ne6:("tell":Str)≠"onward":=by decide +kernel
theorem zajw{p:Pick}(h:zlb p):zfm [zhv p]=some (.str (zln p),false):=by
 cases p with
 | own i=>exact zis (env:=[.pl (zhv (.own i))]) rfl (znp (if_t (zaao (x:="own") rfl rfl rfl) (zge (zla (rs:=[vi i]) (zgf rfl) (zvp h)))))
 | new w i=>
  have w8:=h.1.hi
  have f32:(figT i).length<=32:=zez h.2
  have e1:((":":String):Str).length=1:=rfl
  refine zis (env:=[.pl (zhv (.new w i))]) rfl (zck (if_f (zpp ne1 rfl rfl) rfl) (zge (bs:=[]) (e_fs (jn_e (v:=vs w) (y:=w) rfl (zxu (by omega)) (by rw[ea];omega) (jn_c (by rw[ea,zap,e1];omega) (jn_e (v:=vi i) (y:=figT i) rfl (zajv h.2) (by rw[ea,zap,zap,e1];omega) ?_))))))
  rw[ea]
  exact zql (by rw[zap,zap,e1];omega)
theorem zagk{p:Pick}(h:zlb p):zds [zhv p]=some (.str (zln p),false):=by
 cases p with
 | own i=>exact zis (env:=[.pl (zhv (.own i))]) rfl (znp (if_t (zaao (x:="own") rfl rfl rfl) (zge (zla (rs:=[vi i]) (zgf rfl) (zvp h)))))
 | new w i=>
  have w8:=h.1.hi
  have f32:(figT i).length<=32:=zez h.2
  have e1:((":":String):Str).length=1:=rfl
  exact zis (env:=[.pl (zhv (.new w i))]) rfl (zck (if_f (zpp ne1 rfl rfl) rfl) (zge (bs:=[]) (zdh (zdh rfl rfl (by rw[e1];omega)) (zla (rs:=[vi i]) (zgf rfl) (zvp h.2)) (by rw[zap,e1];omega))))
theorem zfa{α:Type}{enc:α->PyData}{out:α->Str}{own:Str}{f:EF}{e:EF}{env:DEnv}{l:List α}{d:PyData}{fr:Bool}{bs:List Nat}(hd:zkl d=some (l.map enc))(hf:f env=some ⟨d,fr,bs⟩)(hl:l.length<100000)(he:∀x∈l,e [.pl (enc x)]=some (vs (out x))) :
  zep [own] [] (zbg f) (gN 0) zci e env=some ⟨.list ((l.map out).map .str),true,[]⟩:=by
 have it:zbg f env=some (l.map enc,bs):=by unfold zbg;rw[hf];show((zkl d).map _)=_;rw[hd];rfl
 have cm:zgp (gN 0) zci e (envB [own] [] env) (l.map enc)=some (l.map λx=>PyData.str (out x)):=ziz λx hx=>⟨[.pl (enc x)],rfl,rfl,vs (out x),he x hx,rfl⟩
 have e:=zri (own:=[own]) (fr:=[]) it (by rw[qC];exact hl) cm
 have e2:(l.map λx=>PyData.str (out x))=(l.map out).map .str:=by rw[qAM];rfl
 rw[e2,zid]at e
 exact e
theorem zce:((" ":String):Str).length=1:=rfl
theorem zpd{sep:Str}{xs:List Str}{B n:Nat}(h:∀x∈xs,x.length+sep.length<=B)(hl:xs.length<=n):(zcx sep xs).length<=n * B:=qf (zwm sep xs) (qf (zqk h) (qAv _ hl))
theorem zrq{s:Stp}(h:zkh s):(zjn s).length<=150:=by
 cases s with
 | say i=>
  have f32:(figT i).length<=32:=zez h
  have e1:(("say":String):Str).length=3:=by decide +kernel
  show("say"++" "++figT i:Str).length<=150
  rw[zap,zap,e1,zce];omega
 | tell i=>
  have f32:(figT i).length<=32:=zez h
  have e1:(("tell":String):Str).length=4:=by decide +kernel
  show("tell"++" "++figT i:Str).length<=150
  rw[zap,zap,e1,zce];omega
 | onw=>show(("onward":String):Str).length<=150;decide +kernel
 | call d ps=>
  have d8:=h.1.hi
  have e1:(("call ":String):Str).length=5:=by decide +kernel
  have g:=zpd (sep:="") (xs:=ps.map λp=>" "++zln p) (B:=42) (n:=3) (λx hx=>by
   obtain⟨p,hp,rfl⟩:=ql.mp hx
   have:=zmn (h.2.2 p hp)
   have e0:(("":String):Str).length=0:=rfl
   rw[zap,zce,e0];omega) (by rw[qC];exact h.2.1)
  show("call "++d++zcx "" (ps.map λp=>" "++zln p):Str).length<=150
  rw[zap,zap,e1];omega
theorem zaap{α:Type}(f:α->Str)(l:List α):tx (zcx "" (l.map λx=>" "++f x))=(l.map λx=>tx " "++tx (f x)).flatten:=by
 rw[zwk,qAM]
 congr 1
 refine qAx λx _=>?_
 exact zcl " " (f x)
theorem zagl:tx "call "=tx "call"++tx " ":=by decide +kernel
theorem zagm:tx "rule "=tx "rule"++tx " ":=by decide +kernel
theorem zale:tx " < "=tx " <"++tx " ":=by decide +kernel
theorem zagn{s:Stp}(h:zkh s):zgg [stpD s]=some (.str (zjn s),false):=by
 cases s with
 | say i=>
  have f32:(figT i).length<=32:=zez h
  have c:=zfa (own:="part") (f:=eVar 0) (enc:=id) (l:=[PyData.str "say",.int i]) (out:=λd=>match d with|.int i=>figT i|.str x=>x|_=>"") (e:=eCB znk (zag (eVar 0) aNil)) (env:=[.pl (stpD (.say i))]) (d:=stpD (.say i)) (fr:=false) (bs:=[]) rfl rfl (by show 2<_;decide) (λx hx=>by
   rcases qW.mp hx with rfl|hx
   ·rfl
   ·rw[qR.mp hx];exact zla (rs:=[vi i]) (zgf rfl) (zvp h))
  have j:=zfw (sep:=" ") (xs:=["say",figT i]) (B:=40) c (λx hx=>by
   rcases qW.mp hx with rfl|hx
   ·decide +kernel
   ·rw[qR.mp hx,zce];omega) (by show 2 * 40<=_;decide)
  have e:zcx " " ["say",figT i]=zjn (.say i):=zjw (by show _=tx ("say"++" "++figT i);rw[zjl,zcl,zcl];simp[qAD])
  rw[e]at j
  exact zis (env:=[.pl (stpD (.say i))]) rfl (zck (if_f (zpp ne2 rfl rfl) rfl) (zge j))
 | tell i=>
  have f32:(figT i).length<=32:=zez h
  have c:=zfa (own:="part") (f:=eVar 0) (enc:=id) (l:=[PyData.str "tell",.int i]) (out:=λd=>match d with|.int i=>figT i|.str x=>x|_=>"") (e:=eCB znk (zag (eVar 0) aNil)) (env:=[.pl (stpD (.tell i))]) (d:=stpD (.tell i)) (fr:=false) (bs:=[]) rfl rfl (by show 2<_;decide) (λx hx=>by
   rcases qW.mp hx with rfl|hx
   ·rfl
   ·rw[qR.mp hx];exact zla (rs:=[vi i]) (zgf rfl) (zvp h))
  have j:=zfw (sep:=" ") (xs:=["tell",figT i]) (B:=40) c (λx hx=>by
   rcases qW.mp hx with rfl|hx
   ·decide +kernel
   ·rw[qR.mp hx,zce];omega) (by show 2 * 40<=_;decide)
  have e:zcx " " ["tell",figT i]=zjn (.tell i):=zjw (by show _=tx ("tell"++" "++figT i);rw[zjl,zcl,zcl];simp[qAD])
  rw[e]at j
  exact zis (env:=[.pl (stpD (.tell i))]) rfl (zck (if_f (zpp ne3 rfl rfl) rfl) (zge j))
 | onw=>
  have c:=zfa (own:="part") (f:=eVar 0) (enc:=id) (l:=[PyData.str "onward"]) (out:=λd=>match d with|.str x=>x|_=>"") (e:=eCB znk (zag (eVar 0) aNil)) (env:=[.pl (stpD .onw)]) (d:=stpD .onw) (fr:=false) (bs:=[]) rfl rfl (by show 1<_;decide) (λx hx=>by rw[qR.mp hx];rfl)
  have j:=zfw (sep:=" ") (xs:=["onward"]) (B:=40) c (λx hx=>by rw[qR.mp hx];decide +kernel) (by show 1 * 40<=_;decide)
  have e:zcx " " ["onward"]=zjn .onw:=zjw (by rw[zjl];simp[zjn])
  rw[e]at j
  exact zis (env:=[.pl (stpD .onw)]) rfl (zck (if_f (zpp ne4 rfl rfl) rfl) (zge j))
 | call d ps=>
  have d8:=h.1.hi
  have pl:=h.2.1
  have c:=zfa (own:="pick") (f:=eIxV 0 (eC (.int 2))) (enc:=zhv) (l:=ps) (out:=zln) (e:=zef 1 zfm (zag (eVar 0) aNil)) (env:=[.pl (stpD (.call d ps))]) (d:=.list (ps.map zhv)) (fr:=false) (bs:=[]) rfl rfl (by omega) (λp hp=>zhe (rs:=[⟨zhv p,false,[]⟩]) (zgf rfl) rfl (zajw (h.2.2 p hp)))
  have a:eOp addD (eLst (zag (eC (.str "call")) (zag (eIxV 0 (eC (.int 1))) aNil))) (zep ["pick"] [] (zbg (eIxV 0 (eC (.int 2)))) (gN 0) zci (zef 1 zfm (zag (eVar 0) aNil))) [.pl (stpD (.call d ps))]=some ⟨.list ((("call":Str)::d::ps.map zln).map .str),true,[]⟩:=
   zgl (x:=⟨.list [.str "call",.str d],true,[]⟩) rfl c (by show(if _ then _ else _)=_;rw[if_pos (by rw[qC,qC];show 2+ps.length<=_;omega)];rfl)
  have j:=zfw (sep:=" ") (B:=42) a (λx hx=>by
   rcases qW.mp hx with rfl|hx
   ·decide +kernel
   ·rcases qW.mp hx with rfl|hx
    ·rw[zce];omega
    ·obtain⟨p,hp,rfl⟩:=ql.mp hx
     have:=zmn (h.2.2 p hp)
     rw[zce];omega) (by show(ps.map zln).length.succ.succ * 42<=_;rw[qC];omega)
  have e:zcx " " ("call"::d::ps.map zln)=zjn (.call d ps):=zjw (by
   show _=tx ("call "++d++zcx "" (ps.map λp=>" "++zln p))
   rw[zjl,zcl,zcl,zaap,zagl,qm,qAU,qAM]
   simp only[qAD]
   rfl)
  rw[e]at j
  exact zis (env:=[.pl (stpD (.call d ps))]) rfl (znp (if_t (zaao (x:="call") rfl rfl rfl) (zge j)))
theorem zago{s:Stp}(h:zkh s):zcd [stpD s]=some (.str (zjn s),false):=by
 cases s with
 | say i=>
  have f32:(figT i).length<=32:=zez h
  have e1:(("say":String):Str).length=3:=by decide +kernel
  exact zis (env:=[.pl (stpD (.say i))]) rfl (zck (if_f (zpp ne2 rfl rfl) rfl) (zck (if_f (zpp ne5 rfl rfl) rfl) (zge (bs:=[]) (zdh (zdh rfl rfl (by rw[e1,zce];decide)) (zla (rs:=[vi i]) (zgf rfl) (zvp h)) (by rw[zap,e1,zce];omega)))))
 | tell i=>
  have f32:(figT i).length<=32:=zez h
  have e1:(("tell":String):Str).length=4:=by decide +kernel
  exact zis (env:=[.pl (stpD (.tell i))]) rfl (zck (if_f (zpp ne3 rfl rfl) rfl) (zck (if_f (zpp ne6 rfl rfl) rfl) (zge (bs:=[]) (zdh (zdh rfl rfl (by rw[e1,zce];decide)) (zla (rs:=[vi i]) (zgf rfl) (zvp h)) (by rw[zap,e1,zce];omega)))))
 | onw=>exact zis (env:=[.pl (stpD .onw)]) rfl (zck (if_f (zpp ne4 rfl rfl) rfl) (znp (if_t (zaao (x:="onward") rfl rfl rfl) rfl)))
 | call d ps=>
  have d8:=h.1.hi
  have pl:=h.2.1
  have e1:(("call ":String):Str).length=5:=by decide +kernel
  have c:=zfa (own:="_law_pick") (f:=eIxV 0 (eC (.int 2))) (enc:=zhv) (l:=ps) (out:=λp=>" "++zln p) (e:=eOp addD (eC (.str " ")) (zef 1 zds (zag (eVar 0) aNil))) (env:=[.pl (stpD (.call d ps))]) (d:=.list (ps.map zhv)) (fr:=false) (bs:=[]) rfl rfl (by omega) (λp hp=>zdh rfl (zhe (rs:=[⟨zhv p,false,[]⟩]) (zgf rfl) rfl (zagk (h.2.2 p hp))) (by have:=zmn (h.2.2 p hp);rw[zce];omega))
  have bd:∀x∈ps.map λp=>" "++zln p,x.length+(("":String):Str).length<=42:=λx hx=>by
   obtain⟨p,hp,rfl⟩:=ql.mp hx
   have:=zmn (h.2.2 p hp)
   have e0:(("":String):Str).length=0:=rfl
   rw[zap,zce,e0];omega
  have j:=zfw (sep:="") (B:=42) c bd (by rw[qC];omega)
  have g:=zpd (sep:="") (n:=3) bd (by rw[qC];exact pl)
  exact zis (env:=[.pl (stpD (.call d ps))]) rfl (znp (if_t (zaao (x:="call") rfl rfl rfl) (zge (bs:=[]) (zdh (zdh rfl rfl (by rw[e1];omega)) j (by rw[zap,e1];omega)))))
theorem zrr:(("":String):Str).length=0:=rfl
theorem zwp{xs:List Str}{n:Nat}(h:∀x∈xs,Wd x)(hl:xs.length<=n):(zcx "" (xs.map λx=>" "++x)).length<=n * 9:=zpd (B:=9) (λx hx=>by
 obtain⟨y,hy,rfl⟩:=ql.mp hx
 have:=(h y hy).hi
 rw[zap,zce,zrr];omega) (by rw[qC];exact hl)
theorem mul0:tx (Txt.mul " <" 0)=[]:=by decide +kernel
theorem mul1:tx (Txt.mul " <" 1)=tx " <":=by decide +kernel
theorem mul2:tx (Txt.mul " = " 0)=[]:=by decide +kernel
theorem mul3:tx (Txt.mul " = " 1)=tx " = ":=by decide +kernel
theorem zwq{b:Bool}:(Txt.mul " <" (if b=true then 1 else 0)).length<=3/\(Txt.mul " = " (if b=true then 1 else 0)).length<=3:=by
 cases b<;>decide +kernel
theorem k5:(("kind ":String):Str).length=5:=by decide +kernel
theorem d5:(("deed ":String):Str).length=5:=by decide +kernel
theorem r5:(("rule ":String):Str).length=5:=by decide +kernel
theorem lt3:((" < ":String):Str).length=3:=by decide +kernel
theorem eq3:((" = ":String):Str).length=3:=by decide +kernel
theorem cm2:((", ":String):Str).length=2:=by decide +kernel
theorem zacv{r:Kd}(h:KdOk r):(zdk r).length<=1000:=by
 have h1:=h.n.hi
 have h2:=zwp h.e h.l
 have h3:=(zwq (b:=!r.2.isEmpty)).1
 unfold zdk
 rw[zap,zap,zap,k5]
 omega
theorem zajx{r:Kd}(h:KdOk r):zhg [kdD r]=some (.str (zdk r),false):=by
 have h1:=h.n.hi
 have hl:=h.l
 refine zis (env:=[.pl (kdD r),.no,.no]) rfl (zck (e1:=[.pl (kdD r),.pl (.str r.1),.pl (zas r.2)]) rfl ?_)
 cases he:r.2 with
 | nil=>
  refine znp (if_t ?_ (zge (bs:=[]) (e_fs (jn_c (by rw[ea,k5];decide) (jn_e (v:=vs r.1) (y:=r.1) rfl (zxu (by omega)) (by rw[ea,zap,k5];omega) ?_)))))
  ·rfl
  ·rw[ea,zql (by rw[zap,k5];omega)]
   refine congrArg some (zjw ?_)
   unfold zdk
   rw[he,zcl,zcl,zcl,zcl]
   show _=(_++tx (Txt.mul " <" 0))++tx (zcx "" [])
   rw[mul0,zwj];simp
 | cons x xs=>
  have hx:∀y∈x::xs,Wd y:=by rw[<- he];exact h.e
  have xl:(x::xs).length<=4:=by rw[<- he];exact hl
  have j:=zfw (sep:=" ") (a:=eVar 2) (env:=[.pl (kdD r),.pl (.str r.1),.pl (zas (x::xs))]) (xs:=x::xs) (fr:=false) (bs:=[]) (B:=9) rfl (λy hy=>by have:=(hx y hy).hi;rw[zce];omega) (by omega)
  have gl:=zpd (sep:=" ") (xs:=x::xs) (B:=9) (n:=4) (λy hy=>by have:=(hx y hy).hi;rw[zce];omega) xl
  refine zck (e1:=[.pl (kdD r),.pl (.str r.1),.pl (zas (x::xs))]) (if_f rfl rfl) (zge (bs:=[]) ?_)
  rw[zdh (x:="kind "++r.1++" < ") (e_fs (jn_c (by rw[ea,k5];decide) (jn_e (v:=vs r.1) (y:=r.1) rfl (zxu (by omega)) (by rw[ea,zap,k5];omega) (jn_c (by rw[ea,zap,zap,k5,lt3];omega) (by rw[ea];exact zql (by rw[zap,zap,k5,lt3];omega)))))) j (by rw[zap,zap,k5,lt3];omega)]
  refine congrArg (λz=>some (vs z)) (zjw ?_)
  unfold zdk
  rw[he,zcl,zcl,zcl,zcl,zcl,zcl,zjl,zale,zaap]
  show _=(_++tx (Txt.mul " <" 1))++_
  rw[mul1,qm,qAU]
  simp only[qAD]
theorem zacw{d:Dd}(h:DdOk d):(zfc d).length<=1000:=by
 have h1:=h.n.hi
 have h2:(figT d.p).length<=32:=zez (fig3 h.p0 h.p1)
 unfold zfc dig
 rw[zap,zap,zap,d5,zce]
 omega
theorem zajy{d:Dd}(h:DdOk d):zfl [.str d.n,.int d.p]=some (.str (zfc d),false):=by
 have h1:=h.n.hi
 have h2:(figT d.p).length<=32:=zez (fig3 h.p0 h.p1)
 refine zis (env:=[.pl (.str d.n),.pl (.int d.p)]) rfl (zge (bs:=[]) (e_fs (jn_c (by rw[ea,d5];decide) (jn_e (v:=vs d.n) (y:=d.n) rfl (zxu (by omega)) (by rw[ea,zap,d5];omega) (jn_c (by rw[ea,zap,zap,d5,zce];omega) (jn_e (v:=vi d.p) (y:=figT d.p) rfl (zajv (fig3 h.p0 h.p1)) (by rw[ea,zap,zap,zap,d5,zce];omega) (by rw[ea];exact zql (by rw[zap,zap,zap,d5,zce];omega))))))))
theorem zrs{n:Str}{r:Rl}(hn:Wd n)(h:RlOk3 r):(zim n r).length<=50:=by
 have h1:=h.n.hi
 have h2:=zwp h.ks h.kl
 have h3:=hn.hi
 unfold zim
 rw[zap,zap,zap,zap,r5,zce]
 omega
theorem zrt{ss:List Stp}(h:∀s∈ss,zkh s)(hl:ss.length<=6):(zcx ", " (ss.map zjn)).length<=6 * 152:=zpd (B:=152) (λx hx=>by
 obtain⟨y,hy,rfl⟩:=ql.mp hx
 have:=zrq (h y hy)
 rw[cm2];omega) (by rw[qC];exact hl)
theorem zacx{n:Str}{r:Rl}(hn:Wd n)(h:RlOk3 r):(zfx n r).length<=1000:=by
 have h1:=zrs hn h
 have h2:=zrt h.ss h.sl
 have h3:=(zwq (b:=!r.ss.isEmpty)).2
 unfold zfx
 rw[zap,zap]
 omega
theorem zajz{n:Str}{r:Rl}(hn:Wd n)(h:RlOk3 r):zej [.str n,rlD r]=some (.str (zfx n r),false):=by
 have h1:=h.n.hi
 have n8:=hn.hi
 have kl:=h.kl
 have hl:=zrs hn h
 have sl:=zrt h.ss h.sl
 have a:eOp addD (eLst (zag (eC (.str "rule")) (zag (eVar 0) (zag (eVar 2) aNil)))) (eCB znm (zag (eVar 3) aNil)) [.pl (.str n),.pl (rlD r),.pl (.str r.n),.pl (.tuple (r.ks.map .str)),.pl (.list (r.ss.map stpD)),.no]=some ⟨.list ((("rule":Str)::n::r.n::r.ks).map .str),true,[]⟩:=
  zgl (x:=⟨.list [.str "rule",.str n,.str r.n],true,[]⟩) (y:=⟨.list (r.ks.map .str),true,[]⟩) rfl rfl (by show(if _ then _ else _)=_;rw[if_pos (by rw[qC];show 3+r.ks.length<=_;omega)];rfl)
 have j:=zfw (sep:=" ") (B:=9) a (λx hx=>by
  rcases qW.mp hx with rfl|hx
  ·decide +kernel
  ·rcases qW.mp hx with rfl|hx
   ·rw[zce];omega
   ·rcases qW.mp hx with rfl|hx
    ·rw[zce];omega
    ·have:=(h.ks x hx).hi;rw[zce];omega) (by show r.ks.length.succ.succ.succ * 9<=_;omega)
 have e:zcx " " ("rule"::n::r.n::r.ks)=zim n r:=zjw (by
  unfold zim
  rw[zjl,zcl,zcl,zcl,zcl,zaap,zagm,qm,qAU,qm,qAU]
  simp only[qAD])
 rw[e]at j
 refine zis (env:=[.pl (.str n),.pl (rlD r),.no,.no,.no,.no]) rfl (zck (e1:=[.pl (.str n),.pl (rlD r),.pl (.str r.n),.pl (.tuple (r.ks.map .str)),.pl (.list (r.ss.map stpD)),.no]) rfl (zck (e1:=[.pl (.str n),.pl (rlD r),.pl (.str r.n),.pl (.tuple (r.ks.map .str)),.pl (.list (r.ss.map stpD)),.pl (.str (zim n r))]) (znq j) ?_))
 cases he:r.ss with
 | nil=>
  refine znp (if_t rfl ?_)
  have:zim n r=zfx n r:=zjw (by
   unfold zfx
   rw[he,zcl,zcl]
   show _=(_++tx (Txt.mul " = " 0))++tx (zcx ", " [])
   rw[mul2,zwj];simp)
  rw[this];rfl
 | cons s ss=>
  have hs:∀y∈s::ss,zkh y:=by rw[<- he];exact h.ss
  have sll:(s::ss).length<=6:=by rw[<- he];exact h.sl
  rw[he]at sl
  have c:=zfa (own:="step") (f:=eVar 4) (enc:=stpD) (l:=s::ss) (out:=zjn) (e:=zef 1 zgg (zag (eVar 0) aNil)) (env:=[.pl (.str n),.pl (rlD r),.pl (.str r.n),.pl (.tuple (r.ks.map .str)),.pl (.list ((s::ss).map stpD)),.pl (.str (zim n r))]) (d:=.list ((s::ss).map stpD)) (fr:=false) (bs:=[]) rfl rfl (by omega) (λp hp=>zhe (rs:=[⟨stpD p,false,[]⟩]) (zgf rfl) rfl (zagn (hs p hp)))
  have j2:=zfw (sep:=", ") (B:=152) c (λx hx=>by
   obtain⟨y,hy,rfl⟩:=ql.mp hx
   have:=zrq (hs y hy)
   rw[cm2];omega) (by rw[qC];omega)
  refine zck (e1:=[.pl (.str n),.pl (rlD r),.pl (.str r.n),.pl (.tuple (r.ks.map .str)),.pl (.list ((s::ss).map stpD)),.pl (.str (zim n r))]) (if_f rfl rfl) (zge (bs:=[]) ?_)
  rw[zdh (x:=zim n r++" = ") (e_fs (jn_e (v:=vs (zim n r)) (y:=zim n r) rfl (zxu (by omega)) (by rw[ea];omega) (jn_c (by rw[ea,zap,eq3];omega) (by rw[ea];exact zql (by rw[zap,eq3];omega))))) j2 (by rw[zap,eq3];omega)]
  refine congrArg (λz=>some (vs z)) (zjw ?_)
  unfold zfx
  rw[he,zcl,zcl,zcl,zcl]
  show _=(_++tx (Txt.mul " = " 1))++_
  rw[mul3]
noncomputable def zhi(W:List Kd)(ds:List Dd):List Str:=W.map zdk++ds.map zfc++ds.flatMap λd=>d.rs.map (zfx d.n)
theorem zmo{W:List Kd}{ds:List Dd}(h:PgOk W ds):∀x∈zhi W ds,x.length<=1000:=by
 intro x hx
 unfold zhi at hx
 rcases qz.mp hx with hx|hx
 ·rcases qz.mp hx with hx|hx
  ·obtain⟨y,hy,rfl⟩:=ql.mp hx;exact zacv (h.w y hy)
  ·obtain⟨y,hy,rfl⟩:=ql.mp hx;exact zacw (h.d y hy)
 ·obtain⟨d,hd,hx⟩:=qAq.mp hx
  obtain⟨y,hy,rfl⟩:=ql.mp hx
  exact zacx (h.d d hd).n ((h.d d hd).rs y hy)
theorem zru{ds:List Dd}{f:Dd->List Str}{B:Nat}(h:∀d∈ds,(f d).length<=B):(ds.flatMap f).length<=ds.length * B:=by
 rw[List.length_flatMap]
 exact zqk h
theorem zpe{W:List Kd}{ds:List Dd}(h:PgOk W ds):(zhi W ds).length<=62:=by
 unfold zhi
 rw[qF,qF,qC,qC]
 have h1:=h.wl
 have h2:=h.dl
 have h3:=zru (ds:=ds) (f:=λd=>d.rs.map (zfx d.n)) (B:=12) λd hd=>by rw[qC];exact(h.d d hd).rl
 omega
noncomputable def zpq(W:List Kd)(ds:List Dd):Str:=zcx "" ((zhi W ds).map λx=>x++"\n")
theorem nl1:(("\n":String):Str).length=1:=by decide +kernel
theorem zadr{i:Nat}{f:EF}{env:DEnv}{ds es:List PyData}(he:env[i]?=some (.ac (.list ds)))(hf:f env=some ⟨.list es,true,[]⟩)(hl:ds.length+es.length<=100000):sExt i f env=some (.nx (env.set i (.ac (.list (ds++es))))):=by
 unfold sExt
 rw[he]
 dsimp only
 rw[hf]
 dsimp only[qQ]
 rw[if_pos ⟨hl,by simp⟩];rfl
theorem zagp{W:List Kd}{ds:List Dd}(h:PgOk W ds):zii [pgD W ds]=some (.str (zpq W ds),false):=by
 have wl:=h.wl
 have dl:=h.dl
 have few:=zpe h
 refine zis (env:=[.pl (pgD W ds),.no,.no,.no]) rfl (zck (e1:=[.pl (pgD W ds),.pl (.list (W.map kdD)),.pl (.list (ds.map ddD)),.no]) rfl ?_)
 have c1:=zfa (own:="kind") (f:=eVar 1) (enc:=kdD) (l:=W) (out:=zdk) (e:=zef 1 zhg (zag (eVar 0) aNil)) (env:=[.pl (pgD W ds),.pl (.list (W.map kdD)),.pl (.list (ds.map ddD)),.no]) (d:=.list (W.map kdD)) (fr:=false) (bs:=[]) rfl rfl (by omega) (λp hp=>zhe (rs:=[⟨kdD p,false,[]⟩]) (zgf rfl) rfl (zajx (h.w p hp)))
 refine zck (e1:=[.pl (pgD W ds),.pl (.list (W.map kdD)),.pl (.list (ds.map ddD)),.ac (.list ((W.map zdk).map .str))]) (znq c1) ?_
 have c2:zep ["name","places","rules"] [] (zbg (eVar 2)) (gT 3 (zax 0 (zax 1 (zax 2 zeg)))) zci (zef 2 zfl (zag (eVar 0) (zag (eVar 1) aNil))) [.pl (pgD W ds),.pl (.list (W.map kdD)),.pl (.list (ds.map ddD)),.ac (.list ((W.map zdk).map .str))]=some ⟨.list ((ds.map zfc).map .str),true,[]⟩:=by
  have cm:zgp (gT 3 (zax 0 (zax 1 (zax 2 zeg)))) zci (zef 2 zfl (zag (eVar 0) (zag (eVar 1) aNil))) (envB ["name","places","rules"] [] [.pl (pgD W ds),.pl (.list (W.map kdD)),.pl (.list (ds.map ddD)),.ac (.list ((W.map zdk).map .str))]) (ds.map ddD)=some (ds.map λx=>PyData.str (zfc x)):=
   ziz λx hx=>⟨[.pl (.str x.n),.pl (.int x.p),.pl (.list (x.rs.map rlD))],rfl,rfl,vs (zfc x),zhe (rs:=[vs x.n,vi x.p]) rfl rfl (zajy (h.d x hx)),rfl⟩
  have e:=zri (own:=["name","places","rules"]) (fr:=[]) (fi:=zbg (eVar 2)) (env:=[.pl (pgD W ds),.pl (.list (W.map kdD)),.pl (.list (ds.map ddD)),.ac (.list ((W.map zdk).map .str))]) (bs:=[]) rfl (by rw[qC];omega) cm
  have e2:(ds.map λx=>PyData.str (zfc x))=(ds.map zfc).map .str:=by rw[qAM];rfl
  rw[e2,zid]at e
  exact e
 refine zck (e1:=[.pl (pgD W ds),.pl (.list (W.map kdD)),.pl (.list (ds.map ddD)),.ac (.list ((W.map zdk).map .str++(ds.map zfc).map .str))]) (zadr rfl c2 (by rw[qC,qC,qC,qC];omega)) ?_
 have c3:zpw ["name","places","rules","rule"] [] (zbg (eVar 2)) (gT 3 (zax 0 (zax 1 (zax 2 zeg)))) zci (zbg (eVar 2)) (gN 3) zci (zef 2 zej (zag (eVar 0) (zag (eVar 3) aNil))) [.pl (pgD W ds),.pl (.list (W.map kdD)),.pl (.list (ds.map ddD)),.ac (.list ((W.map zdk).map .str++(ds.map zfc).map .str))]=some ⟨.list ((ds.flatMap λd=>d.rs.map (zfx d.n)).map .str),true,[]⟩:=by
  have cm:ziw (gT 3 (zax 0 (zax 1 (zax 2 zeg)))) zci (zbg (eVar 2)) (gN 3) zci (zef 2 zej (zag (eVar 0) (zag (eVar 3) aNil))) (envB ["name","places","rules","rule"] [] [.pl (pgD W ds),.pl (.list (W.map kdD)),.pl (.list (ds.map ddD)),.ac (.list ((W.map zdk).map .str++(ds.map zfc).map .str))]) (ds.map ddD)=some (ds.flatMap λd=>d.rs.map λr=>PyData.str (zfx d.n r)):=by
   refine zns λd hd=>⟨[.pl (.str d.n),.pl (.int d.p),.pl (.list (d.rs.map rlD)),.no],rfl,rfl,?_⟩
   have rl:=(h.d d hd).rl
   have ic:zgp (gN 3) zci (zef 2 zej (zag (eVar 0) (zag (eVar 3) aNil))) [.pl (.str d.n),.pl (.int d.p),.pl (.list (d.rs.map rlD)),.no] (d.rs.map rlD)=some (d.rs.map λr=>PyData.str (zfx d.n r)):=
    ziz λr hr=>⟨[.pl (.str d.n),.pl (.int d.p),.pl (.list (d.rs.map rlD)),.pl (rlD r)],rfl,rfl,vs (zfx d.n r),zhe (rs:=[vs d.n,⟨rlD r,false,[]⟩]) rfl rfl (zajz (h.d d hd).n ((h.d d hd).rs r hr)),rfl⟩
   show(if(d.rs.map rlD).length<300 then _ else _)=_
   rw[if_pos (by rw[qC];omega)]
   exact ic
  have e:=zacp (own:=["name","places","rules","rule"]) (fr:=[]) (fi:=zbg (eVar 2)) (env:=[.pl (pgD W ds),.pl (.list (W.map kdD)),.pl (.list (ds.map ddD)),.ac (.list ((W.map zdk).map .str++(ds.map zfc).map .str))]) (bs:=[]) rfl (by rw[qC];omega) cm
  have e2:(ds.flatMap λd=>d.rs.map λr=>PyData.str (zfx d.n r))=(ds.flatMap λd=>d.rs.map (zfx d.n)).map .str:=by
   rw[List.map_flatMap]
   congr 1
   funext d
   rw[qAM];rfl
  rw[e2,zid]at e
  exact e
 have e3:(W.map zdk).map PyData.str++(ds.map zfc).map .str++(ds.flatMap λd=>d.rs.map (zfx d.n)).map .str=(zhi W ds).map .str:=by unfold zhi;rw[qr,qr]
 have fl:(ds.flatMap λd=>d.rs.map (zfx d.n)).length<=48:=by
  have h3:=zru (ds:=ds) (f:=λd=>d.rs.map (zfx d.n)) (B:=12) λd hd=>by rw[qC];exact(h.d d hd).rl
  omega
 refine zck (e1:=[.pl (pgD W ds),.pl (.list (W.map kdD)),.pl (.list (ds.map ddD)),.ac (.list ((zhi W ds).map .str))]) ((zadr rfl c3 (by rw[qF,qC,qC,qC,qC,qC];omega)).trans (by rw[e3];rfl)) ?_
 have c4:=zfa (own:="line") (f:=eVar 3) (enc:=PyData.str) (l:=zhi W ds) (out:=λx=>x++"\n") (e:=eFs (.inr (eVar 0)::(.inl "\n"::[]))) (env:=[.pl (pgD W ds),.pl (.list (W.map kdD)),.pl (.list (ds.map ddD)),.ac (.list ((zhi W ds).map .str))]) (d:=.list ((zhi W ds).map .str)) (fr:=false) (bs:=[3]) rfl rfl (by omega) (λx hx=>by
  have:=zmo h x hx
  exact e_fs (jn_e (v:=vs x) (y:=x) rfl (zxu (by omega)) (by rw[ea];omega) (jn_c (by rw[ea,zap,nl1];omega) (by rw[ea];exact zql (by rw[zap,nl1];omega)))))
 exact zge (zfw (sep:="") (B:=1001) c4 (λx hx=>by
  obtain⟨y,hy,rfl⟩:=ql.mp hx
  have:=zmo h y hy
  rw[zap,nl1,zrr];omega) (by rw[qC];omega))
section
variable{c1 c2 c3:Nat}{env:DEnv}{P P1 P2 P3:Val->Prop}
theorem Dr.tup2{a b:EFr Pen3}(h1:Dr c1 a env P1)(h2:Dr c2 b env P2)(h:∀x y,P1 x->P2 y->P ⟨.tuple [x.d,y.d],false,bss [x,y]⟩):Dr (c1+c2) (rTup (zaz a (zaz b rNil))) env P:=by
 refine Dr.tup (PA:=λrs=>∃x y,rs=[x,y]/\P1 x/\P2 y) (DrA.cons h1 (P2:=λrs=>∃y,rs=[y]/\P2 y) (DrA.one (h2.imp λy hy=>⟨y,rfl,hy⟩)) λx xs hx ⟨y,e,hy⟩=>⟨x,y,by rw[e],hx,hy⟩) ?_
 rintro rs ⟨x,y,rfl,hx,hy⟩
 exact⟨by show 2<=100000;decide,h x y hx hy⟩
theorem Dr.tup3{a b d:EFr Pen3}(h1:Dr c1 a env P1)(h2:Dr c2 b env P2)(h3:Dr c3 d env P3)(h:∀x y z,P1 x->P2 y->P3 z->P ⟨.tuple [x.d,y.d,z.d],false,bss [x,y,z]⟩):Dr (c1+(c2+c3)) (rTup (zaz a (zaz b (zaz d rNil)))) env P:=by
 refine Dr.tup (PA:=λrs=>∃x y z,rs=[x,y,z]/\P1 x/\P2 y/\P3 z) (DrA.cons h1 (P2:=λrs=>∃y z,rs=[y,z]/\P2 y/\P3 z) (DrA.cons h2 (P2:=λrs=>∃z,rs=[z]/\P3 z) (DrA.one (h3.imp λy hy=>⟨y,rfl,hy⟩)) λx xs hx ⟨y,e,hy⟩=>⟨x,y,by rw[e],hx,hy⟩) λx xs hx ⟨y,z,e,hy⟩=>⟨x,y,z,by rw[e],hx,hy⟩) ?_
 rintro rs ⟨x,y,z,rfl,hx,hy,hz⟩
 exact⟨by show 3<=100000;decide,h x y z hx hy hz⟩
end
theorem zpf{env:DEnv}:Dr 10 (zbd 1 zdr rNil) env λr=>∃i:Int,r=vi i/\Fig i:=by
 refine Dr.call (c1:=0) (c2:=10) (PA:=λrs=>rs=[]) (DrA.nil rfl) ?_
 rintro rs rfl
 refine⟨rfl,λn st hb=>?_⟩
 obtain⟨d,fr,s,e,⟨h1,x,h2,h3⟩,b⟩:=zacr n st hb
 exact⟨d,fr,s,e,⟨x,by rw[h1,h2];rfl,h3⟩,b⟩
theorem ztx{x:Int}(h0:0<=x)(h1:x<1000):Fig x:=qH (show x.natAbs<1000 by omega) (by decide +kernel)
noncomputable def hdD(h:Str×Int):PyData:=.tuple [.str h.1,.int h.2]
structure HdOk(h:Str×Int):Prop where
 n:Wd h.1
 p0:1<=h.2
 p1:h.2<=3
theorem zaaq{α:Type}{enc:α->PyData}{env:DEnv}{a:EF}{l:List α}{fr:Bool}{bs:List Nat}(h:a env=some ⟨.list (l.map enc),fr,bs⟩):eCB lenD (zag a aNil) env=some (vi (l.length:Int)):=by
 have:=zsv h
 rw[qC]at this
 exact this
theorem ix_l{α:Type}{enc:α->PyData}{l:List α}{x:Int}(h0:0<=x)(h1:x<l.length):∃y∈l,ixD (.list (l.map enc)) (.int x)=some (enc y,false):=by
 obtain⟨y,ey,m⟩:=zkg h0 h1
 exact⟨y,m,by unfold ixD;dsimp only;rw[zzu,ey];rfl⟩
theorem zaka{A:List Str}{hs:List (Str×Int)}{p:Int}(hA:∀x∈A,Wd x)(a0:0<A.length)(a1:A.length<=1000)(hh:∀x∈hs,HdOk x)(h0:0<hs.length)(h1:hs.length<=1000)(p0:1<=p)(p1:p<=3) :
  DrG 50 zjq [zas A,.list (hs.map hdD),.int p] λd fr=>fr=false/\∃s:Stp,d=stpD s/\zkh s:=by
 refine DrS.fn (env:=[.no,.pl (zas A),.pl (.list (hs.map hdD)),.pl (.int p),.no,.no,.no,.no,.no]) rfl ?_
 refine DrS.seq (c1:=1) (c2:=49) (N1:=λe=>∃w:Int,e=[.no,.pl (zas A),.pl (.list (hs.map hdD)),.pl (.int p),.pl (.int w),.no,.no,.no,.no]) (DrS.set ((zbv (k:=6) (by decide) (by decide)).imp ?_)) ?_
 ·rintro r ⟨x,rfl,h0,h1⟩;exact⟨x,rfl⟩
 rintro e ⟨w,rfl⟩
 refine DrS.seq (c1:=1) (c2:=48) (N1:=λe=>∃h:Str×Int,HdOk h/\e=[.no,.pl (zas A),.pl (.list (hs.map hdD)),.pl (.int p),.pl (.int w),.pl (.str h.1),.pl (.int h.2),.no,.no]) (DrS.asg ?_) ?_
 ·refine Dr.op (c1:=0) (c2:=1) (P1:=λr=>r=⟨.list (hs.map hdD),false,[]⟩) (Dr.pure rfl rfl) (zhs (k:=(hs.length:Int)) (Dr.pure (zaaq rfl) rfl) (by omega) (by omega)) ?_
  rintro a b rfl ⟨x,rfl,x0,x1⟩
  obtain⟨h,hm,eh⟩:=ix_l (enc:=hdD) x0 x1
  exact⟨hdD h,false,eh,_,rfl,h,hh h hm,rfl⟩
 rintro e ⟨h,hok,rfl⟩
 have q0:=hok.p0
 have q1:=hok.p1
 refine DrS.seq (c1:=10) (c2:=38) (N1:=λe=>e=[.no,.pl (zas A),.pl (.list (hs.map hdD)),.pl (.int p),.pl (.int w),.pl (.str h.1),.pl (.int h.2),.no,.no]) ?_ ?_
 ·refine DrS.iff (c1:=0) (c2:=10) (P1:=λ_=>True) (DrT.pure (b:=decide (w<2)) rfl trivial) (λ_=>DrS.ret ?_) λ_=>DrS.mono (c1:=0) (DrS.nx rfl) (by decide)
  refine Dr.tup2 (c1:=0) (c2:=10) (P1:=λr=>r=vs "say") (Dr.pure rfl rfl) zpf ?_
  rintro x y rfl ⟨i,rfl,hi⟩
  exact⟨rfl,.say i,rfl,hi⟩
 rintro e rfl
 refine DrS.seq (c1:=1) (c2:=37) (N1:=λe=>e=[.no,.pl (zas A),.pl (.list (hs.map hdD)),.pl (.int p),.pl (.int w),.pl (.str h.1),.pl (.int h.2),.no,.no]) ?_ ?_
 ·refine DrS.iff (c1:=0) (c2:=1) (P1:=λ_=>True) (DrT.pure (b:=(w==2)) rfl trivial) (λ_=>DrS.ret ?_) λ_=>DrS.mono (c1:=0) (DrS.nx rfl) (by decide)
  refine Dr.tup2 (c1:=0) (c2:=1) (P1:=λr=>r=vs "tell") (Dr.pure rfl rfl) (zhs (k:=p) (Dr.pure rfl rfl) (by omega) (by omega)) ?_
  rintro x y rfl ⟨i,rfl,i0,i1⟩
  exact⟨rfl,.tell i,rfl,ztx i0 (by omega)⟩
 rintro e rfl
 refine DrS.seq (c1:=0) (c2:=37) (N1:=λe=>e=[.no,.pl (zas A),.pl (.list (hs.map hdD)),.pl (.int p),.pl (.int w),.pl (.str h.1),.pl (.int h.2),.no,.no]) ?_ ?_
 ·exact DrS.iff (c1:=0) (c2:=0) (P1:=λ_=>True) (DrT.pure (b:=(w==3)) rfl trivial) (λ_=>DrS.ret (Dr.pure rfl ⟨rfl,.onw,rfl,trivial⟩)) λ_=>DrS.nx rfl
 rintro e rfl
 refine DrS.seq (c1:=0) (c2:=37) (N1:=λe=>e=[.no,.pl (zas A),.pl (.list (hs.map hdD)),.pl (.int p),.pl (.int w),.pl (.str h.1),.pl (.int h.2),.ac (.list []),.no]) (DrS.set (Dr.pure rfl rfl)) ?_
 rintro e rfl
 have it:zcw (zag (eVar 6) aNil) [.no,.pl (zas A),.pl (.list (hs.map hdD)),.pl (.int p),.pl (.int w),.pl (.str h.1),.pl (.int h.2),.ac (.list []),.no]=some ((List.range h.2.toNat).map (λ(k:Nat)=>PyData.int (k:Int)),[]):=by
  show(if _ then _ else _)=_
  rw[if_pos (by omega),zhf]
 refine DrS.seq (c1:=37) (c2:=0) (N1:=λe=>∃(ps:List Pick)(v:Sl),ps.length=h.2.toNat/\(∀x∈ps,zlb x)/\e=[.no,.pl (zas A),.pl (.list (hs.map hdD)),.pl (.int p),.pl (.int w),.pl (.str h.1),.pl (.int h.2),.ac (.list (ps.map zhv)),v]) ?_ ?_
 ·refine DrS.mono (DrS.for (c:=12) it (λpre e=>∃(ps:List Pick)(v:Sl),ps.length=pre.length/\(∀x∈ps,zlb x)/\e=[.no,.pl (zas A),.pl (.list (hs.map hdD)),.pl (.int p),.pl (.int w),.pl (.str h.1),.pl (.int h.2),.ac (.list (ps.map zhv)),v]) ⟨[],.no,rfl,(λx hx=>by cases hx),rfl⟩ ?_ ?_) (by rw[qX];omega)
  ·rintro pre k post e hp ⟨ps,v,hl,hps,rfl⟩
   have hk:pre.length<h.2.toNat:=by
    have:=congrArg List.length hp
    rw[qF,qs,qX]at this
    omega
   refine⟨_,rfl,?_⟩
   have last:∀q:Pick,zlb q->∃(ps':List Pick)(v:Sl),ps'.length=(pre++[k]).length/\(∀x∈ps',zlb x)/\[Sl.no,.pl (zas A),.pl (.list (hs.map hdD)),.pl (.int p),.pl (.int w),.pl (.str h.1),.pl (.int h.2),.ac (.list (ps.map zhv++[zhv q])),.pl (.int (k:Int))]=[.no,.pl (zas A),.pl (.list (hs.map hdD)),.pl (.int p),.pl (.int w),.pl (.str h.1),.pl (.int h.2),.ac (.list (ps'.map zhv)),v]:=λq hq=>⟨ps++[q],_,by simp[hl],λx hx=>by
    rcases qz.mp hx with hx|hx
    ·exact hps x hx
    ·rw[qR.mp hx];exact hq,by rw[qr];rfl⟩
   refine DrS.iff (c1:=1) (c2:=11) (P1:=λ_=>True) (DrT.b (Dr.op (c1:=1) (c2:=0) (P2:=λr=>r=vi 0) (zbv (k:=2) (by decide) (by decide)) (Dr.pure rfl rfl) ?_)) (λ_=>?_) (λ_=>?_)
   ·rintro a b ⟨x,rfl,_⟩ rfl
    exact⟨.bool (x==0),false,eqI,_,rfl,trivial⟩
   ·refine DrS.mono (c1:=1) (DrS.app (ds:=ps.map zhv) rfl (by rw[qC];omega) (Dr.tup2 (c1:=0) (c2:=1) (P1:=λr=>r=vs "own") (Dr.pure rfl rfl) (zhs (k:=p) (Dr.pure rfl rfl) (by omega) (by omega)) ?_)) (by decide)
    rintro x y rfl ⟨i,rfl,i0,i1⟩
    exact⟨by show(7:Nat)∉([]:List Nat);simp,last (.own i) (ztx i0 (by omega))⟩
   ·refine DrS.app (ds:=ps.map zhv) rfl (by rw[qC];omega) (Dr.tup3 (c1:=0) (c2:=1) (c3:=10) (P1:=λr=>r=vs "new") (P2:=λr=>∃z:Str,Wd z/\r=vs z) (Dr.pure rfl rfl) (Dr.op (c1:=0) (c2:=1) (P1:=λr=>r=⟨zas A,false,[]⟩) (Dr.pure rfl rfl) (zhs (k:=(A.length:Int)) (Dr.pure (zaaq (enc:=PyData.str) rfl) rfl) (by omega) (by omega)) ?_) zpf ?_)
    ·rintro a b rfl ⟨x,rfl,x0,x1⟩
     obtain⟨z,hz,ez⟩:=ix_l (enc:=PyData.str) x0 x1
     exact⟨.str z,false,ez,z,hA z hz,rfl⟩
    ·rintro x y z rfl ⟨n,hn,rfl⟩ ⟨i,rfl,hi⟩
     exact⟨by show(7:Nat)∉([]:List Nat);simp,last (.new n i) ⟨hn,hi⟩⟩
  ·rintro e ⟨ps,v,hl,hps,rfl⟩
   exact⟨ps,v,by rw[hl,qX],hps,rfl⟩
 rintro e ⟨ps,v,hl,hps,rfl⟩
 exact DrS.ret (Dr.pure rfl ⟨rfl,.call h.1 ps,rfl,hok.n,by omega,hps⟩)
theorem zqm {α:Type} {enc:α->PyData} {nm:α->Str} {rest:α->List PyData} (he:∀x,enc x=.tuple (.str (nm x)::rest x)) {env:DEnv} {i:Nat} {l:List α} (h:env[i]?=some (.ac (.list (l.map enc)))\/env[i]?=some (.pl (.list (l.map enc)))) (hl:l.length<100000) {own:Str} :
  zep [own] [] (zbg (eVar i)) (gN 0) zci (eIxV 0 (eC (.int 0))) env=some ⟨zas (l.map nm),true,[]⟩:=by
 have it:∃bs,zbg (eVar i) env=some (l.map enc,bs):=by
  unfold zbg eVar
  rcases h with h|h<;>rw[h]<;>exact⟨_,rfl⟩
 obtain⟨bs,it⟩:=it
 have cm:zgp (gN 0) zci (eIxV 0 (eC (.int 0))) (envB [own] [] env) (l.map enc)=some (l.map λx=>PyData.str (nm x)):=by
  refine ziz λx hx=>⟨[.pl (enc x)],rfl,rfl,vs (nm x),?_,rfl⟩
  rw[he]
  show eOp ixD (eVar 0) (eC (.int 0)) [.pl (.tuple (.str (nm x)::rest x))]=_
  exact zgl (d:=.str (nm x)) (fr:=false) rfl rfl (by unfold ixD;dsimp only;rw[show(0:Int)=((0:Nat):Int)from rfl,zmq rfl];rfl)
 have e:=zri (own:=[own]) (fr:=[]) it (by rw[qC];exact hl) cm
 have e2:(l.map λx=>PyData.str (nm x))=(l.map nm).map .str:=by rw[qAM];rfl
 rw[e2,zid]at e
 exact e
theorem zvq{env:DEnv}{a:EFr Pen3}{A:List Str}{bs:List Nat}{fr:Bool}(h:Dr 0 a env λr=>r=⟨zas A,fr,bs⟩)(hA:∀x∈A,Wd x):Dr 7 (zbd 2 zel (zaz a rNil)) env λr=>∃x:Str,r=vs x/\Wd x:=by
 refine Dr.call (c1:=0) (c2:=7) (PA:=λrs=>rs=[⟨zas A,fr,bs⟩]) (DrA.one (h.imp λr hr=>by rw[hr])) ?_
 rintro rs rfl
 refine⟨rfl,λn st hb=>?_⟩
 obtain⟨d,fr,s,e,⟨h1,x,h2,h3⟩,b⟩:=zadq hA n st hb
 exact⟨d,fr,s,e,⟨x,by rw[h1,h2];rfl,h3⟩,b⟩
theorem zacy{env:DEnv}{i:Nat}{d:PyData}(h:env[i]?=some (.ac d)):frzs env [i]=env.set i (.pl d):=by
 show frz1 env i=_
 unfold frz1
 rw[h]
theorem zakb{A:List Str}{env:DEnv}{p:Int}(h1:env[1]?=some (.pl (zas A)))(h3:env[3]?=some (.pl (.int p)))(a1:A.length<=10)(p0:1<=p)(p1:p<=3):∃m:Nat,m<=1000/\zzw (eOp ixD (eLst (zag (eC (.int 1)) (zag (eCB lenD (zag (eVar 1) aNil)) (zag (eOp powB (eCB lenD (zag (eVar 1) aNil)) (eC (.int 2))) (zag (eOp powB (eCB lenD (zag (eVar 1) aNil)) (eC (.int 3))) aNil))))) (eVar 3)) env=some ⟨.list ((List.range m).map λ(k:Nat)=>PyData.int (k:Int)),true,[]⟩:=by
 have v1:eVar 1 env=some ⟨zas A,false,[]⟩:=by unfold eVar;rw[h1]
 have v3:eVar 3 env=some (vi p):=by unfold eVar;rw[h3]
 have l1:eCB lenD (zag (eVar 1) aNil) env=some (vi (A.length:Int)):=zaaq (enc:=PyData.str) v1
 have sm:((A.length:Int)).natAbs<2 ^ 1000:=zoz (Nat.lt_of_le_of_lt (show _<=10 by omega) (by decide +kernel))
 have q2:eOp powB (eCB lenD (zag (eVar 1) aNil)) (eC (.int 2)) env=some (vi ((A.length:Int) ^ (2:Int).toNat)):=zoy l1 rfl (by decide) (by decide) sm
 have q3:eOp powB (eCB lenD (zag (eVar 1) aNil)) (eC (.int 3)) env=some (vi ((A.length:Int) ^ (3:Int).toNat)):=zoy l1 rfl (by decide) (by decide) sm
 have el:eLst (zag (eC (.int 1)) (zag (eCB lenD (zag (eVar 1) aNil)) (zag (eOp powB (eCB lenD (zag (eVar 1) aNil)) (eC (.int 2))) (zag (eOp powB (eCB lenD (zag (eVar 1) aNil)) (eC (.int 3))) aNil)))) env=some ⟨.list [.int 1,.int A.length,.int ((A.length:Int) ^ (2:Int).toNat),.int ((A.length:Int) ^ (3:Int).toNat)],true,[]⟩:=by
  unfold eLst
  rw[zht rfl (zht l1 (zht q2 (zht q3 rfl)))]
  rfl
 have bd:∀n:Nat,n<=10->(n:Int) ^ (2:Int).toNat<=1000/\(n:Int) ^ (3:Int).toNat<=1000:=by decide +kernel
 have b2:=bd A.length a1
 have key:∃x:Int,0<=x/\x<=1000/\ixD (.list [.int 1,.int A.length,.int ((A.length:Int) ^ (2:Int).toNat),.int ((A.length:Int) ^ (3:Int).toNat)]) (.int p)=some (.int x,false):=by
  rcases(show p=1\/p=2\/p=3 by omega)with rfl|rfl|rfl
  ·exact⟨A.length,by omega,by omega,rfl⟩
  ·exact⟨_,Int.pow_nonneg (by omega),b2.1,rfl⟩
  ·exact⟨_,Int.pow_nonneg (by omega),b2.2,rfl⟩
 obtain⟨x,x0,x1,ex⟩:=key
 refine⟨x.toNat,by omega,?_⟩
 unfold zzw
 rw[zgl el v3 ex]
 show(if 0<=x/\x<=100000 then _ else _)=_
 rw[if_pos ⟨x0,by omega⟩]
noncomputable abbrev rE(A:List Str)(hs:List (Str×Int))(p m s:Int)(v6 v7 v8 v9 v10 v11:Sl):DEnv:=[.no,.pl (zas A),.pl (.list (hs.map hdD)),.pl (.int p),.pl (.int m),.pl (.int s),v6,v7,v8,v9,v10,v11]
theorem zagq{A:List Str}{hs:List (Str×Int)}{p m s:Int}(hA:∀x∈A,Wd x)(a0:0<A.length)(a1:A.length<=10)(hh:∀x∈hs,HdOk x)(h0:0<hs.length)(h1:hs.length<=1000)(p0:1<=p)(p1:p<=3)(m0:0<=m)(m1:m<=12)(s0:0<=s)(s1:s<=6) :
  DrG 3700 zex [zas A,.list (hs.map hdD),.int p,.int m,.int s] λd fr=>fr=true/\∃rs:List Rl,d=.list (rs.map rlD)/\rs.length<=12/\∀r∈rs,RlOk3 r:=by
 refine DrS.fn (env:=rE A hs p m s .no .no .no .no .no .no) rfl ?_
 refine DrS.seq (c1:=12) (c2:=3688) (N1:=λe=>∃ns:List Nat,ns.length<=12/\e=rE A hs p m s (.ac (.list (ns.map λ(k:Nat)=>PyData.int (k:Int)))) .no .no .no .no .no) (DrS.set ?_) ?_
 ·obtain⟨q,hq,eq⟩:=zakb (A:=A) (env:=rE A hs p m s .no .no .no .no .no .no) (p:=p) rfl rfl a1 p0 p1
  refine Dr.call (c1:=0) (c2:=12) (PA:=λrs=>rs=[⟨.list ((List.range q).map λ(k:Nat)=>PyData.int (k:Int)),true,[]⟩,vi m]) (DrA.cons (c1:=0) (c2:=0) (P1:=λr=>r=⟨.list ((List.range q).map λ(k:Nat)=>PyData.int (k:Int)),true,[]⟩) (P2:=λrs=>rs=[vi m]) (Dr.pure eq rfl) (DrA.one (Dr.pure rfl rfl)) λx xs e1 e2=>by rw[e1,e2]) ?_
  rintro rs rfl
  refine⟨rfl,λn st hb=>?_⟩
  obtain⟨d,fr,st',e,⟨h2,l',h3,h4,h5⟩,b⟩:=zaag (enc:=λ(k:Nat)=>PyData.int (k:Int)) (List.range q) (m:=m) (C:=12) m0 (by omega) (by rw[qX];exact hq) (by omega) n st hb
  exact⟨d,fr,st',e,⟨l',by omega,by rw[h2,h3];rfl⟩,b⟩
 rintro e ⟨ns,hns,rfl⟩
 refine DrS.seq (c1:=0) (c2:=3688) (N1:=λe=>e=rE A hs p m s (.ac (.list (ns.map λ(k:Nat)=>PyData.int (k:Int)))) (.ac (.list [])) .no .no .no .no) (DrS.set (Dr.pure rfl rfl)) ?_
 rintro e rfl
 refine DrS.seq (c1:=3688) (c2:=0) (N1:=λe=>∃(rs:List Rl)(v6 v8 v9 v10 v11:Sl),rs.length<=12/\(∀r∈rs,RlOk3 r)/\e=rE A hs p m s v6 (.ac (.list (rs.map rlD))) v8 v9 v10 v11) ?_ ?_
 ·refine DrS.mono (DrS.for (c:=307) (enc:=λ(k:Nat)=>PyData.int (k:Int)) (l:=ns) (bs:=[6]) rfl (λpre e=>∃(rs:List Rl)(v6 v8 v9 v10 v11:Sl),rs.length=pre.length/\(∀r∈rs,RlOk3 r)/\e=rE A hs p m s v6 (.ac (.list (rs.map rlD))) v8 v9 v10 v11) ⟨[],_,.no,.no,.no,.no,rfl,(λr hr=>by cases hr),rfl⟩ ?_ ?_) (by omega)
  ·rintro pre k post e hp ⟨rs,v6,v8,v9,v10,v11,hl,hr,rfl⟩
   have hk:pre.length<ns.length:=by
    have:=congrArg List.length hp
    rw[qF,qs]at this
    omega
   refine⟨_,rfl,?_⟩
   refine DrS.seq (c1:=0) (c2:=307) (N1:=λe=>e=rE A hs p m s v6 (.ac (.list (rs.map rlD))) (.pl (.int (k:Int))) (.ac (.list [])) v10 v11) (DrS.set (Dr.pure rfl rfl)) ?_
   rintro e rfl
   have it:zcw (zag (eVar 3) aNil) (rE A hs p m s v6 (.ac (.list (rs.map rlD))) (.pl (.int (k:Int))) (.ac (.list [])) v10 v11)=some ((List.range p.toNat).map (λ(k:Nat)=>PyData.int (k:Int)),[]):=by
    show(if _ then _ else _)=_
    rw[if_pos (by omega),zhf]
   refine DrS.seq (c1:=0) (c2:=307) (N1:=λe=>∃(ks:List Str)(v8 v10:Sl),ks.length=p.toNat/\(∀x∈ks,Wd x)/\e=rE A hs p m s v6 (.ac (.list (rs.map rlD))) v8 (.ac (zas ks)) v10 v11) ?_ ?_
   ·refine DrS.mono (DrS.for (c:=0) it (λpre e=>∃(ks:List Str)(q:Int)(v10:Sl),ks.length=pre.length/\(∀x∈ks,Wd x)/\e=rE A hs p m s v6 (.ac (.list (rs.map rlD))) (.pl (.int q)) (.ac (zas ks)) v10 v11) ⟨[],(k:Int),v10,rfl,(λr hr=>by cases hr),rfl⟩ ?_ ?_) (by omega)
    ·rintro pre j post e hp2 ⟨ks,q,v10,hkl,hks,rfl⟩
     have hk:pre.length<p.toNat:=by
      have:=congrArg List.length hp2
      rw[qF,qs,qX]at this
      omega
     refine⟨_,rfl,?_⟩
     have m0:0<=q % (A.length:Int):=qAN _ (by omega)
     have m1:q % (A.length:Int)<A.length:=qAH _ (by omega)
     have len:∀v8 v9,eCB lenD (zag (eVar 1) aNil) (rE A hs p m s v6 (.ac (.list (rs.map rlD))) v8 v9 (.pl (.int (j:Int))) v11)=some (vi (A.length:Int)):=λv8 v9=>zaaq (enc:=PyData.str) rfl
     have hlt:(q % (A.length:Int)).toNat<A.length:=by omega
     have ei:eIxV 1 (eOp modD (eVar 8) (eCB lenD (zag (eVar 1) aNil))) (rE A hs p m s v6 (.ac (.list (rs.map rlD))) (.pl (.int q)) (.ac (zas ks)) (.pl (.int (j:Int))) v11)=some (vs A[(q % (A.length:Int)).toNat]):=
      zalb (n:=(q % (A.length:Int)).toNat) (ds:=A.map .str) rfl (by rw[znr rfl (len _ _) (by omega),show(((q % (A.length:Int)).toNat:Nat):Int)=q % (A.length:Int) by omega]) (by rw[qa,qN hlt];rfl)
     refine DrS.seq (c1:=0) (c2:=0) (N1:=λe=>e=rE A hs p m s v6 (.ac (.list (rs.map rlD))) (.pl (.int q)) (.ac (zas (ks++[A[(q % (A.length:Int)).toNat]]))) (.pl (.int (j:Int))) v11) (DrS.app (ds:=ks.map .str) rfl (by rw[qC];omega) (Dr.pure ei ⟨by simp,?_⟩)) ?_
     ·unfold zas;rw[qr];rfl
     rintro e rfl
     refine DrS.set (Dr.pure (zwg rfl (len _ _) (by omega) (by omega)) ⟨ks++[A[(q % (A.length:Int)).toNat]],q / A.length,_,by simp[hkl],λx hx=>?_,rfl⟩)
     rcases qz.mp hx with hx|hx
     ·exact hks x hx
     ·rw[qR.mp hx];exact hA _ (qBB hlt)
    ·rintro e ⟨ks,q,v10,hkl,hks,rfl⟩
     exact⟨ks,_,v10,by rw[hkl,qX],hks,rfl⟩
   rintro e ⟨ks,v8,v10,hkl,hks,rfl⟩
   refine DrS.seq (c1:=7) (c2:=300) (N1:=λe=>∃x:Str,Wd x/\e=rE A hs p m s v6 (.ac (.list (rs.map rlD))) v8 (.ac (zas ks)) v10 (.pl (.str x))) (DrS.set ((zvq (A:=rs.map (·.n)) (Dr.pure (zqm (enc:=rlD) (nm:=λr:Rl=>r.n) (rest:=λr=>[.tuple (r.ks.map .str),.list (r.ss.map stpD)]) (λr=>rfl) (.inl rfl) (by omega)) rfl) ?_).imp ?_)) ?_
   ·intro x hx
    obtain⟨r,hr',rfl⟩:=ql.mp hx
    exact(hr r hr').n
   ·rintro r ⟨x,rfl,hx⟩;exact⟨x,hx,rfl⟩
   rintro e ⟨x,hx,rfl⟩
   have it2:zcw (zag (eVar 5) aNil) (rE A hs p m s v6 (.ac (.list (rs.map rlD))) v8 (.ac (zas ks)) v10 (.pl (.str x)))=some ((List.range s.toNat).map (λ(k:Nat)=>PyData.int (k:Int)),[]):=by
    show(if _ then _ else _)=_
    rw[if_pos (by omega),zhf]
   have last:∀ss:List Stp,ss.length<=6->(∀y∈ss,zkh y)->∃(rs':List Rl)(w6 w8 w9 w10 w11:Sl),rs'.length=(pre++[k]).length/\(∀r∈rs',RlOk3 r)/\rE A hs p m s v6 (.ac (.list (rs.map rlD++[rlD ⟨x,ks,ss⟩]))) v8 (.pl (zas ks)) v10 (.pl (.str x))=rE A hs p m s w6 (.ac (.list (rs'.map rlD))) w8 w9 w10 w11:=λss hsl hss=>⟨rs++[⟨x,ks,ss⟩],_,_,_,_,_,by simp[hl],λr hr'=>by
    rcases qz.mp hr' with hr'|hr'
    ·exact hr r hr'
    ·rw[qR.mp hr'];exact⟨hx,hks,by show ks.length<=3;omega,hss,hsl⟩,by rw[qr];rfl⟩
   refine DrS.app (ds:=rs.map rlD) rfl (by rw[qC];omega) (Dr.mono (Dr.tup3 (c1:=0) (c2:=0) (c3:=50 * (List.range s.toNat).length) (P1:=λr=>r=vs x) (P2:=λr=>r=⟨.tuple (ks.map .str),false,[9]⟩) (P3:=λr=>∃ss:List Stp,ss.length<=6/\(∀y∈ss,zkh y)/\r.d=.list (ss.map stpD)/\r.bs=[]) (Dr.pure rfl rfl) (Dr.pure rfl rfl) (Dr.comp (Q:=λd=>∃y:Stp,zkh y/\d=stpD y) it2 (by rw[qX];omega) ?_ ?_) ?_) (by rw[qX];omega))
   ·intro j _
    refine⟨[.pl (.int (j:Int)),.no,.pl (zas A),.pl (.list (hs.map hdD)),.pl (.int p)],rfl,?_⟩
    refine Dr.call (c1:=0) (c2:=50) (PA:=λrs=>rs=[⟨zas A,false,[]⟩,⟨.list (hs.map hdD),false,[]⟩,vi p]) (DrA.cons (c1:=0) (c2:=0) (P1:=λr=>r=⟨zas A,false,[]⟩) (P2:=λrs=>rs=[⟨.list (hs.map hdD),false,[]⟩,vi p]) (Dr.pure rfl rfl) (DrA.cons (c1:=0) (c2:=0) (P1:=λr=>r=⟨.list (hs.map hdD),false,[]⟩) (P2:=λrs=>rs=[vi p]) (Dr.pure rfl rfl) (DrA.one (Dr.pure rfl rfl)) λx xs e1 e2=>by rw[e1,e2]) λx xs e1 e2=>by rw[e1,e2]) ?_
    rintro rs rfl
    refine⟨rfl,λn st hb=>?_⟩
    obtain⟨d,fr,st',e,⟨h2,y,h3,h4⟩,b⟩:=zaka hA a0 (by omega) hh h0 h1 p0 p1 n st hb
    exact⟨d,fr,st',e,⟨y,h4,h3⟩,b⟩
   ·intro ys hyl hys
    have cv:∀ys:List PyData,(∀y∈ys,∃z:Stp,zkh z/\y=stpD z)->∃ss:List Stp,ys=ss.map stpD/\∀z∈ss,zkh z:=by
     intro ys
     induction ys with
     | nil=>exact λ_=>⟨[],rfl,λz hz=>by cases hz⟩
     | cons y ys ih=>
      intro h
      obtain⟨z,hz,rfl⟩:=h y (by simp)
      obtain⟨ss,rfl,hss⟩:=ih λy hy=>h y (qL _ hy)
      exact⟨z::ss,rfl,λw hw=>by rcases qW.mp hw with rfl|hw;exact hz;exact hss w hw⟩
    obtain⟨ss,rfl,hss⟩:=cv ys hys
    rw[qC,qX]at hyl
    refine⟨ss,by omega,hss,rfl,?_⟩
    show(if _ then _ else _)=_
    split<;>rfl
   ·rintro a b c rfl rfl ⟨ss,hsl,hss,hd,hbs⟩
    have eb:bss [vs x,⟨.tuple (ks.map .str),false,[9]⟩,c]=[9]:=by
     show[]++([9]++(c.bs++[]))=[9]
     rw[hbs];rfl
    refine⟨by show(7:Nat)∉bss _;rw[eb];decide,?_⟩
    show ∃_,_
    have:=last ss hsl hss
    dsimp only
    rw[eb,zacy (d:=zas ks) rfl,hd]
    exact this
  ·rintro e ⟨rs,v6,v8,v9,v10,v11,hl,hr,rfl⟩
   exact⟨rs,v6,v8,v9,v10,v11,by omega,hr,rfl⟩
 rintro e ⟨rs,v6,v8,v9,v10,v11,hl,hr,rfl⟩
 exact DrS.retV (F:=zkc 7) rfl ⟨rfl,rs,rfl,hl,hr⟩
theorem zty {env:DEnv} {i:Nat} {W:List Kd} (h:env[i]?=some (.ac (.list (W.map kdD)))\/env[i]?=some (.pl (.list (W.map kdD)))) (hl:W.length<100000) {o1 o2:Str} :
  zep [o1,o2] [] (zbg (eVar i)) (gT 2 (zax 0 (zax 1 zeg))) zci (eVar 0) env=some ⟨zas (W.map (·.1)),true,[]⟩:=by
 have it:∃bs,zbg (eVar i) env=some (W.map kdD,bs):=by
  unfold zbg eVar
  rcases h with h|h<;>rw[h]<;>exact⟨_,rfl⟩
 obtain⟨bs,it⟩:=it
 have cm:zgp (gT 2 (zax 0 (zax 1 zeg))) zci (eVar 0) (envB [o1,o2] [] env) (W.map kdD)=some (W.map λx=>PyData.str x.1):=
  ziz λx hx=>⟨[.pl (.str x.1),.pl (zas x.2)],rfl,rfl,vs x.1,rfl,rfl⟩
 have e:=zri (own:=[o1,o2]) (fr:=[]) it (by rw[qC];exact hl) cm
 have e2:(W.map λx=>PyData.str x.1)=(W.map (·.1)).map .str:=by rw[qAM];rfl
 rw[e2,zid]at e
 exact e
noncomputable abbrev pE(k d r s:Int)(v5 v6 v7 v8 v9 v10 v11:Sl):DEnv:=[.no,.pl (.int k),.pl (.int d),.pl (.int r),.pl (.int s),v5,v6,v7,v8,v9,v10,v11]
theorem zakc{env:DEnv}{a:EFr Pen3}{m:Int}(h:Dr 0 a env λr=>r=vi m)(m0:0<=m)(m1:m<=10):Dr 150 (zbd 2 zew (zaz a rNil)) env λr=>∃W:List Kd,r=⟨.list (W.map kdD),true,[]⟩/\(W.length:Int)=m/\∀x∈W,KdOk x:=by
 refine Dr.call (c1:=0) (c2:=150) (PA:=λrs=>rs=[vi m]) (DrA.one (h.imp λr hr=>by rw[hr])) ?_
 rintro rs rfl
 refine⟨rfl,λn st hb=>?_⟩
 obtain⟨d,fr,s,e,⟨h1,W,h2,h3⟩,b⟩:=zald m0 m1 n st hb
 exact⟨d,fr,s,e,⟨W,by rw[h1,h2];rfl,h3⟩,b⟩
theorem zaar{k d r s:Int}(k0:1<=k)(k1:k<=10)(d0:0<=d)(d1:d<=4)(r0:0<=r)(r1:r<=12)(s0:0<=s)(s1:s<=6):DrG 15000 zdw [.int k,.int d,.int r,.int s] λx fr=>fr=false/\∃W ds,x=pgD W ds/\PgOk W ds:=by
 refine DrS.fn (env:=pE k d r s .no .no .no .no .no .no .no) rfl ?_
 refine DrS.seq (c1:=150) (c2:=14850) (N1:=λe=>∃W:List Kd,(W.length:Int)=k/\(∀x∈W,KdOk x)/\e=pE k d r s (.ac (.list (W.map kdD))) .no .no .no .no .no .no) (DrS.set ((zakc (m:=k) (Dr.pure rfl rfl) (by omega) k1).imp ?_)) ?_
 ·rintro x ⟨W,rfl,h⟩;exact⟨W,h.1,h.2,rfl⟩
 rintro e ⟨W,hW,hWo,rfl⟩
 generalize hA:W.map (·.1)=A
 have al:A.length=W.length:=by rw[<- hA,qC]
 have aw:∀x∈A,Wd x:=λx hx=>by
  rw[<- hA]at hx
  obtain⟨y,hy,rfl⟩:=ql.mp hx
  exact(hWo y hy).n
 refine DrS.seq (c1:=0) (c2:=14850) (N1:=λe=>e=pE k d r s (.ac (.list (W.map kdD))) (.ac (zas A)) .no .no .no .no .no) (DrS.set (Dr.pure (zty (.inl rfl) (by omega)) (by rw[hA];rfl))) ?_
 rintro e rfl
 refine DrS.seq (c1:=0) (c2:=14850) (N1:=λe=>e=pE k d r s (.ac (.list (W.map kdD))) (.ac (zas A)) (.ac (.list [])) .no .no .no .no) (DrS.set (Dr.pure rfl rfl)) ?_
 rintro e rfl
 have it:zcw (zag (eVar 2) aNil) (pE k d r s (.ac (.list (W.map kdD))) (.ac (zas A)) (.ac (.list [])) .no .no .no .no)=some ((List.range d.toNat).map (λ(k:Nat)=>PyData.int (k:Int)),[]):=by
  show(if _ then _ else _)=_
  rw[if_pos (by omega),zhf]
 refine DrS.seq (c1:=32) (c2:=14818) (N1:=λe=>∃(hs:List (Str×Int))(v8 v9:Sl),hs.length<=4/\(∀x∈hs,HdOk x)/\e=pE k d r s (.ac (.list (W.map kdD))) (.ac (zas A)) (.ac (.list (hs.map hdD))) v8 v9 .no .no) ?_ ?_
 ·refine DrS.mono (DrS.for (c:=8) it (λpre e=>∃(hs:List (Str×Int))(v8 v9:Sl),hs.length=pre.length/\(∀x∈hs,HdOk x)/\e=pE k d r s (.ac (.list (W.map kdD))) (.ac (zas A)) (.ac (.list (hs.map hdD))) v8 v9 .no .no) ⟨[],.no,.no,rfl,(λx hx=>by cases hx),rfl⟩ ?_ ?_) (by rw[qX];omega)
  ·rintro pre j post e hp ⟨hs,v8,v9,hl,hh,rfl⟩
   have hk:pre.length<d.toNat:=by
    have:=congrArg List.length hp
    rw[qF,qs,qX]at this
    omega
   refine⟨_,rfl,?_⟩
   refine DrS.seq (c1:=1) (c2:=7) (N1:=λe=>∃q:Int,1<=q/\q<=3/\e=pE k d r s (.ac (.list (W.map kdD))) (.ac (zas A)) (.ac (.list (hs.map hdD))) (.pl (.int (j:Int))) (.pl (.int q)) .no .no) (DrS.set ?_) ?_
   ·refine Dr.cb (c:=1) (PA:=λrs=>∃x y:Int,rs=[vi x,vi y]/\1<=x/\x<=3/\2<=y) (DrA.cons (c1:=1) (c2:=0) (P1:=λr=>∃x:Int,r=vi x/\1<=x/\x<=3) (P2:=λrs=>∃y:Int,rs=[vi y]/\2<=y) ?_ (DrA.one (Dr.pure (zuz (j:=if decide (k<7)=true then 1 else 0) rfl (zla (zgf rfl) rfl)) ⟨_,rfl,by split<;>omega⟩)) λr rs ⟨x,h1,h2⟩ ⟨y,h3,h4⟩=>⟨x,y,by rw[h1,h3],h2.1,h2.2,h4⟩) ?_
    ·refine Dr.op (c1:=0) (c2:=1) (P1:=λr=>r=vi 1) (Dr.pure rfl rfl) (zbv (k:=3) (by decide) (by decide)) ?_
     rintro a b rfl ⟨x,rfl,h0,h1⟩
     exact⟨.int (1+x),false,rfl,1+x,rfl,by omega,by omega⟩
    ·rintro rs ⟨x,y,rfl,x0,x1,y0⟩
     refine⟨.int (if y<x then y else x),false,rfl,_,?_,?_,rfl⟩<;>split<;>omega
   rintro e ⟨q,q0,q1,rfl⟩
   refine DrS.app (ds:=hs.map hdD) rfl (by rw[qC];omega) (Dr.tup2 (c1:=7) (c2:=0) (P2:=λr=>r=vi q) (zvq (A:=hs.map (·.1)) (Dr.pure (zqm (enc:=hdD) (nm:=λh:Str×Int=>h.1) (rest:=λh=>[.int h.2]) (λr=>rfl) (.inl rfl) (by omega)) rfl) ?_) (Dr.pure rfl rfl) ?_)
   ·intro x hx
    obtain⟨y,hy,rfl⟩:=ql.mp hx
    exact(hh y hy).n
   ·rintro x y ⟨z,rfl,hz⟩ rfl
    refine⟨by show(7:Nat)∉([]:List Nat);simp,hs++[(z,q)],.pl (.int (j:Int)),.pl (.int q),by simp[hl],λx hx=>?_,by rw[qr];rfl⟩
    rcases qz.mp hx with hx|hx
    ·exact hh x hx
    ·rw[qR.mp hx];exact⟨hz,q0,q1⟩
  ·rintro e ⟨hs,v8,v9,hl,hh,rfl⟩
   rw[qX]at hl
   exact⟨hs,v8,v9,by omega,hh,rfl⟩
 rintro e ⟨hs,v8,v9,hl,hh,rfl⟩
 refine DrS.seq (c1:=0) (c2:=14818) (N1:=λe=>e=pE k d r s (.ac (.list (W.map kdD))) (.ac (zas A)) (.ac (.list (hs.map hdD))) v8 v9 (.ac (.list [])) .no) (DrS.set (Dr.pure rfl rfl)) ?_
 rintro e rfl
 refine DrS.seq (c1:=14818) (c2:=0) (N1:=λe=>∃(ds:List Dd)(v6 v7 v9 v11:Sl),ds.length<=4/\(∀x∈ds,DdOk x)/\e=pE k d r s (.ac (.list (W.map kdD))) v6 v7 v8 v9 (.ac (.list (ds.map ddD))) v11) ?_ ?_
 ·refine DrS.mono (DrS.for (c:=3700) (enc:=hdD) (l:=hs) (bs:=[7]) rfl (λpre e=>∃(ds:List Dd)(v6 v9 v11:Sl),ds.length=pre.length/\(∀x∈ds,DdOk x)/\(v6=.ac (zas A)\/v6=.pl (zas A))/\e=pE k d r s (.ac (.list (W.map kdD))) v6 (.pl (.list (hs.map hdD))) v8 v9 (.ac (.list (ds.map ddD))) v11) ⟨[],_,v9,.no,rfl,(λx hx=>by cases hx),.inl rfl,rfl⟩ ?_ ?_) (by omega)
  ·rintro pre h post e hp ⟨ds,v6,v9,v11,hdl,hdo,h6,rfl⟩
   have hm:h∈hs:=by rw[<- hp];simp
   have hk:pre.length<hs.length:=by
    have:=congrArg List.length hp
    rw[qF,qs]at this
    omega
   refine⟨pE k d r s (.ac (.list (W.map kdD))) v6 (.pl (.list (hs.map hdD))) v8 (.pl (.int h.2)) (.ac (.list (ds.map ddD))) (.pl (.str h.1)),rfl,?_⟩
   have v6e:∃bs,(bs=[6]\/bs=[])/\eVar 6 (pE k d r s (.ac (.list (W.map kdD))) v6 (.pl (.list (hs.map hdD))) v8 (.pl (.int h.2)) (.ac (.list (ds.map ddD))) (.pl (.str h.1)))=some ⟨zas A,false,bs⟩/\(bs=[6]->v6=.ac (zas A)):=by
    rcases h6 with rfl|rfl
    ·exact⟨[6],.inl rfl,rfl,λ_=>rfl⟩
    ·exact⟨[],.inr rfl,rfl,λz=>by cases z⟩
   obtain⟨bs,hbs,ev6,hb6⟩:=v6e
   have hho:=hh h hm
   refine DrS.app (ds:=ds.map ddD) rfl (by rw[qC];omega) (Dr.tup3 (c1:=0) (c2:=0) (c3:=3700) (P1:=λr=>r=vs h.1) (P2:=λr=>r=vi h.2) (P3:=λr=>∃rs:List Rl,r=⟨.list (rs.map rlD),true,bs⟩/\rs.length<=12/\∀x∈rs,RlOk3 x) (Dr.pure rfl rfl) (Dr.pure rfl rfl) (Dr.call (c1:=0) (c2:=3700) (PA:=λrs=>rs=[⟨zas A,false,bs⟩,⟨.list (hs.map hdD),false,[]⟩,vi h.2,vi r,vi s]) ?_ ?_) ?_)
   ·refine DrA.cons (c1:=0) (c2:=0) (P1:=λr=>r=⟨zas A,false,bs⟩) (P2:=λrs=>rs=[⟨.list (hs.map hdD),false,[]⟩,vi h.2,vi r,vi s]) (Dr.pure ev6 rfl) (DrA.cons (c1:=0) (c2:=0) (P1:=λr=>r=⟨.list (hs.map hdD),false,[]⟩) (P2:=λrs=>rs=[vi h.2,vi r,vi s]) (Dr.pure rfl rfl) (DrA.cons (c1:=0) (c2:=0) (P1:=λr=>r=vi h.2) (P2:=λrs=>rs=[vi r,vi s]) (Dr.pure rfl rfl) (DrA.cons (c1:=0) (c2:=0) (P1:=λx=>x=vi r) (P2:=λrs=>rs=[vi s]) (Dr.pure rfl rfl) (DrA.one (Dr.pure rfl rfl)) λx xs e1 e2=>by rw[e1,e2]) λx xs e1 e2=>by rw[e1,e2]) λx xs e1 e2=>by rw[e1,e2]) λx xs e1 e2=>by rw[e1,e2]
   ·rintro rs rfl
    refine⟨rfl,λn st hb=>?_⟩
    obtain⟨x,fr,st',e,⟨h2,rs,h3,h4,h5⟩,b⟩:=zagq aw (by omega) (by omega) hh (by omega) (by omega) hho.p0 hho.p1 r0 r1 s0 s1 n st hb
    refine⟨x,fr,st',e,⟨rs,?_,h4,h5⟩,b⟩
    rw[h2,h3]
    show(⟨_,_,bss [⟨zas A,false,bs⟩,_,_,_,_]⟩:Val)=_
    rcases hbs with rfl|rfl<;>rfl
   ·rintro x y z rfl rfl ⟨rs,rfl,hrl,hro⟩
    have eb:bss [vs h.1,vi h.2,⟨.list (rs.map rlD),true,bs⟩]=bs:=by rcases hbs with rfl|rfl<;>rfl
    refine⟨by show(10:Nat)∉bss _;rw[eb];rcases hbs with rfl|rfl<;>decide,?_⟩
    dsimp only
    rw[eb]
    refine⟨ds++[⟨h.1,h.2,rs⟩],.pl (zas A),.pl (.int h.2),.pl (.str h.1),by simp[hdl],λx hx=>?_,.inr rfl,?_⟩
    ·rcases qz.mp hx with hx|hx
     ·exact hdo x hx
     ·rw[qR.mp hx];exact⟨hho.n,hho.p0,hho.p1,hro,hrl⟩
    ·rw[qr]
     rcases hbs with rfl|rfl
     ·rw[hb6 rfl];rfl
     ·rcases h6 with rfl|rfl
      ·cases ev6
      ·rfl
  ·rintro e ⟨ds,v6,v9,v11,hdl,hdo,h6,rfl⟩
   exact⟨ds,v6,_,v9,v11,by omega,hdo,rfl⟩
 rintro e ⟨ds,v6,v7,v9,v11,hdl,hdo,rfl⟩
 exact DrS.ret (Dr.pure rfl ⟨rfl,W,ds,rfl,hWo,by omega,hdo,hdl⟩)
theorem zqn{env:DEnv}{a:AFr Pen3}{c:Nat}(h:DrA c a env λrs=>∃k d r s:Int,rs=[vi k,vi d,vi r,vi s]/\1<=k/\k<=10/\0<=d/\d<=4/\0<=r/\r<=12/\0<=s/\s<=6):Dr (c+15000) (zbd 5 zdw a) env λx=>x.fr=false/\∃W ds,x.d=pgD W ds/\PgOk W ds:=by
 refine Dr.call h ?_
 rintro rs ⟨k,d,r,s,rfl,k0,k1,d0,d1,r0,r1,s0,s1⟩
 refine⟨rfl,λn st hb=>?_⟩
 obtain⟨x,fr,st',e,hx,b⟩:=zaar k0 k1 d0 d1 r0 r1 s0 s1 n st hb
 exact⟨x,fr,st',e,hx,b⟩
theorem zakd{x y:Int}{i:Int}(h0:0<=i)(h1:i<2):∃z:Int,ixD (.list [.int x,.int y]) (.int i)=some (.int z,false)/\(z=x\/z=y):=by
 rcases(show i=0\/i=1 by omega)with rfl|rfl
 ·exact⟨x,rfl,.inl rfl⟩
 ·exact⟨y,rfl,.inr rfl⟩
theorem zads{env:DEnv}{x y:Int}:Dr 1 (rOp ixD (zak (eLst (zag (eC (.int x)) (zag (eC (.int y)) aNil)))) (zbd 2 zai (zaz (zak (eC (.int 2))) rNil))) env λr=>∃z:Int,r=vi z/\(z=x\/z=y):=by
 refine Dr.op (c1:=0) (c2:=1) (P1:=λr=>r=⟨.list [.int x,.int y],true,[]⟩) (Dr.pure rfl rfl) (zbv (k:=2) (by decide) (by decide)) ?_
 rintro a b rfl ⟨i,rfl,h0,h1⟩
 obtain⟨z,ez,hz⟩:=zakd (x:=x) (y:=y) h0 h1
 exact⟨_,_,ez,z,rfl,hz⟩
theorem zagr:DrG 31000 zij [] λx fr=>fr=false/\∃W ds,x=pgD W ds/\PgOk W ds:=by
 refine DrS.fn (env:=[.no,.no]) rfl ?_
 refine DrS.mono (c1:=(1+15002)+(1+15003)) ?_ (by decide)
 refine DrS.seq (N1:=λe=>e=[.no,.no]) ?_ ?_
 ·refine DrS.iff (c1:=1) (c2:=15002) (P1:=λ_=>True) (DrT.b (Dr.op (c1:=1) (c2:=0) (P2:=λr=>r=vi 0) (zbv (k:=10) (by decide) (by decide)) (Dr.pure rfl rfl) ?_)) (λ_=>?_) λ_=>DrS.mono (c1:=0) (DrS.nx rfl) (by decide)
  ·rintro a b ⟨x,rfl,_⟩ rfl
   exact⟨.bool (x==0),false,eqI,_,rfl,trivial⟩
  ·refine DrS.seq (c1:=1) (c2:=15001) (N1:=λe=>∃k:Int,(k=10\/k=6)/\e=[.no,.pl (.int k)]) (DrS.set (zads.imp ?_)) ?_
   ·rintro r ⟨z,rfl,hz⟩;exact⟨z,hz,rfl⟩
   rintro e ⟨k,hk,rfl⟩
   refine DrS.ret (zqn (c:=1) (DrA.cons (c1:=0) (c2:=1) (P1:=λr=>r=vi k) (P2:=λrs=>∃s:Int,rs=[vi 4,vi 12,vi s]/\0<=s/\s<=6) (Dr.pure rfl rfl) (DrA.cons (c1:=0) (c2:=1) (P1:=λr=>r=vi 4) (P2:=λrs=>∃s:Int,rs=[vi 12,vi s]/\0<=s/\s<=6) (Dr.pure rfl rfl) (DrA.cons (c1:=0) (c2:=1) (P1:=λr=>r=vi 12) (P2:=λrs=>∃s:Int,rs=[vi s]/\0<=s/\s<=6) (Dr.pure rfl rfl) (DrA.one (zads.imp ?_)) ?_) ?_) ?_))
   ·rintro r ⟨z,rfl,hz⟩;exact⟨z,rfl,by omega,by omega⟩
   ·rintro x xs rfl ⟨s,rfl,h⟩;exact⟨s,rfl,h⟩
   ·rintro x xs rfl ⟨s,rfl,h⟩;exact⟨s,rfl,h⟩
   ·rintro x xs rfl ⟨s,rfl,h⟩;exact⟨k,4,12,s,rfl,by omega,by omega,by decide,by decide,by decide,by decide,h.1,h.2⟩
 rintro e rfl
 refine DrS.seq (c1:=1) (c2:=15003) (N1:=λe=>∃k:Int,1<=k/\k<=7/\e=[.no,.pl (.int k)]) (DrS.set ?_) ?_
 ·refine Dr.op (c1:=0) (c2:=1) (P1:=λr=>r=vi 1) (Dr.pure rfl rfl) (zbv (k:=7) (by decide) (by decide)) ?_
  rintro a b rfl ⟨x,rfl,h0,h1⟩
  exact⟨.int (1+x),false,rfl,1+x,by omega,by omega,rfl⟩
 rintro e ⟨k,k0,k1,rfl⟩
 refine DrS.ret (zqn (c:=3) (DrA.cons (c1:=0) (c2:=3) (P1:=λr=>r=vi k) (P2:=λrs=>∃d r s:Int,rs=[vi d,vi r,vi s]/\0<=d/\d<=4/\0<=r/\r<=12/\0<=s/\s<=6) (Dr.pure rfl rfl) (DrA.cons (c1:=1) (c2:=2) (P2:=λrs=>∃r s:Int,rs=[vi r,vi s]/\0<=r/\r<=12/\0<=s/\s<=6) (zbv (k:=4) (by decide) (by decide)) (DrA.cons (c1:=1) (c2:=1) (P2:=λrs=>∃s:Int,rs=[vi s]/\0<=s/\s<=6) (zbv (k:=4) (by decide) (by decide)) (DrA.one ((zbv (k:=5) (by decide) (by decide)).imp ?_)) ?_) ?_) ?_))
 ·rintro r ⟨z,rfl,h0,h1⟩;exact⟨z,rfl,by omega,by omega⟩
 ·rintro x xs ⟨r,rfl,h0,h1⟩ ⟨s,rfl,h⟩;exact⟨r,s,rfl,by omega,by omega,h⟩
 ·rintro x xs ⟨d,rfl,h0,h1⟩ ⟨r,s,rfl,h⟩;exact⟨d,r,s,rfl,by omega,by omega,h⟩
 ·rintro x xs rfl ⟨d,r,s,rfl,h⟩;exact⟨k,d,r,s,rfl,by omega,by omega,h⟩
noncomputable abbrev cE(W0:List Kd)(D0:List Dd)(v2 v4 v5 v6 v7 v8 v9 v10 v11 v12:Sl):DEnv:=[.no,.pl (pgD W0 D0),v2,.pl (.list (D0.map ddD)),v4,v5,v6,v7,v8,v9,v10,v11,v12]
theorem zaas{W:List Kd}{D:List Dd}(h:PgOk W D):DrG 600 zgq [pgD W D] λx fr=>fr=false/\∃W ds,x=pgD W ds/\PgOk W ds:=by
 have wl:=h.wl
 have dl:=h.dl
 refine DrS.fn (env:=[.no,.pl (pgD W D),.no,.no,.no,.no,.no,.no,.no,.no,.no,.no,.no]) rfl ?_
 refine DrS.seq (c1:=0) (c2:=600) (N1:=λe=>e=cE W D (.pl (.list (W.map kdD))) .no .no .no .no .no .no .no .no .no) (DrS.asg (Dr.pure rfl ⟨_,rfl,rfl⟩)) ?_
 rintro e rfl
 generalize hA:W.map (·.1)=A
 have al:A.length=W.length:=by rw[<- hA,qC]
 have aw:∀x∈A,Wd x:=λx hx=>by
  rw[<- hA]at hx
  obtain⟨y,hy,rfl⟩:=ql.mp hx
  exact(h.w y hy).n
 refine DrS.seq (c1:=0) (c2:=600) (N1:=λe=>e=cE W D (.pl (.list (W.map kdD))) (.ac (zas A)) .no .no .no .no .no .no .no .no) (DrS.set (Dr.pure (zty (.inr rfl) (by omega)) (by rw[hA];rfl))) ?_
 rintro e rfl
 refine DrS.seq (c1:=12) (c2:=588) (N1:=λe=>∃(W':List Kd)(v2 v4:Sl),W'.length<=10/\(∀x∈W',KdOk x)/\(v2=.pl (.list (W'.map kdD))\/v2=.ac (.list (W'.map kdD)))/\e=cE W D v2 v4 .no .no .no .no .no .no .no .no) ?_ ?_
 ·have tl:zir (T:=Pen3) (zfh (eOp ltD (eCB lenD (zag (eVar 2) aNil)) (eC (.int 6))))=zir (zfh (eOp ltD (eCB lenD (zag (eVar 2) aNil)) (eC (.int 6)))):=rfl
  refine DrS.iff (c1:=0) (c2:=12) (P1:=λb=>b=decide ((W.length:Int)<6)) (DrT.pure (zks (zgl (zaaq (enc:=kdD) rfl) rfl rfl)) rfl) (λhb=>DrS.set ?_) λ_=>DrS.mono (c1:=0) (DrS.nx ⟨W,_,_,wl,h.w,.inl rfl,rfl⟩) (by decide)
  have w5:(W.length:Int)<6:=of_decide_eq_true hb.symm
  refine Dr.op (c1:=0) (c2:=12) (P1:=λr=>r=⟨.list (W.map kdD),false,[]⟩) (P2:=λr=>∃y:Kd,KdOk y/\r=⟨.list [kdD y],true,[4]⟩) (Dr.pure rfl rfl) ?_ ?_
  ·refine Dr.lst (c:=12) (PA:=λrs=>∃y:Kd,KdOk y/\rs=[⟨kdD y,false,[4]⟩]) (DrA.one (Dr.tup2 (c1:=7) (c2:=5) (P2:=λr=>∃l:List Str,(∀x∈l,Wd x)/\l.length<=4/\r=⟨zas l,true,[4]⟩) (zvq (A:=A) (Dr.pure rfl rfl) aw) (Dr.call (c1:=1) (c2:=4) (PA:=λrs=>∃x:Int,rs=[⟨zas A,false,[4]⟩,vi x]/\0<=x/\x<5) (DrA.cons (c1:=0) (c2:=1) (P1:=λr=>r=⟨zas A,false,[4]⟩) (P2:=λrs=>∃x:Int,rs=[vi x]/\0<=x/\x<5) (Dr.pure rfl rfl) (DrA.one ((zbv (k:=5) (by decide) (by decide)).imp ?_)) ?_) ?_) ?_)) ?_
   ·rintro r ⟨x,rfl,hx⟩;exact⟨x,rfl,hx⟩
   ·rintro r rs rfl ⟨x,rfl,hx⟩;exact⟨x,rfl,hx⟩
   ·rintro rs ⟨x,rfl,x0,x1⟩
    refine⟨rfl,λn st hb=>?_⟩
    obtain⟨d,fr,st',e,⟨h2,l',h3,h4,h5⟩,b⟩:=zaag (enc:=PyData.str) A (m:=x) (C:=4) x0 (by omega) (by omega) (by omega) n st hb
    exact⟨d,fr,st',e,⟨l',λy hy=>aw y (h4 y hy),by omega,by rw[h2,h3];rfl⟩,b⟩
   ·rintro x y ⟨z,rfl,hz⟩ ⟨l,hl,hll,rfl⟩
    exact⟨(z,l),⟨hz,hl,hll⟩,rfl⟩
   ·rintro rs ⟨y,hy,rfl⟩
    exact⟨by show 1<=100000;decide,y,hy,rfl⟩
  ·rintro a b rfl ⟨y,hy,rfl⟩
   refine⟨.list (W.map kdD++[kdD y]),true,?_,W++[y],_,_,by simp;omega,λx hx=>?_,.inr rfl,by rw[qr];rfl⟩
   ·show(if _ then _ else _)=_
    rw[if_pos (by rw[qC];show W.length+1<=_;omega)]
   ·rcases qz.mp hx with hx|hx
    ·exact h.w x hx
    ·rw[qR.mp hx];exact hy
 rintro e ⟨W',v2,v4,wl',wo',h2,rfl⟩
 refine DrS.seq (c1:=0) (c2:=588) (N1:=λe=>e=cE W D v2 v4 (.ac (.list [])) .no .no .no .no .no .no .no) (DrS.set (Dr.pure rfl rfl)) ?_
 rintro e rfl
 refine DrS.seq (c1:=588) (c2:=0) (N1:=λe=>∃(ds:List Dd)(v6 v7 v8 v9 v10 v11 v12:Sl),ds.length=D.length/\(∀x∈ds,DdOk x)/\e=cE W D v2 v4 (.ac (.list (ds.map ddD))) v6 v7 v8 v9 v10 v11 v12) ?_ ?_
 ·refine DrS.mono (DrS.for (c:=132) (enc:=ddD) (l:=D) (bs:=[]) rfl (λpre e=>∃(ds:List Dd)(v6 v7 v8 v9 v10 v11 v12:Sl),ds.length=pre.length/\(∀x∈ds,DdOk x)/\e=cE W D v2 v4 (.ac (.list (ds.map ddD))) v6 v7 v8 v9 v10 v11 v12) ⟨[],_,_,_,_,_,_,_,rfl,(λx hx=>by cases hx),rfl⟩ ?_ λe h=>h) (by omega)
  rintro pre d post e hp ⟨ds,v6,v7,v8,v9,v10,v11,v12,hdl,hdo,rfl⟩
  have hm:d∈D:=by rw[<- hp];simp
  have hd:=h.d d hm
  have hk:pre.length<D.length:=by
   have:=congrArg List.length hp
   rw[qF,qs]at this
   omega
  refine⟨cE W D v2 v4 (.ac (.list (ds.map ddD))) (.pl (.str d.n)) (.pl (.int d.p)) (.pl (.list (d.rs.map rlD))) v9 v10 v11 v12,rfl,?_⟩
  refine DrS.seq (c1:=0) (c2:=132) (N1:=λe=>e=cE W D v2 v4 (.ac (.list (ds.map ddD))) (.pl (.str d.n)) (.pl (.int d.p)) (.pl (.list (d.rs.map rlD))) (.ac (.list [])) v10 v11 v12) (DrS.set (Dr.pure rfl rfl)) ?_
  rintro e rfl
  refine DrS.seq (c1:=132) (c2:=0) (N1:=λe=>∃(rs:List Rl)(v10 v11 v12:Sl),rs.length=d.rs.length/\(∀x∈rs,RlOk3 x)/\e=cE W D v2 v4 (.ac (.list (ds.map ddD))) (.pl (.str d.n)) (.pl (.int d.p)) (.pl (.list (d.rs.map rlD))) (.ac (.list (rs.map rlD))) v10 v11 v12) ?_ ?_
  ·have rl:=hd.rl
   refine DrS.mono (DrS.for (c:=11) (enc:=rlD) (l:=d.rs) (bs:=[]) rfl (λpre e=>∃(rs:List Rl)(v10 v11 v12:Sl),rs.length=pre.length/\(∀x∈rs,RlOk3 x)/\e=cE W D v2 v4 (.ac (.list (ds.map ddD))) (.pl (.str d.n)) (.pl (.int d.p)) (.pl (.list (d.rs.map rlD))) (.ac (.list (rs.map rlD))) v10 v11 v12) ⟨[],_,_,_,rfl,(λx hx=>by cases hx),rfl⟩ ?_ λe h=>h) (by omega)
   rintro pre r post e hp2 ⟨rs,v10,v11,v12,hrl,hro,rfl⟩
   have hm2:r∈d.rs:=by rw[<- hp2];simp
   have hr:=hd.rs r hm2
   have hk2:pre.length<d.rs.length:=by
    have:=congrArg List.length hp2
    rw[qF,qs]at this
    omega
   refine⟨cE W D v2 v4 (.ac (.list (ds.map ddD))) (.pl (.str d.n)) (.pl (.int d.p)) (.pl (.list (d.rs.map rlD))) (.ac (.list (rs.map rlD))) (.pl (.str r.n)) (.pl (.tuple (r.ks.map .str))) (.pl (.list (r.ss.map stpD))),rfl,?_⟩
   refine DrS.seq (c1:=11) (c2:=0) (N1:=λe=>∃(ss:List Stp)(v12:Sl),ss.length<=6/\(∀x∈ss,zkh x)/\(v12=.pl (.list (ss.map stpD))\/v12=.ac (.list (ss.map stpD)))/\e=cE W D v2 v4 (.ac (.list (ds.map ddD))) (.pl (.str d.n)) (.pl (.int d.p)) (.pl (.list (d.rs.map rlD))) (.ac (.list (rs.map rlD))) (.pl (.str r.n)) (.pl (.tuple (r.ks.map .str))) v12) ?_ ?_
   ·refine DrS.iff (c1:=1) (c2:=10) (P1:=λ_=>True) (DrT.b (Dr.op (c1:=1) (c2:=0) (P2:=λr=>r=vi 0) (zbv (k:=2) (by decide) (by decide)) (Dr.pure rfl rfl) ?_)) (λ_=>DrS.set ?_) λ_=>DrS.mono (c1:=0) (DrS.nx ⟨r.ss,_,hr.sl,hr.ss,.inl rfl,rfl⟩) (by decide)
    ·rintro a b ⟨x,rfl,_⟩ rfl
     exact⟨.bool (x==0),false,eqI,_,rfl,trivial⟩
    ·obtain⟨B,eB,sB,lB⟩:=zvl stpD r.ss (some 1) none
     have lB2:B.length<=5:=by
      have e0:=congrArg List.length eB
      rw[qC]at e0
      have:(cutD (r.ss.map stpD) (some 1) none).length<=r.ss.length - 1:=by
       unfold cutD
       rw[qAr,qBA,qC]
       have:HT.sIx r.ss.length 0 (some ((1:Nat):Int))=min 1 r.ss.length:=HT.sIx_nat ..
       have e1:HT.sIx r.ss.length 0 (some (1:Int))=min 1 r.ss.length:=this
       rw[e1]
       omega
      have:=hr.sl
      omega
     refine Dr.op (c1:=10) (c2:=0) (P1:=λx=>∃i:Int,Fig i/\x=⟨.list [stpD (.say i)],true,[]⟩) (P2:=λx=>x=⟨.list (B.map stpD),true,[]⟩) ?_ (Dr.pure (zagd (lo:=some 1) (hi:=none) (d:=.list (B.map stpD)) (fr:=true) rfl rfl rfl (by unfold slD;dsimp only;rw[eB])) rfl) ?_
     ·refine Dr.lst (c:=10) (PA:=λrs=>∃i:Int,Fig i/\rs=[⟨stpD (.say i),false,[]⟩]) (DrA.one (Dr.tup2 (c1:=0) (c2:=10) (P1:=λr=>r=vs "say") (Dr.pure rfl rfl) zpf ?_)) ?_
      ·rintro x y rfl ⟨i,rfl,hi⟩
       exact⟨i,hi,rfl⟩
      ·rintro rs ⟨i,hi,rfl⟩
       exact⟨by show 1<=100000;decide,i,hi,rfl⟩
     ·rintro a b ⟨i,hi,rfl⟩ rfl
      refine⟨.list ([stpD (.say i)]++B.map stpD),true,?_,.say i::B,_,by simp;omega,λx hx=>?_,.inr rfl,rfl⟩
      ·show(if _ then _ else _)=_
       rw[if_pos (by rw[qC];show 1+B.length<=_;omega)]
      ·rcases qW.mp hx with rfl|hx
       ·exact hi
       ·exact hr.ss x (sB x hx)
   rintro e ⟨ss,v12,hsl,hso,h12,rfl⟩
   have last:∃(rs':List Rl)(w10 w11 w12:Sl),rs'.length=(pre++[r]).length/\(∀x∈rs',RlOk3 x)/\cE W D v2 v4 (.ac (.list (ds.map ddD))) (.pl (.str d.n)) (.pl (.int d.p)) (.pl (.list (d.rs.map rlD))) (.ac (.list (rs.map rlD++[rlD ⟨r.n,r.ks,ss⟩]))) (.pl (.str r.n)) (.pl (.tuple (r.ks.map .str))) (.pl (.list (ss.map stpD)))=cE W D v2 v4 (.ac (.list (ds.map ddD))) (.pl (.str d.n)) (.pl (.int d.p)) (.pl (.list (d.rs.map rlD))) (.ac (.list (rs'.map rlD))) w10 w11 w12:=by
    refine⟨rs++[⟨r.n,r.ks,ss⟩],.pl (.str r.n),.pl (.tuple (r.ks.map .str)),.pl (.list (ss.map stpD)),by simp[hrl],λx hx=>?_,by rw[qr];rfl⟩
    rcases qz.mp hx with hx|hx
    ·exact hro x hx
    ·rw[qR.mp hx];exact⟨hr.n,hr.ks,hr.kl,hso,hsl⟩
   rcases h12 with rfl|rfl
   ·exact DrS.app (ds:=rs.map rlD) rfl (by rw[qC];have:=hd.rl;omega) (Dr.pure (r:=⟨rlD ⟨r.n,r.ks,ss⟩,false,[]⟩) rfl ⟨by simp,last⟩)
   ·exact DrS.app (ds:=rs.map rlD) rfl (by rw[qC];have:=hd.rl;omega) (Dr.pure (r:=⟨rlD ⟨r.n,r.ks,ss⟩,false,[12]⟩) rfl ⟨by simp,last⟩)
  rintro e ⟨rs,v10,v11,v12,hrl,hro,rfl⟩
  refine DrS.app (ds:=ds.map ddD) rfl (by rw[qC];omega) (Dr.pure (r:=⟨ddD ⟨d.n,d.p,rs⟩,false,[9]⟩) rfl ⟨by simp,ds++[⟨d.n,d.p,rs⟩],.pl (.str d.n),.pl (.int d.p),.pl (.list (d.rs.map rlD)),.pl (.list (rs.map rlD)),v10,v11,v12,by simp[hdl],λx hx=>?_,by rw[qr];rfl⟩)
  rcases qz.mp hx with hx|hx
  ·exact hdo x hx
  ·rw[qR.mp hx];exact⟨hd.n,hd.p0,hd.p1,hro,by show rs.length<=12;have:=hd.rl;omega⟩
 rintro e ⟨ds,v6,v7,v8,v9,v10,v11,v12,hdl,hdo,rfl⟩
 rcases h2 with rfl|rfl
 ·exact DrS.ret (Dr.pure (r:=⟨pgD W' ds,false,[5]⟩) rfl ⟨rfl,W',ds,rfl,wo',wl',hdo,by omega⟩)
 ·exact DrS.ret (Dr.pure (r:=⟨pgD W' ds,false,[2,5]⟩) rfl ⟨rfl,W',ds,rfl,wo',wl',hdo,by omega⟩)
noncomputable abbrev lE(W:List Kd)(ds:List Dd)(L:List Str)(v3 v4 v5 v6 v7 v8 v9 v10 v11:Sl):DEnv:=[.pl (.list (W.map kdD)),.pl (.list (ds.map ddD)),.ac (zas L),v3,v4,v5,v6,v7,v8,v9,v10,v11]
theorem zrv(L:List Str)(x:Str):zas (L++[x])=.list (L.map .str++[.str x]):=by unfold zas;rw[qr];rfl
theorem zake{p:Int}(h0:1<=p)(h1:p<=3):ixD (.str "123") (.int (p - 1))=some (.str (dig p),false):=by
 rcases(show p=1\/p=2\/p=3 by omega)with rfl|rfl|rfl<;>kernel_rfl
theorem sps{env:DEnv}{own:Str}{f:EF}{d:PyData}{fr:Bool}{bs:List Nat}{xs:List Str}(hd:zkl d=some (xs.map .str))(hf:f env=some ⟨d,fr,bs⟩)(h:∀x∈xs,Wd x)(hl:xs.length<=100):zdg "" (zep [own] [] (zbg f) (gN 0) zci (eOp addD (eC (.str " ")) (eVar 0))) env=some (vs (zcx "" (xs.map λx=>" "++x))):=by
 have c:=zfa (own:=own) (f:=f) (enc:=PyData.str) (l:=xs) (out:=λx=>" "++x) (e:=eOp addD (eC (.str " ")) (eVar 0)) (env:=env) hd hf (by omega) (λx hx=>zdh rfl rfl (by have:=(h x hx).hi;rw[zce];omega))
 exact zfw (sep:="") (B:=9) c (λx hx=>by
  obtain⟨y,hy,rfl⟩:=ql.mp hx
  have:=(h y hy).hi
  rw[zap,zce,zrr];omega) (by rw[qC];omega)
theorem zakf{z:Str}{env:DEnv}{f:EF}{ds:List PyData}{fr:Bool}{bs:List Nat}{n k:Nat}(hz:z.length<=3)(hf:f env=some ⟨.list ds,fr,bs⟩)(hs:Shn (.list ds) n k)(hk:k<=64):eOp mulD (eC (.str z)) (eCB zlz (zag (eOp neD f (eLst aNil)) aNil)) env=some (vs (Txt.mul z (if(!ds.isEmpty)=true then 1 else 0))):=by
 refine zaiy rfl (zla (rs:=[vb (!ds.isEmpty)]) (zgf (zgl (y:=⟨.list [],true,[]⟩) hf rfl (zagj hs hk))) rfl) ⟨by omega,?_,?_⟩<;>split<;>decide
theorem zags{W:List Kd}{ds:List Dd}(h:PgOk W ds):zhh [.list (W.map kdD),.list (ds.map ddD)]=some (zas (zhi W ds),true):=by
 have wl:=h.wl
 have dl:=h.dl
 refine zis (env:=[.pl (.list (W.map kdD)),.pl (.list (ds.map ddD)),.no,.no,.no,.no,.no,.no,.no,.no,.no,.no]) rfl (zck (e1:=lE W ds [] .no .no .no .no .no .no .no .no .no) rfl ?_)
 obtain⟨e2,r1,v3,v4,rfl⟩:=zkr (enc:=kdD) (g:=gT 2 (zax 3 (zax 4 zeg))) (body:=sApp 2 (eOp addD (eOp addD (eOp addD (eC (.str "kind ")) (eVar 3)) (eOp mulD (eC (.str " <")) (eCB zlz (zag (eOp neD (eVar 4) (eLst aNil)) aNil)))) (zdg "" (zep ["_law_elder"] [] (zbg (eVar 4)) (gN 0) zci (eOp addD (eC (.str " ")) (eVar 0)))))) (l:=W) (env:=lE W ds [] .no .no .no .no .no .no .no .no .no)
  (λpre e=>∃v3 v4,e=lE W ds (pre.map zdk) v3 v4 .no .no .no .no .no .no .no) ⟨_,_,rfl⟩ (by
   rintro pre r post e hp ⟨v3,v4,rfl⟩
   have hm:r∈W:=by rw[<- hp];simp
   have hr:=h.w r hm
   have pl:pre.length<W.length:=by rw[<- hp];simp
   have r8:=hr.n.hi
   have g:=zwp hr.e hr.l
   have ml:=(zwq (b:=!r.2.isEmpty)).1
   refine⟨lE W ds (pre.map zdk) (.pl (.str r.1)) (.pl (zas r.2)) .no .no .no .no .no .no .no,lE W ds ((pre++[r]).map zdk) (.pl (.str r.1)) (.pl (zas r.2)) .no .no .no .no .no .no .no,rfl,.inl ?_,_,_,rfl⟩
   have tg:=zakf (z:=" <") (f:=eVar 4) (env:=lE W ds (pre.map zdk) (.pl (.str r.1)) (.pl (zas r.2)) .no .no .no .no .no .no .no) (ds:=r.2.map .str) (fr:=false) (bs:=[]) (by decide +kernel) rfl (zwo hr.e hr.l) (by decide)
   rw[show(r.2.map PyData.str).isEmpty=r.2.isEmpty by cases r.2<;>rfl]at tg
   have e:=zdh (zdh (zdh (a:=eC (.str "kind ")) (b:=eVar 3) (env:=lE W ds (pre.map zdk) (.pl (.str r.1)) (.pl (zas r.2)) .no .no .no .no .no .no .no) (x:="kind ") (y:=r.1) rfl rfl (by rw[k5];omega)) tg (by rw[zap,k5];omega)) (sps (own:="_law_elder") (f:=eVar 4) (d:=zas r.2) (fr:=false) (bs:=[]) rfl rfl hr.e (by have:=hr.l;omega)) (by rw[zap,zap,k5];omega)
   rw[zaaa (ds:=(pre.map zdk).map .str) rfl e (by rw[qC,qC];omega),qr]
   show _=some (Out.nx [_,_,.ac (zas (pre.map zdk++[zdk r])),_,_,_,_,_,_,_,_,_])
   rw[zrv];rfl)
 refine zck (zwe (ds:=W.map kdD) (bs:=[]) rfl r1) ?_
 obtain⟨e3,r2,v3,v5,v6,rfl⟩:=zkr (enc:=ddD) (g:=gT 3 (zax 3 (zax 5 (zax 6 zeg)))) (body:=sApp 2 (eOp addD (eOp addD (eOp addD (eC (.str "deed ")) (eVar 3)) (eC (.str " "))) (eOp ixD (eC (.str "123")) (eOp subD (eVar 5) (eC (.int 1)))))) (l:=ds) (env:=lE W ds (W.map zdk) v3 v4 .no .no .no .no .no .no .no)
  (λpre e=>∃v3 v5 v6,e=lE W ds (W.map zdk++pre.map zfc) v3 v4 v5 v6 .no .no .no .no .no) ⟨_,_,_,by rw[qBY,q9]⟩ (by
   rintro pre d post e hp ⟨v3,v5,v6,rfl⟩
   have hm:d∈ds:=by rw[<- hp];simp
   have hd:=h.d d hm
   have pl:pre.length<ds.length:=by rw[<- hp];simp
   have d8:=hd.n.hi
   have f32:(dig d.p).length<=32:=zez (fig3 hd.p0 hd.p1)
   refine⟨lE W ds (W.map zdk++pre.map zfc) (.pl (.str d.n)) v4 (.pl (.int d.p)) (.pl (.list (d.rs.map rlD))) .no .no .no .no .no,lE W ds (W.map zdk++(pre++[d]).map zfc) (.pl (.str d.n)) v4 (.pl (.int d.p)) (.pl (.list (d.rs.map rlD))) .no .no .no .no .no,rfl,.inl ?_,_,_,_,rfl⟩
   have ex:eOp ixD (eC (.str "123")) (eOp subD (eVar 5) (eC (.int 1))) (lE W ds (W.map zdk++pre.map zfc) (.pl (.str d.n)) v4 (.pl (.int d.p)) (.pl (.list (d.rs.map rlD))) .no .no .no .no .no)=some (vs (dig d.p)):=zgl rfl (zala rfl rfl) (zake hd.p0 hd.p1)
   have e:=zdh (zdh (zdh (a:=eC (.str "deed ")) (b:=eVar 3) (env:=lE W ds (W.map zdk++pre.map zfc) (.pl (.str d.n)) v4 (.pl (.int d.p)) (.pl (.list (d.rs.map rlD))) .no .no .no .no .no) (x:="deed ") (y:=d.n) rfl rfl (by rw[d5];omega)) (b:=eC (.str " ")) (y:=" ") rfl (by rw[zap,d5,zce];omega)) ex (by rw[zap,zap,d5,zce];omega)
   rw[zaaa (ds:=(W.map zdk++pre.map zfc).map .str) rfl e (by rw[qC,qF,qC,qC];omega),show W.map zdk++(pre++[d]).map zfc=(W.map zdk++pre.map zfc)++[zfc d] by rw[qr,<- qAD];rfl]
   show _=some (Out.nx [_,_,.ac (zas (W.map zdk++pre.map zfc++[zfc d])),_,_,_,_,_,_,_,_,_])
   rw[zrv];rfl)
 refine zck (zwe (ds:=ds.map ddD) (bs:=[]) rfl r2) ?_
 obtain⟨e4,r3,v3,v5,v6,v7,v8,v9,v10,v11,rfl⟩:=zkr (enc:=ddD) (g:=gT 3 (zax 3 (zax 5 (zax 6 zeg)))) (body:=sFor (zbg (eVar 6)) (gT 3 (zax 7 (zax 8 (zax 9 zeg))))
  (sSeq (sSet 10 (eOp addD (eOp addD (eOp addD (eOp addD (eC (.str "rule ")) (eVar 3)) (eC (.str " "))) (eVar 7)) (zdg "" (zep ["_law_kind"] [] (zbg (eVar 8)) (gN 0) zci (eOp addD (eC (.str " ")) (eVar 0))))))
  (sSeq (sSet 11 (zep ["_law_step_here"] [] (zbg (eVar 9)) (gN 0) zci (zef 1 zcd (zag (eVar 0) aNil))))
  (sApp 2 (eOp addD (eOp addD (eVar 10) (eOp mulD (eC (.str " = ")) (eCB zlz (zag (eOp neD (eVar 9) (eLst aNil)) aNil)))) (zdg ", " (eVar 11))))))) (l:=ds) (env:=lE W ds (W.map zdk++ds.map zfc) v3 v4 v5 v6 .no .no .no .no .no)
  (λpre e=>∃v3 v5 v6 v7 v8 v9 v10 v11,e=lE W ds (W.map zdk++ds.map zfc++pre.flatMap λd=>d.rs.map (zfx d.n)) v3 v4 v5 v6 v7 v8 v9 v10 v11) ⟨v3,v5,v6,.no,.no,.no,.no,.no,by rw[List.flatMap_nil,q9]⟩ (by
   rintro pre d post e hp ⟨v3,v5,v6,v7,v8,v9,v10,v11,rfl⟩
   have hm:d∈ds:=by rw[<- hp];simp
   have hd:=h.d d hm
   have pl:pre.length<ds.length:=by rw[<- hp];simp
   have d8:=hd.n.hi
   have rl:=hd.rl
   have fl:(pre.flatMap λd=>d.rs.map (zfx d.n)).length<=48:=by
    have h3:=zru (ds:=pre) (f:=λd=>d.rs.map (zfx d.n)) (B:=12) λd hd=>by rw[qC];exact(h.d d (by rw[<- hp];exact qAK _ hd)).rl
    omega
   generalize hL:W.map zdk++ds.map zfc++(pre.flatMap λd=>d.rs.map (zfx d.n))=L
   have Ll:L.length<=100:=by rw[<- hL,qF,qF,qC,qC];omega
   obtain⟨e5,r4,w7,w8,w9,w10,w11,rfl⟩:=zkr (enc:=rlD) (g:=gT 3 (zax 7 (zax 8 (zax 9 zeg)))) (body:=sSeq (sSet 10 (eOp addD (eOp addD (eOp addD (eOp addD (eC (.str "rule ")) (eVar 3)) (eC (.str " "))) (eVar 7)) (zdg "" (zep ["_law_kind"] [] (zbg (eVar 8)) (gN 0) zci (eOp addD (eC (.str " ")) (eVar 0))))))
    (sSeq (sSet 11 (zep ["_law_step_here"] [] (zbg (eVar 9)) (gN 0) zci (zef 1 zcd (zag (eVar 0) aNil))))
    (sApp 2 (eOp addD (eOp addD (eVar 10) (eOp mulD (eC (.str " = ")) (eCB zlz (zag (eOp neD (eVar 9) (eLst aNil)) aNil)))) (zdg ", " (eVar 11)))))) (l:=d.rs) (env:=lE W ds L (.pl (.str d.n)) v4 (.pl (.int d.p)) (.pl (.list (d.rs.map rlD))) v7 v8 v9 v10 v11)
    (λpre e=>∃v7 v8 v9 v10 v11,e=lE W ds (L++pre.map (zfx d.n)) (.pl (.str d.n)) v4 (.pl (.int d.p)) (.pl (.list (d.rs.map rlD))) v7 v8 v9 v10 v11) ⟨_,_,_,_,_,by rw[qBY,q9]⟩ (by
     rintro pre r post e hp2 ⟨v7,v8,v9,v10,v11,rfl⟩
     have hm2:r∈d.rs:=by rw[<- hp2];simp
     have hr:=hd.rs r hm2
     have pl2:pre.length<d.rs.length:=by rw[<- hp2];simp
     have r8:=hr.n.hi
     have g:=zwp hr.ks hr.kl
     have hd50:=zrs hd.n hr
     have sle:=zrt hr.ss hr.sl
     have ml:=(zwq (b:=!r.ss.isEmpty)).2
     generalize hM:L++pre.map (zfx d.n)=M
     have Ml:M.length<=200:=by rw[<- hM,qF,qC];omega
     refine⟨lE W ds M (.pl (.str d.n)) v4 (.pl (.int d.p)) (.pl (.list (d.rs.map rlD))) (.pl (.str r.n)) (.pl (.tuple (r.ks.map .str))) (.pl (.list (r.ss.map stpD))) v10 v11,lE W ds (L++(pre++[r]).map (zfx d.n)) (.pl (.str d.n)) v4 (.pl (.int d.p)) (.pl (.list (d.rs.map rlD))) (.pl (.str r.n)) (.pl (.tuple (r.ks.map .str))) (.pl (.list (r.ss.map stpD))) (.pl (.str (zim d.n r))) (.ac (.list ((r.ss.map zjn).map .str))),rfl,.inl ?_,_,_,_,_,_,rfl⟩
     have eh:=zdh (zdh (zdh (zdh (a:=eC (.str "rule ")) (b:=eVar 3) (env:=lE W ds M (.pl (.str d.n)) v4 (.pl (.int d.p)) (.pl (.list (d.rs.map rlD))) (.pl (.str r.n)) (.pl (.tuple (r.ks.map .str))) (.pl (.list (r.ss.map stpD))) v10 v11) (x:="rule ") (y:=d.n) rfl rfl (by rw[r5];omega)) (b:=eC (.str " ")) (y:=" ") rfl (by rw[zap,r5,zce];omega)) (b:=eVar 7) (y:=r.n) rfl (by rw[zap,zap,r5,zce];omega)) (sps (own:="_law_kind") (f:=eVar 8) (d:=.tuple (r.ks.map .str)) (fr:=false) (bs:=[]) rfl rfl hr.ks (by have:=hr.kl;omega)) (by rw[zap,zap,zap,r5,zce];omega)
     refine zck (e1:=lE W ds M (.pl (.str d.n)) v4 (.pl (.int d.p)) (.pl (.list (d.rs.map rlD))) (.pl (.str r.n)) (.pl (.tuple (r.ks.map .str))) (.pl (.list (r.ss.map stpD))) (.pl (.str (zim d.n r))) v11) (znq eh) ?_
     have c:=zfa (own:="_law_step_here") (f:=eVar 9) (enc:=stpD) (l:=r.ss) (out:=zjn) (e:=zef 1 zcd (zag (eVar 0) aNil)) (env:=lE W ds M (.pl (.str d.n)) v4 (.pl (.int d.p)) (.pl (.list (d.rs.map rlD))) (.pl (.str r.n)) (.pl (.tuple (r.ks.map .str))) (.pl (.list (r.ss.map stpD))) (.pl (.str (zim d.n r))) v11) (d:=.list (r.ss.map stpD)) (fr:=false) (bs:=[]) rfl rfl (by have:=hr.sl;omega) (λp hp=>zhe (rs:=[⟨stpD p,false,[]⟩]) (zgf rfl) rfl (zago (hr.ss p hp)))
     refine zck (e1:=lE W ds M (.pl (.str d.n)) v4 (.pl (.int d.p)) (.pl (.list (d.rs.map rlD))) (.pl (.str r.n)) (.pl (.tuple (r.ks.map .str))) (.pl (.list (r.ss.map stpD))) (.pl (.str (zim d.n r))) (.ac (.list ((r.ss.map zjn).map .str)))) (znq c) ?_
     have tg:=zakf (z:=" = ") (f:=eVar 9) (env:=lE W ds M (.pl (.str d.n)) v4 (.pl (.int d.p)) (.pl (.list (d.rs.map rlD))) (.pl (.str r.n)) (.pl (.tuple (r.ks.map .str))) (.pl (.list (r.ss.map stpD))) (.pl (.str (zim d.n r))) (.ac (.list ((r.ss.map zjn).map .str)))) (ds:=r.ss.map stpD) (fr:=false) (bs:=[]) (by decide +kernel) rfl (ztw hr.ss hr.sl) (by decide)
     rw[show(r.ss.map stpD).isEmpty=r.ss.isEmpty by cases r.ss<;>rfl]at tg
     have j:=zfw (sep:=", ") (a:=eVar 11) (env:=lE W ds M (.pl (.str d.n)) v4 (.pl (.int d.p)) (.pl (.list (d.rs.map rlD))) (.pl (.str r.n)) (.pl (.tuple (r.ks.map .str))) (.pl (.list (r.ss.map stpD))) (.pl (.str (zim d.n r))) (.ac (.list ((r.ss.map zjn).map .str)))) (xs:=r.ss.map zjn) (fr:=false) (bs:=[11]) (B:=152) rfl (λx hx=>by
      obtain⟨y,hy,rfl⟩:=ql.mp hx
      have:=zrq (hr.ss y hy)
      rw[cm2];omega) (by rw[qC];have:=hr.sl;omega)
     have e:=zdh (zdh (a:=eVar 10) (x:=zim d.n r) rfl tg (by omega)) j (by rw[zap];omega)
     rw[zaaa (ds:=M.map .str) rfl e (by rw[qC];omega),show L++(pre++[r]).map (zfx d.n)=M++[zfx d.n r] by rw[qr,<- qAD,hM];rfl]
     show _=some (Out.nx [_,_,.ac (zas (M++[zfx d.n r])),_,_,_,_,_,_,_,_,_])
     rw[zrv];rfl)
   refine⟨lE W ds L (.pl (.str d.n)) v4 (.pl (.int d.p)) (.pl (.list (d.rs.map rlD))) v7 v8 v9 v10 v11,_,rfl,.inl (zwe (ds:=d.rs.map rlD) (bs:=[]) rfl r4),.pl (.str d.n),.pl (.int d.p),.pl (.list (d.rs.map rlD)),w7,w8,w9,w10,w11,?_⟩
   rw[List.flatMap_append,List.flatMap_cons,List.flatMap_nil,q9,<- qAD,hL])
 refine zck (zwe (ds:=ds.map ddD) (bs:=[]) rfl r3) ?_
 unfold zhi
 rfl
theorem zaat(x:Str):eqD (.str x) (.str x)=some (.bool true,false):=by rw[eqS,decide_eq_true rfl]
theorem zaau{a b:EF}{env:DEnv}{r:Val}(ha:a env=some (vb true))(hb:b env=some r):eAnd a b env=some r:=by unfold eAnd;rw[ha];exact hb
theorem zadt{c1 c2:Nat}{env:DEnv}{P:Val->Prop}{a b:EFr Pen3}(h1:Dr c1 a env λr=>r.d=.bool true)(h2:Dr c2 b env P):Dr (c1+c2) (zxj a b) env P:=λn st hb=>by
 obtain⟨x,s1,e1,p1,b1⟩:=h1 (n+c2) st (hb.mono (by omega))
 obtain⟨y,s2,e2,p2,b2⟩:=h2 n s1 b1
 refine⟨y,s2,?_,p2,b2⟩
 unfold zxj
 rw[e1]
 show((asB x.d).bind _)=_
 rw[p1]
 exact e2
theorem zpg{W:List Kd}{ds:List Dd}(h:PgOk W ds):zbx [pgD W ds]=some (.bool true,false):=by
 obtain⟨rp,erp⟩:=zagi h
 have sh:=zagp h
 refine zis (env:=[.pl (pgD W ds),.no,.no,.no]) rfl (zck (e1:=[.pl (pgD W ds),.pl (.str rp),.no,.no]) (znq (zla (rs:=[⟨pgD W ds,false,[]⟩]) (zgf rfl) erp)) ?_)
 have c:=zfa (own:="_law_line") (f:=zef 2 zhh (zag (eIxV 0 (eC (.int 0))) (zag (eIxV 0 (eC (.int 1))) aNil))) (enc:=PyData.str) (l:=zhi W ds) (out:=λx=>x++"\n") (e:=eOp addD (eVar 0) (eC (.str "\n"))) (env:=[.pl (pgD W ds),.pl (.str rp),.no,.no]) (d:=zas (zhi W ds)) (fr:=true) (bs:=[]) rfl (zhe (rs:=[⟨.list (W.map kdD),false,[]⟩,⟨.list (ds.map ddD),false,[]⟩]) rfl rfl (zags h)) (by have:=zpe h;omega) (λx hx=>zdh rfl rfl (by have:=zmo h x hx;rw[nl1];omega))
 have j:=zfw (sep:="") (B:=1001) c (λx hx=>by
  obtain⟨y,hy,rfl⟩:=ql.mp hx
  have:=zmo h y hy
  rw[zap,nl1,zrr];omega) (by rw[qC];have:=zpe h;omega)
 refine zck (e1:=[.pl (pgD W ds),.pl (.str rp),.pl (.str (zpq W ds)),.no]) (znq j) ?_
 refine zck (e1:=[.pl (pgD W ds),.pl (.str rp),.pl (.str (zpq W ds)),.pl (.str (zpq W ds))]) (znq (r:=vs (zpq W ds)) ?_) ?_
 ·unfold zvx
  rw[zgf (r:=⟨pgD W ds,false,[]⟩) rfl,qQ,if_pos ⟨rfl,rfl,rfl⟩]
  show((zii [pgD W ds]).bind _)=_
  rw[sh];rfl
 ·have es:zef 1 zii (zag (eVar 0) aNil) [.pl (pgD W ds),.pl (.str rp),.pl (.str (zpq W ds)),.pl (.str (zpq W ds))]=some (vs (zpq W ds)):=zhe (rs:=[⟨pgD W ds,false,[]⟩]) (zgf rfl) rfl sh
  have er:eCB zuy (zag (eVar 0) aNil) [.pl (pgD W ds),.pl (.str rp),.pl (.str (zpq W ds)),.pl (.str (zpq W ds))]=some (vs rp):=zla (rs:=[⟨pgD W ds,false,[]⟩]) (zgf rfl) erp
  exact zge (bs:=[]) (zaau rfl (zaau (zgl rfl rfl (zaat _)) (zaau (zgl es rfl (zaat _)) (zgl er rfl (zaat _)))))
noncomputable def zph:SFr Pen3:=(rSeq (rSet 2 (zbd 1 zij rNil))
  (rSeq (rIf (zir (zxb (tTru (zef 1 zbx (zag (eVar 2) aNil))))) (rRet (zak (eC (.bool false)))) rNx)
  (rRet (zxj (zzk 1 zbx (zaz (zbd 2 zgq (zaz (zak (eVar 2)) rNil)) rNil)) (zxj (zak (zef 1 zbx (zag (eTup (zag (eIxV 2 (eC (.int 0))) (zag (eLst aNil) aNil))) aNil))) (zak (zef 1 zbx (zag (eVar 2) aNil))))))))
theorem zacz(ns:List Int):∃st,zph (List.replicate 3 .no) ⟨ns,0,0⟩=some (.rt (.bool true) false st):=by
 have key:DrS 31600 zph [.no,.no,.no] (λ_=>False) (λd fr=>d=.bool true/\fr=false):=by
  refine DrS.seq (c1:=31000) (c2:=600) (N1:=λe=>∃W ds,PgOk W ds/\e=[.no,.no,.pl (pgD W ds)]) (DrS.set (Dr.call (c1:=0) (c2:=31000) (PA:=λrs=>rs=[]) (DrA.nil rfl) ?_)) ?_
  ·rintro rs rfl
   refine⟨rfl,λn st hb=>?_⟩
   obtain⟨d,fr,s,e,⟨h1,W,ds,h2,h3⟩,b⟩:=zagr n st hb
   exact⟨d,fr,s,e,⟨W,ds,h3,by rw[h1,h2];rfl⟩,b⟩
  rintro e ⟨W,ds,h,rfl⟩
  have rt:∀e:DEnv,e[2]?=some (.pl (pgD W ds))->zef 1 zbx (zag (eVar 2) aNil) e=some (vb true):=λe he=>zhe (rs:=[⟨pgD W ds,false,[]⟩]) (zgf (by unfold eVar;rw[he])) rfl (zpg h)
  refine DrS.seq (c1:=0) (c2:=600) (N1:=λe=>e=[.no,.no,.pl (pgD W ds)]) (DrS.iff (c1:=0) (c2:=0) (P1:=λb=>b=false) (DrT.pure (b:=false) ?_ rfl) (λz=>by cases z) λ_=>DrS.nx rfl) ?_
  ·unfold zxb tTru
   rw[rt _ rfl];rfl
  rintro e rfl
  refine DrS.ret (zadt (c1:=600) (c2:=0) (Dr.callD (c:=600) (PA:=λrs=>∃W ds,PgOk W ds/\∃fr bs,rs=[⟨pgD W ds,fr,bs⟩]) (DrA.one (Dr.call (c1:=0) (c2:=600) (PA:=λrs=>rs=[⟨pgD W ds,false,[]⟩]) (DrA.one (Dr.pure rfl rfl)) ?_)) ?_) (zadt (c1:=0) (c2:=0) (Dr.pure (r:=vb true) ?_ rfl) (Dr.pure (r:=vb true) (rt _ rfl) ⟨rfl,rfl⟩)))
  ·rintro rs rfl
   refine⟨rfl,λn st hb=>?_⟩
   obtain⟨d,fr,s,e,⟨h1,W',ds',h2,h3⟩,b⟩:=zaas h n st hb
   exact⟨d,fr,s,e,⟨W',ds',h3,fr,_,by rw[h2]⟩,b⟩
  ·rintro rs ⟨W',ds',h',fr,bs,rfl⟩
   exact⟨rfl,.bool true,false,zpg h',rfl⟩
  ·have h0:PgOk W []:=⟨h.w,h.wl,λx hx=>(by cases hx),by decide⟩
   exact zhe (rs:=[⟨pgD W [],false,[]⟩]) (zgf rfl) rfl (zpg h0)
 rcases key 0 ⟨ns,0,0⟩ ⟨by show(0:Int)<=0;decide,by show(0:Int)+((0+31600:Nat):Int)<=1000000;decide⟩with⟨_,_,_,z,_⟩|⟨d,fr,s,e,⟨rfl,rfl⟩,_⟩
 ·exact z.elim
 ·exact⟨s,e⟩
section
variable{P:Program}{w:World}{K:qD}{mg:Str->Option Value}{base:Heap}
noncomputable def zada(K:qD):Sp:=λvs H Q _=>∃(a:Addr)(ns:List Int),vs=[.ref a]/\SqL K H a (ns.map V.int)/\∀H',Q (.bl true) H'
theorem zakg{f:Addr}{fd:qw}(F:Fun K "law" "law" zrn f fd)(T:Txt mg)(D_law_changed:zkz P w K mg base)(D_law_pen:ztk P w K mg base)(D_law_right:zox P w K mg base)(D_law_sized:zow P w K mg base):FnOk P w K mg base CX0 7 f fd ["_law_script"] (zada K):=by
 refine F.ok zajb (λvs H Q E h=>?_) (λcdv A outer s H vs Q E hr h=>?_)
 ·obtain⟨a,ns,rfl,_⟩:=h
  rfl
 ·obtain⟨a,ns,rfl,hS,k⟩:=h
  have hu:=zhk hr
  obtain⟨st1,ef⟩:=zacz ns
  apply Exists.intro
  apply And.intro
  ·refine' Bx.out (zad (zur (i:=1) zaad rfl (Or.inl rfl) (zlp D_law_pen (hr.mono (by decide)) (by rfl) (zdp (bv 0) zab (by rfl)) (by decide) (zaq (by rfl)) (by rfl)) (by rfl) (.inl rfl))
 (zad (zur (i:=2) zaad rfl (Or.inl rfl) (zlp D_law_sized (hr.mono (by decide)) (by rfl) (zdp (bv 1) zab (by rfl)) (by decide) (zaq (by rfl)) (by rfl)) (by rfl) (.inl rfl))
 (zad (zec (zus (zlh (K:=K) rfl (zlp D_law_right (hr.mono (by decide)) (by rfl) (zdp (bv 2) zab (by rfl)) (by decide) (zaq (by rfl)) (by rfl)) (λ_=>rfl))) (zam (zbf zaiq)) zbt)
 (zam (zbf (zng (zlp D_law_right (hr.mono (by decide)) (by rfl) (zdp (zlp D_law_changed (hr.mono (by decide)) (by rfl) (zdp (bv 1) (zdp (bv 2) zab (by rfl)) (by rfl)) (by decide) (zaq (by rfl)) (by rfl)) zab (by rfl)) (by decide) (zaq (by rfl)) (by rfl)) (zng (zlp D_law_right (hr.mono (by decide)) (by rfl) (zdp (zdq (zdp (zadl (zcb (K:=K) rfl) (bv 2) zaf (λ_ _=>rfl)) (zdp (zbp zab) zab (by rfl)) (by rfl))) zab (by rfl)) (by decide) (zaq (by rfl)) (by rfl)) (zzi (zlp D_law_right (hr.mono (by decide)) (by rfl) (zdp (bv 2) zab (by rfl)) (by decide) (zaq (by rfl)) (by rfl))))))))))
  exact zzv (N:=zaga) (F:=zph) (n:=1) rfl ((zan (zbb (zao zav) (by decide)) (zan (zhd (zga (zyv (zyt (zgj (zah (zae 2) zat))))) (zee (zac (se_c λ_=>zcg))) zeu) (zee (zzx (zach (zaj (zao (zaj (zac (zae 2)) zav)) zav)) (zzx (zac (zgj (zah (zmx (zah (zcp (se_c λ_=>zaa)) (zah (zdl zat) zat))) zat))) (zac (zgj (zah (zae 2) zat))))))))) hS ef k
end
theorem us_s{us:List Value}{n:Nat}(h:us.length=n+1):∃a t,us=a::t/\t.length=n:=by
 cases us with
 | nil=>cases h
 | cons a t=>exact⟨a,t,rfl,Nat.succ.inj h⟩
theorem us_1{us:List Value}(h:us.length=1):∃a0,us=[a0]:=by
 obtain⟨a,t,rfl,h2⟩:=us_s h
 cases qAV.mp h2
 exact⟨a,rfl⟩
theorem us_2{us:List Value}(h:us.length=2):∃a0 a1,us=[a0,a1]:=by
 obtain⟨a0,t,rfl,h2⟩:=us_s h
 obtain⟨a1,rfl⟩:=us_1 h2
 exact⟨a0,a1,rfl⟩
theorem us_3{us:List Value}(h:us.length=3):∃a0 a1 a2,us=[a0,a1,a2]:=by
 obtain⟨a0,t,rfl,h2⟩:=us_s h
 obtain⟨a1,a2,rfl⟩:=us_2 h2
 exact⟨a0,a1,a2,rfl⟩
theorem us_4{us:List Value}(h:us.length=4):∃a0 a1 a2 a3,us=[a0,a1,a2,a3]:=by
 obtain⟨a0,t,rfl,h2⟩:=us_s h
 obtain⟨a1,a2,a3,rfl⟩:=us_3 h2
 exact⟨a0,a1,a2,a3,rfl⟩
theorem us_5{us:List Value}(h:us.length=5):∃a0 a1 a2 a3 a4,us=[a0,a1,a2,a3,a4]:=by
 obtain⟨a0,t,rfl,h2⟩:=us_s h
 obtain⟨a1,a2,a3,a4,rfl⟩:=us_4 h2
 exact⟨a0,a1,a2,a3,a4,rfl⟩
theorem us_6{us:List Value}(h:us.length=6):∃a0 a1 a2 a3 a4 a5,us=[a0,a1,a2,a3,a4,a5]:=by
 obtain⟨a0,t,rfl,h2⟩:=us_s h
 obtain⟨a1,a2,a3,a4,a5,rfl⟩:=us_5 h2
 exact⟨a0,a1,a2,a3,a4,a5,rfl⟩
theorem all_mk{l:PySem.W.OpenLaw}{w:World}{K:qD}{h:Heap}{mg:Str->Option Value}{fa f1 f2 f3 f4 f5 f6 f7 f8 f9 f10 f11 f12 f13 f14 f15 f16 f17 f18 f19 f20 f21 f22:Addr}(X:K.In h)(G:h.Ns qO mg)(hfa:mg "law"=some (.ref fa))
  {od1 an1 od2 an2 od3 an3 od4 an4 od5 an5 od6 an6 od7 an7 od8 an8 od9 an9 od10 an10 od11 an11 od12 an12 od13 an13 od14 an14 od15 an15 od16 an16 od17 an17 od18 an18 od19 an19 od20 an20 od21 an21 od22 an22:Option Addr}{sl1 sl2 sl3 sl4 sl5 sl6 sl7 sl8 sl9 sl10 sl11 sl12 sl13 sl14 sl15 sl16 sl17 sl18 sl19 sl20 sl21 sl22:Array (Option Value)}{oc1 kV1 dc1 pm1 cd1 ct1 oc2 kV2 dc2 pm2 cd2 ct2 oc3 kV3 dc3 pm3 cd3 ct3 oc4 kV4 dc4 pm4 cd4 ct4 oc5 kV5 dc5 pm5 cd5 ct5 oc6 kV6 dc6 pm6 cd6 ct6 oc7 kV7 dc7 pm7 cd7 ct7 oc8 kV8 dc8 pm8 cd8 ct8 oc9 kV9 dc9 pm9 cd9 ct9 oc10 kV10 dc10 pm10 cd10 ct10 oc11 kV11 dc11 pm11 cd11 ct11 oc12 kV12 dc12 pm12 cd12 ct12 oc13 kV13 dc13 pm13 cd13 ct13 oc14 kV14 dc14 pm14 cd14 ct14 oc15 kV15 dc15 pm15 cd15 ct15 oc16 kV16 dc16 pm16 cd16 ct16 oc17 kV17 dc17 pm17 cd17 ct17 oc18 kV18 dc18 pm18 cd18 ct18 oc19 kV19 dc19 pm19 cd19 ct19 oc20 kV20 dc20 pm20 cd20 ct20 oc21 kV21 dc21 pm21 cd21 ct21 oc22 kV22 dc22 pm22 cd22 ct22:Value}
  (a1:qV K qO "kind_line"=some (some (.ref f1)))(l1:K.lookup f1=some ⟨oc1,od1,.func (qd "kind_line" "kind_line" (zbr zfn) (zbo zfn) (zar zfn) .none kV1 dc1 pm1 an1 cd1 ct1),sl1⟩)(c1:qZ K cd1 "kind_line"=true)(k1:qU K (.ref f1)=true)
  (a2:qV K qO "deed_line"=some (some (.ref f2)))(l2:K.lookup f2=some ⟨oc2,od2,.func (qd "deed_line" "deed_line" (zbr zfo) (zbo zfo) (zar zfo) .none kV2 dc2 pm2 an2 cd2 ct2),sl2⟩)(c2:qZ K cd2 "deed_line"=true)(k2:qU K (.ref f2)=true)
  (a3:qV K qO "pick_word"=some (some (.ref f3)))(l3:K.lookup f3=some ⟨oc3,od3,.func (qd "pick_word" "pick_word" (zbr zfp) (zbo zfp) (zar zfp) .none kV3 dc3 pm3 an3 cd3 ct3),sl3⟩)(c3:qZ K cd3 "pick_word"=true)(k3:qU K (.ref f3)=true)
  (a4:qV K qO "step_words"=some (some (.ref f4)))(l4:K.lookup f4=some ⟨oc4,od4,.func (qd "step_words" "step_words" (zbr zem) (zbo zem) (zar zem) .none kV4 dc4 pm4 an4 cd4 ct4),sl4⟩)(c4:qZ K cd4 "step_words"=true)(k4:qU K (.ref f4)=true)
  (a5:qV K qO "rule_line"=some (some (.ref f5)))(l5:K.lookup f5=some ⟨oc5,od5,.func (qd "rule_line" "rule_line" (zbr zfq) (zbo zfq) (zar zfq) .none kV5 dc5 pm5 an5 cd5 ct5),sl5⟩)(c5:qZ K cd5 "rule_line"=true)(k5:qU K (.ref f5)=true)
  (a6:qV K qO "shown"=some (some (.ref f6)))(l6:K.lookup f6=some ⟨oc6,od6,.func (qd "shown" "shown" (zbr zll) (zbo zll) (zar zll) .none kV6 dc6 pm6 an6 cd6 ct6),sl6⟩)(c6:qZ K cd6 "shown"=true)(k6:qU K (.ref f6)=true)
  (a7:qV K qO "_law_pen"=some (some (.ref f7)))(l7:K.lookup f7=some ⟨oc7,od7,.func (qd "_law_pen" "_law_pen" (zbr zhy) (zbo zhy) (zar zhy) .none kV7 dc7 pm7 an7 cd7 ct7),sl7⟩)(c7:qZ K cd7 "_law_pen"=true)(k7:qU K (.ref f7)=true)
  (a8:qV K qO "_law_take"=some (some (.ref f8)))(l8:K.lookup f8=some ⟨oc8,od8,.func (qd "_law_take" "_law_take" (zbr zgt) (zbo zgt) (zar zgt) .none kV8 dc8 pm8 an8 cd8 ct8),sl8⟩)(c8:qZ K cd8 "_law_take"=true)(k8:qU K (.ref f8)=true)
  (a9:qV K qO "_law_word"=some (some (.ref f9)))(l9:K.lookup f9=some ⟨oc9,od9,.func (qd "_law_word" "_law_word" (zbr zgu) (zbo zgu) (zar zgu) .none kV9 dc9 pm9 an9 cd9 ct9),sl9⟩)(c9:qZ K cd9 "_law_word"=true)(k9:qU K (.ref f9)=true)
  (a10:qV K qO "_law_some"=some (some (.ref f10)))(l10:K.lookup f10=some ⟨oc10,od10,.func (qd "_law_some" "_law_some" (zbr zgv) (zbo zgv) (zar zgv) .none kV10 dc10 pm10 an10 cd10 ct10),sl10⟩)(c10:qZ K cd10 "_law_some"=true)(k10:qU K (.ref f10)=true)
  (a11:qV K qO "_law_web"=some (some (.ref f11)))(l11:K.lookup f11=some ⟨oc11,od11,.func (qd "_law_web" "_law_web" (zbr zhz) (zbo zhz) (zar zhz) .none kV11 dc11 pm11 an11 cd11 ct11),sl11⟩)(c11:qZ K cd11 "_law_web"=true)(k11:qU K (.ref f11)=true)
  (a12:qV K qO "_law_figure"=some (some (.ref f12)))(l12:K.lookup f12=some ⟨oc12,od12,.func (qd "_law_figure" "_law_figure" (zbr zeo) (zbo zeo) (zar zeo) .none kV12 dc12 pm12 an12 cd12 ct12),sl12⟩)(c12:qZ K cd12 "_law_figure"=true)(k12:qU K (.ref f12)=true)
  (a13:qV K qO "_law_step"=some (some (.ref f13)))(l13:K.lookup f13=some ⟨oc13,od13,.func (qd "_law_step" "_law_step" (zbr zgw) (zbo zgw) (zar zgw) .none kV13 dc13 pm13 an13 cd13 ct13),sl13⟩)(c13:qZ K cd13 "_law_step"=true)(k13:qU K (.ref f13)=true)
  (a14:qV K qO "_law_rules"=some (some (.ref f14)))(l14:K.lookup f14=some ⟨oc14,od14,.func (qd "_law_rules" "_law_rules" (zbr zfs) (zbo zfs) (zar zfs) .none kV14 dc14 pm14 an14 cd14 ct14),sl14⟩)(c14:qZ K cd14 "_law_rules"=true)(k14:qU K (.ref f14)=true)
  (a15:qV K qO "_law_program"=some (some (.ref f15)))(l15:K.lookup f15=some ⟨oc15,od15,.func (qd "_law_program" "_law_program" (zbr zdy) (zbo zdy) (zar zdy) .none kV15 dc15 pm15 an15 cd15 ct15),sl15⟩)(c15:qZ K cd15 "_law_program"=true)(k15:qU K (.ref f15)=true)
  (a16:qV K qO "_law_pick_text"=some (some (.ref f16)))(l16:K.lookup f16=some ⟨oc16,od16,.func (qd "_law_pick_text" "_law_pick_text" (zbr zcr) (zbo zcr) (zar zcr) .none kV16 dc16 pm16 an16 cd16 ct16),sl16⟩)(c16:qZ K cd16 "_law_pick_text"=true)(k16:qU K (.ref f16)=true)
  (a17:qV K qO "_law_step_text"=some (some (.ref f17)))(l17:K.lookup f17=some ⟨oc17,od17,.func (qd "_law_step_text" "_law_step_text" (zbr zcs) (zbo zcs) (zar zcs) .none kV17 dc17 pm17 an17 cd17 ct17),sl17⟩)(c17:qZ K cd17 "_law_step_text"=true)(k17:qU K (.ref f17)=true)
  (a18:qV K qO "_law_lines"=some (some (.ref f18)))(l18:K.lookup f18=some ⟨oc18,od18,.func (qd "_law_lines" "_law_lines" (zbr zft) (zbo zft) (zar zft) .none kV18 dc18 pm18 an18 cd18 ct18),sl18⟩)(c18:qZ K cd18 "_law_lines"=true)(k18:qU K (.ref f18)=true)
  (a19:qV K qO "_law_sized"=some (some (.ref f19)))(l19:K.lookup f19=some ⟨oc19,od19,.func (qd "_law_sized" "_law_sized" (zbr zfu) (zbo zfu) (zar zfu) .none kV19 dc19 pm19 an19 cd19 ct19),sl19⟩)(c19:qZ K cd19 "_law_sized"=true)(k19:qU K (.ref f19)=true)
  (a20:qV K qO "_law_changed"=some (some (.ref f20)))(l20:K.lookup f20=some ⟨oc20,od20,.func (qd "_law_changed" "_law_changed" (zbr zdz) (zbo zdz) (zar zdz) .none kV20 dc20 pm20 an20 cd20 ct20),sl20⟩)(c20:qZ K cd20 "_law_changed"=true)(k20:qU K (.ref f20)=true)
  (a21:qV K qO "_law_right"=some (some (.ref f21)))(l21:K.lookup f21=some ⟨oc21,od21,.func (qd "_law_right" "_law_right" (zbr zfv) (zbo zfv) (zar zfv) .none kV21 dc21 pm21 an21 cd21 ct21),sl21⟩)(c21:qZ K cd21 "_law_right"=true)(k21:qU K (.ref f21)=true)
  (a22:qV K qO "law"=some (some (.ref f22)))(l22:K.lookup f22=some ⟨oc22,od22,.func (qd "law" "law" (zbr zrn) (zbo zrn) (zar zrn) .none kV22 dc22 pm22 an22 cd22 ct22),sl22⟩)(c22:qZ K cd22 "law"=true)(k22:qU K (.ref f22)=true)
  (z1:qV K qO "abs"=some none)(z2:qV K qO "int"=some none)(z3:qV K qO "isinstance"=some none)(z4:qV K qO "len"=some none)(z5:qV K qO "list"=some none)(z6:qV K qO "min"=some none)(z7:qV K qO "range"=some none)(z8:qV K qO "repr"=some none)(z9:qV K qO "str"=some none)(z10:qV K qO "tuple"=some none) :
  ∃fd:qw,(∀(s:Shared)(v:Value),BindsTo s fd ⟨[v],[]⟩ [("_law_script",v)])/\∀base:Heap,K.In base->base.Ns qO mg->FnOk l.prog w K mg base CX0 7 fa fd ["_law_script"] (zada K):=by
 have e:=hfa.symm.trans (qk X G a22)
 cases e
 have T:Txt mg:=⟨qAF X G z1,qAF X G z2,qAF X G z3,qAF X G z4,qAF X G z5,qAF X G z6,qAF X G z7,qAF X G z8,qAF X G z9,qAF X G z10⟩
 have F1:=zeb (st:=zfn) l1 c1 k1
 have b1:=F1.binds (ps:=["kind"]) λ_ _ _ _ _ _ us hl=>by obtain⟨_,rfl⟩:=us_1 hl;rfl
 have F2:=zeb (st:=zfo) l2 c2 k2
 have b2:=F2.binds (ps:=["name","places"]) λ_ _ _ _ _ _ us hl=>by obtain⟨_,_,rfl⟩:=us_2 hl;rfl
 have F3:=zeb (st:=zfp) l3 c3 k3
 have b3:=F3.binds (ps:=["pick"]) λ_ _ _ _ _ _ us hl=>by obtain⟨_,rfl⟩:=us_1 hl;rfl
 have F4:=zeb (st:=zem) l4 c4 k4
 have b4:=F4.binds (ps:=["step"]) λ_ _ _ _ _ _ us hl=>by obtain⟨_,rfl⟩:=us_1 hl;rfl
 have F5:=zeb (st:=zfq) l5 c5 k5
 have b5:=F5.binds (ps:=["deed","rule"]) λ_ _ _ _ _ _ us hl=>by obtain⟨_,_,rfl⟩:=us_2 hl;rfl
 have F6:=zeb (st:=zll) l6 c6 k6
 have b6:=F6.binds (ps:=["program"]) λ_ _ _ _ _ _ us hl=>by obtain⟨_,rfl⟩:=us_1 hl;rfl
 have F7:=zeb (st:=zhy) l7 c7 k7
 have b7:=F7.binds (ps:=["_law_script"]) λ_ _ _ _ _ _ us hl=>by obtain⟨_,rfl⟩:=us_1 hl;rfl
 have F8:=zeb (st:=zgt) l8 c8 k8
 have b8:=F8.binds (ps:=["_law_pen_here","_law_many"]) λ_ _ _ _ _ _ us hl=>by obtain⟨_,_,rfl⟩:=us_2 hl;rfl
 have F9:=zeb (st:=zgu) l9 c9 k9
 have b9:=F9.binds (ps:=["_law_pen_here","_law_taken"]) λ_ _ _ _ _ _ us hl=>by obtain⟨_,_,rfl⟩:=us_2 hl;rfl
 have F10:=zeb (st:=zgv) l10 c10 k10
 have b10:=F10.binds (ps:=["_law_pen_here","_law_pool","_law_count"]) λ_ _ _ _ _ _ us hl=>by obtain⟨_,_,_,rfl⟩:=us_3 hl;rfl
 have F11:=zeb (st:=zhz) l11 c11 k11
 have b11:=F11.binds (ps:=["_law_pen_here","_law_many"]) λ_ _ _ _ _ _ us hl=>by obtain⟨_,_,rfl⟩:=us_2 hl;rfl
 have F12:=zeb (st:=zeo) l12 c12 k12
 have b12:=F12.binds (ps:=["_law_pen_here"]) λ_ _ _ _ _ _ us hl=>by obtain⟨_,rfl⟩:=us_1 hl;rfl
 have F13:=zeb (st:=zgw) l13 c13 k13
 have b13:=F13.binds (ps:=["_law_pen_here","_law_names","_law_heads","_law_places"]) λ_ _ _ _ _ _ us hl=>by obtain⟨_,_,_,_,rfl⟩:=us_4 hl;rfl
 have F14:=zeb (st:=zfs) l14 c14 k14
 have b14:=F14.binds (ps:=["_law_pen_here","_law_names","_law_heads","_law_places","_law_most","_law_steps"]) λ_ _ _ _ _ _ us hl=>by obtain⟨_,_,_,_,_,_,rfl⟩:=us_6 hl;rfl
 have F15:=zeb (st:=zdy) l15 c15 k15
 have b15:=F15.binds (ps:=["_law_pen_here","_law_kinds","_law_deeds","_law_rules_here","_law_steps"]) λ_ _ _ _ _ _ us hl=>by obtain⟨_,_,_,_,_,rfl⟩:=us_5 hl;rfl
 have F16:=zeb (st:=zcr) l16 c16 k16
 have b16:=F16.binds (ps:=["_law_pick"]) λ_ _ _ _ _ _ us hl=>by obtain⟨_,rfl⟩:=us_1 hl;rfl
 have F17:=zeb (st:=zcs) l17 c17 k17
 have b17:=F17.binds (ps:=["_law_step_here"]) λ_ _ _ _ _ _ us hl=>by obtain⟨_,rfl⟩:=us_1 hl;rfl
 have F18:=zeb (st:=zft) l18 c18 k18
 have b18:=F18.binds (ps:=["_law_web_here","_law_deeds"]) λ_ _ _ _ _ _ us hl=>by obtain⟨_,_,rfl⟩:=us_2 hl;rfl
 have F19:=zeb (st:=zfu) l19 c19 k19
 have b19:=F19.binds (ps:=["_law_pen_here"]) λ_ _ _ _ _ _ us hl=>by obtain⟨_,rfl⟩:=us_1 hl;rfl
 have F20:=zeb (st:=zdz) l20 c20 k20
 have b20:=F20.binds (ps:=["_law_pen_here","_law_made"]) λ_ _ _ _ _ _ us hl=>by obtain⟨_,_,rfl⟩:=us_2 hl;rfl
 have F21:=zeb (st:=zfv) l21 c21 k21
 have b21:=F21.binds (ps:=["_law_made"]) λ_ _ _ _ _ _ us hl=>by obtain⟨_,rfl⟩:=us_1 hl;rfl
 have F22:=zeb (st:=zrn) l22 c22 k22
 refine⟨qd "law" "law" (zbr zrn) (zbo zrn) (zar zrn) .none kV22 dc22 pm22 an22 cd22 ct22,λs v=>.of_eq rfl,λbase _ _=>?_⟩
 have D_kind_line:zoq l.prog w K mg base:=⟨f1,_,ztm F1 T , qk X G a1,k1,b1⟩
 have D_deed_line:zor l.prog w K mg base:=⟨f2,_,ztn F2 T , qk X G a2,k2,b2⟩
 have D_pick_word:zos l.prog w K mg base:=⟨f3,_,zto F3 T , qk X G a3,k3,b3⟩
 have D_step_words:zlw l.prog w K mg base:=⟨f4,_,zro F4 T D_pick_word,qk X G a4,k4,b4⟩
 have D_rule_line:zot l.prog w K mg base:=⟨f5,_,ztp F5 T D_step_words,qk X G a5,k5,b5⟩
 have D_shown:zaae l.prog w K mg base:=⟨f6,_,zwi F6 T D_deed_line D_kind_line D_rule_line,qk X G a6,k6,b6⟩
 have D_shown_kw0:DnK l.prog w K mg base "shown" ["program"] ["program"] [0] 4 (spD 1 zii):=⟨f6,_,zwi F6 T D_deed_line D_kind_line D_rule_line,qk X G a6,k6,zzf rfl (by decide) (λs ws hl=>match ws,hl with|[_],_=>.of_eq rfl)⟩
 have D_law_pen:ztk l.prog w K mg base:=⟨f7,_,zxq F7 T , qk X G a7,k7,b7⟩
 have D_law_take:zea l.prog w K mg base:=⟨f8,_,zvh F8 T , qk X G a8,k8,b8⟩
 have D_law_word:zic l.prog w K mg base:=⟨f9,_,zvi F9 T D_law_take,qk X G a9,k9,b9⟩
 have D_law_some:zjs l.prog w K mg base:=⟨f10,_,zvj F10 T D_law_take,qk X G a10,k10,b10⟩
 have D_law_web:ztl l.prog w K mg base:=⟨f11,_,zxr F11 T D_law_some D_law_take D_law_word,qk X G a11,k11,b11⟩
 have D_law_figure:zji l.prog w K mg base:=⟨f12,_,zrp F12 T D_law_take,qk X G a12,k12,b12⟩
 have D_law_step:zqi l.prog w K mg base:=⟨f13,_,zvk F13 T D_law_figure D_law_take,qk X G a13,k13,b13⟩
 have D_law_rules:zou l.prog w K mg base:=⟨f14,_,ztq F14 T D_law_some D_law_step D_law_word,qk X G a14,k14,b14⟩
 have D_law_program:zky l.prog w K mg base:=⟨f15,_,zpn F15 T D_law_rules D_law_take D_law_web D_law_word,qk X G a15,k15,b15⟩
 have D_law_pick_text:zjj l.prog w K mg base:=⟨f16,_,zmg F16 T , qk X G a16,k16,b16⟩
 have D_law_step_text:zjk l.prog w K mg base:=⟨f17,_,zmh F17 T D_law_pick_text,qk X G a17,k17,b17⟩
 have D_law_lines:zov l.prog w K mg base:=⟨f18,_,ztr F18 T D_law_step_text,qk X G a18,k18,b18⟩
 have D_law_sized:zow l.prog w K mg base:=⟨f19,_,zts F19 T D_law_program D_law_take,qk X G a19,k19,b19⟩
 have D_law_changed:zkz l.prog w K mg base:=⟨f20,_,zpo F20 T D_law_figure D_law_some D_law_take D_law_word,qk X G a20,k20,b20⟩
 have D_law_right:zox l.prog w K mg base:=⟨f21,_,ztt F21 T D_law_lines D_shown D_shown_kw0,qk X G a21,k21,b21⟩
 exact zakg F22 T D_law_changed D_law_pen D_law_right D_law_sized
theorem walk{l:PySem.W.OpenLaw}{q:Program}{loose:List Str}{XP:(Str->Option Value)->Heap->Prop}{YP:World->Heap->Prop}{d:DefRec}{K:Params->qD}(hn:l.most=some 63)(hdf:d.params.defaults=[])
  (hY:∀(w:World) (h:Heap),YP w h->(K w.params).In h)
  (F:∀(w:World)(mg:Str->Option Value)(fa:Addr)(h:Heap),(K w.params).In h->h.Ns qO mg->mg d.name=some (.ref fa)->
   ∃fd:qw,(∀(s:Shared)(u:Value),BindsTo s fd ⟨[u],[]⟩ [("_law_script",u)])/\∀base:Heap,(K w.params).In base->base.Ns qO mg->FnOk l.prog w (K w.params) mg base CX0 7 fa fd ["_law_script"] (zada (K w.params))) :
  PySem.W.WalkO q loose XP YP l.row.toRowW d [] (λf vs=>PySem.call f vs):=
 L2.walk_of (n:=63) (k:=7) (x:="_law_script") (CX:=λ_=>CX0) (sp:=λw=>zada (K w.params)) hn (by decide) hdf ⟨rfl,by decide,by decide,rfl⟩ hY F (λ_ _ a ns hl _ hS=>⟨a,ns,rfl,hS,λ_=>rfl⟩) λ_ _ _ _ _ z=>z
end Bc
theorem PySem.W.Fast.te17879691461698874667:True:=trivial
noncomputable def PySem.W.Fast.tw16495622884754126253:PySem.Program:=PySem.Challenge.pw_bestcalls_k80_programs_written
theorem PySem.W.Fast.te16495622884754126253:PySem.Challenge.pw_bestcalls_k80_programs_written=PySem.W.Fast.tw16495622884754126253:=rfl
open PySem PySem.W PyProof.Rows
set_option maxRecDepth 100000 in
set_option maxHeartbeats 0 in
theorem PySem.Challenge.cw_bestcalls_k80_programs_written_holds : PySem.Challenge.rw_bestcalls_k80_programs_written.Holds := by
 w_on;o_law;k_head;(case hw=>w_witness2)
 k_fill
 refine Bc.walk (l:=PySem.Challenge.rw_bestcalls_k80_programs_written) rfl rfl (λw h Y=>PySem.W.kIn_of Y) ?F
 case F=>
  intro w mg fa h KX G hmg
  refine' Bc.all_mk KX G hmg ?a1 ?l1 ?c1 ?k1 ?a2 ?l2 ?c2 ?k2 ?a3 ?l3 ?c3 ?k3 ?a4 ?l4 ?c4 ?k4 ?a5 ?l5 ?c5 ?k5 ?a6 ?l6 ?c6 ?k6 ?a7 ?l7 ?c7 ?k7 ?a8 ?l8 ?c8 ?k8 ?a9 ?l9 ?c9 ?k9 ?a10 ?l10 ?c10 ?k10 ?a11 ?l11 ?c11 ?k11 ?a12 ?l12 ?c12 ?k12 ?a13 ?l13 ?c13 ?k13 ?a14 ?l14 ?c14 ?k14 ?a15 ?l15 ?c15 ?k15 ?a16 ?l16 ?c16 ?k16 ?a17 ?l17 ?c17 ?k17 ?a18 ?l18 ?c18 ?k18 ?a19 ?l19 ?c19 ?k19 ?a20 ?l20 ?c20 ?k20 ?a21 ?l21 ?c21 ?k21 ?a22 ?l22 ?c22 ?k22 ?z1 ?z2 ?z3 ?z4 ?z5 ?z6 ?z7 ?z8 ?z9 ?z10
  (case a1=>k_is)
  (case l1=>k_is)
  (case c1=>k_is)
  (case k1=>k_is)
  (case a2=>k_is)
  (case l2=>k_is)
  (case c2=>k_is)
  (case k2=>k_is)
  (case a3=>k_is)
  (case l3=>k_is)
  (case c3=>k_is)
  (case k3=>k_is)
  (case a4=>k_is)
  (case l4=>k_is)
  (case c4=>k_is)
  (case k4=>k_is)
  (case a5=>k_is)
  (case l5=>k_is)
  (case c5=>k_is)
  (case k5=>k_is)
  (case a6=>k_is)
  (case l6=>k_is)
  (case c6=>k_is)
  (case k6=>k_is)
  (case a7=>k_is)
  (case l7=>k_is)
  (case c7=>k_is)
  (case k7=>k_is)
  (case a8=>k_is)
  (case l8=>k_is)
  (case c8=>k_is)
  (case k8=>k_is)
  (case a9=>k_is)
  (case l9=>k_is)
  (case c9=>k_is)
  (case k9=>k_is)
  (case a10=>k_is)
  (case l10=>k_is)
  (case c10=>k_is)
  (case k10=>k_is)
  (case a11=>k_is)
  (case l11=>k_is)
  (case c11=>k_is)
  (case k11=>k_is)
  (case a12=>k_is)
  (case l12=>k_is)
  (case c12=>k_is)
  (case k12=>k_is)
  (case a13=>k_is)
  (case l13=>k_is)
  (case c13=>k_is)
  (case k13=>k_is)
  (case a14=>k_is)
  (case l14=>k_is)
  (case c14=>k_is)
  (case k14=>k_is)
  (case a15=>k_is)
  (case l15=>k_is)
  (case c15=>k_is)
  (case k15=>k_is)
  (case a16=>k_is)
  (case l16=>k_is)
  (case c16=>k_is)
  (case k16=>k_is)
  (case a17=>k_is)
  (case l17=>k_is)
  (case c17=>k_is)
  (case k17=>k_is)
  (case a18=>k_is)
  (case l18=>k_is)
  (case c18=>k_is)
  (case k18=>k_is)
  (case a19=>k_is)
  (case l19=>k_is)
  (case c19=>k_is)
  (case k19=>k_is)
  (case a20=>k_is)
  (case l20=>k_is)
  (case c20=>k_is)
  (case k20=>k_is)
  (case a21=>k_is)
  (case l21=>k_is)
  (case c21=>k_is)
  (case k21=>k_is)
  (case a22=>k_is)
  (case l22=>k_is)
  (case c22=>k_is)
  (case k22=>k_is)
  (case z1=>k_is)
  (case z2=>k_is)
  (case z3=>k_is)
  (case z4=>k_is)
  (case z5=>k_is)
  (case z6=>k_is)
  (case z7=>k_is)
  (case z8=>k_is)
  (case z9=>k_is)
  (case z10=>k_is)
