import PyProof.Rows.All
import KE.KLam
import Wide.All
import OpenK.AllK
import Wide.FinOn
import Lean
import PyProof.EqAt
import PyProof.EqKinds
import PyProof.TupleCall
import KE.KRevSl
import PyProof.MeetsStr
import PyProof.Rows.MinMaxN
import PyProof.ListStr
import PyProof.CallStr
import PyProof.StrCalls
import PyProof.Rows.FStr
import PyProof.ReprRoads
import KE.KTryOn
import PyProof.ExcInit
import PyProof.ExcClass3
import PyProof.ExcBaseAll.ValueError
import PyProof.InstStoreFacts
import ObjForm.Fk.InstStore
import PyProof.ExcArgsOwn
import PyProof.ExcAttrAll.ValueError
import PyProof.PureStr
import PyProof.FString2
import PyProof.Rows.FactsFmt
import PyProof.FactsAll.NoneType_2
import PyProof.NsDelKeeps
import PyProof.IsiBase
import PyProof.DictWalks
import PyProof.ListRange
import PyProof.AutoListH
import PyProof.AutoSeq1
import PyProof.FString
import PySem.Challenge.RW_bestcalls_k98_each_refusal_of_one_class
set_option genSizeOf false
set_option Elab.async false
set_option linter.all false
set_option maxRecDepth 100000
noncomputable section
open PySem.W renaming Frag→qA,mg_of→qJ,looks_findIn→qZ,fnOf→qr,keepIn→q9,nsIn→qAF,mg_none_of→qAM,codeIn→qAP,cellsFrom_some→qAt,callWith_K→qA1
open PySem.Heap renaming get?_push_of_some→qB,lt_size→qD,get?_push_size→qAH,get?_none_of_le→qAX,size_push→qAY,get?_update_other→qA0,get?_update_self→qA4,get?_update_ne→qA9
open List renaming mem_cons_of_mem→qC,mem_append_right→qL,size_toArray→qM,length_append→qO,getElem?_eq_some_iff→qR,length_map→qT,contains_cons→qU,getElem?_map→qX,getElem?_append_right→qa,getD_eq_getElem?_getD→qb,getElem?_eq_getElem→qe,mem_cons_self→qf,mem_cons→qg,length_set→qh,mem_of_getElem?→qi,getElem?_set_self→qm,lookup_cons→qq,map_cons→qu,getElem?_append_left→qw,mem_append_left→qy,getElem?_set_ne→qz,length_cons→qAG,all_eq_true→qAK,nodup_cons→qAV,append_nil→qAW,filterMap_cons→qAa,mem_singleton→qAd,mem_flatMap→qAi,of_mem_zip→qAm,mem_filter→qAn,length_nil→qAo,mem_range→qAv,sum_cons→qAw,length_eq_zero_iff→qAx,length_replicate→qA3,replicate_succ→qA8
open Nat renaming lt_of_lt_of_le→qE,le_refl→qG,le_trans→qP,ne_of_lt→qj,lt_irrefl→qAA,zero_le→qAQ,le_of_succ_le→qAf,le_of_lt→qAh
open PySem renaming wpAny_loadPart_at→qF,sizeLine→qH,mem_of_lookup→qQ,wpAny_bind→qS,mainGlobals→qV,sizeLine_eq→qY,FuncData→qk,wpAny_pure→ql,wpAny_isSubtype_exc→qp,Expr→qAC,starEach→qAE,codeAny_call_builtin→qAI,strLen_append→qAJ,wpAny_pyReprObj_gives→qAL,wpAny_passesOwn→qAS,codeAny_mono→qAc,wpAny_Call_Name_kw→qAj,wpAny_truthy_bool→qAq,wpAny_mono→qAr,wpAny_execs_nil→qAy,Pos→qAz,wpAny_call→qA7
open Bool renaming false_ne_true→qI,and_eq_true→qW,or_true→q0,eq_iff_iff→qAO,false_eq_true→qAR,or_eq_true_iff→qAb
open Option renaming bind_eq_some_iff→qK,map_eq_some_iff→qc,bind_some→qAT
open Option.some renaming inj→qN
open PySem.PyData renaming canLayAll0→qd,eqv→qx,depthAll→qAB
open PySem.Str renaming ofString→qo,ofString_eq_toList→qAU
open PySem.SeqAt renaming shaped→qs,canLay_of_shaped→qt,eqv_refl→qAk
open Int renaming emod_lt_of_pos→qv,emod_nonneg→qAD
open PySem.F renaming excBase_ValueError→qAN,typeOf_object_class→qAZ,store_ValueError→qAg,args_tuple_add_2→qAl,entry_tuple_add→qAs,slot_tuple_add→qAu,slot_gs_get→qA5
open PySem.Code renaming quiet_builtin→qAe
open PySem.Calls renaming Name_function_global→qAp,Constant_str→qBA
open Ne renaming symm→qA2
open Array renaming length_toList→qA6
namespace L2
open PySem PySem.Spec PyProof.Rows
noncomputable abbrev Key:=Sum Int Str
noncomputable def znn:Key->Value->Bool
 | .inl k,v=>Value.isInt k v
 | .inr x,v=>Value.isStrOf x v
noncomputable def keyH(w:World):Key->Int
 | .inl k=>hashInt k
 | .inr x=>hashStr w x
theorem zan:∀{k:Key}{v:Value},znn k v=true->(∃i t,k=Sum.inl i/\v=Value.int i t)\/(∃x t,k=Sum.inr x/\v=Value.str x t)
 | .inl i,v,h=>by
  obtain⟨t,e⟩:=Value.isInt_shape (k:=i) (v:=v) h
  exact .inl ⟨i,t,rfl,e⟩
 | .inr x,v,h=>by
  obtain⟨t,e⟩:=Value.isStrOf_shape (x:=x) (v:=v) h
  exact .inr ⟨x,t,rfl,e⟩
theorem zno(a b:Int):decide ((Sum.inl a:Key)=Sum.inl b)=(a==b):=by
 by_cases e:a=b
 ·subst e;simp
 ·have h:¬(Sum.inl a:Key)=Sum.inl b:=λq=>e (Sum.inl.inj q)
  rw[decide_eq_false h]
  exact(beq_eq_false_iff_ne.mpr e).symm
theorem znp(a b:Str):decide ((Sum.inr a:Key)=Sum.inr b)=decide (a=b):=by
 by_cases e:a=b
 ·subst e;simp
 ·have h:¬(Sum.inr a:Key)=Sum.inr b:=λq=>e (Sum.inr.inj q)
  rw[decide_eq_false h,decide_eq_false e]
theorem znq(a:Int)(b:Str):decide ((Sum.inl a:Key)=Sum.inr b)=false:=decide_eq_false (λq=>nomatch q)
theorem znr(a:Str)(b:Int):decide ((Sum.inr a:Key)=Sum.inl b)=false:=decide_eq_false (λq=>nomatch q)
noncomputable def zfa(prog:Program)(w:World):PySem.KeyKind prog w Key where
 is:=znn
 hash:=keyH w
 inj:=λv a b ha hb=>by
  rcases zan ha with⟨i,t,rfl,rfl⟩|⟨x,t,rfl,rfl⟩
  ·rcases zan hb with⟨j,u,rfl,e⟩|⟨y,u,rfl,e⟩
   ·injection e with e1 _;rw[e1]
   ·exact nomatch e
  ·rcases zan hb with⟨j,u,rfl,e⟩|⟨y,u,rfl,e⟩
   ·exact nomatch e
   ·injection e with e1 _;rw[e1]
 byValue:=λk v h=>by
  rcases zan h with⟨i,t,rfl,rfl⟩|⟨x,t,rfl,rfl⟩<;>rfl
 pyHash:=λhv h=>by
  rcases zan hv with⟨i,t,rfl,rfl⟩|⟨x,t,rfl,rfl⟩
  ·exact wpAny_pyHash_int h
  ·exact wpAny_pyHash_str h
 eqBool:=λhu hv h=>by
  rcases zan hu with⟨i,t,rfl,rfl⟩|⟨x,t,rfl,rfl⟩
  ·rcases zan hv with⟨j,u,rfl,rfl⟩|⟨y,u,rfl,rfl⟩
   ·rw[zno]at h;exact wpAny_eqBool_int h
   ·rw[znq]at h;exact SeqAt.EqAt.int_str i t y u _ _ _ _ h
  ·rcases zan hv with⟨j,u,rfl,rfl⟩|⟨y,u,rfl,rfl⟩
   ·rw[znr]at h;exact SeqAt.EqAt.str_int x t j u _ _ _ _ h
   ·rw[znp]at h;exact wpAny_eqBool_str h
 «strs»:=λk x t v h=>by
  rcases zan h with⟨i,u,rfl,e⟩|⟨y,u,rfl,e⟩
  ·exact nomatch e
  ·injection e with e1 _
   subst e1
   cases v<;>rfl
inductive V where
 | non|bl (b:Bool)|int (i:Int)|str (x:Str)|byt (b:Array UInt8)|flt (b:UInt64)|ref (a:Addr)|ty (n:String)
 deriving DecidableEq
noncomputable def RelV:V->Value->Prop
 | .non,u=>u=Value.none
 | .bl b,u=>u=Value.bool b
 | .int i,u=>∃t,u=Value.int i t
 | .str x,u=>∃t,u=Value.str x t
 | .byt b,u=>∃t,u=Value.bytes b t
 | .flt b,u=>∃t,u=Value.float b t
 | .ref a,u=>u=Value.ref a
 | .ty n,u=>u=Value.type n
noncomputable abbrev Vals:List V->List Value->Prop:=Paired RelV
theorem Vals.length{xs:List V}{us:List Value}(r:Vals xs us):xs.length=us.length:=Paired.length r
theorem Vals.get:∀{xs:List V}{us:List Value}{i:Nat}{x:V},Vals xs us->xs[i]?=some x->∃u,us[i]?=some u/\RelV x u
 | _,_,_,_,.nil,e=>by simp at e
 | _,_,0,_,.cons r _,e=>by simp at e;subst e;exact⟨_,rfl,r⟩
 | _,_,i+1,x,.cons _ t,e=>by
  obtain⟨u,h1,h2⟩:=Vals.get (i:=i) (x:=x) t (by simpa using e)
  exact⟨u,by simpa using h1,h2⟩
theorem Vals.append:∀{xs ys:List V}{us ws:List Value},Vals xs us->Vals ys ws->Vals (xs++ys) (us++ws)
 | _,_,_,_,.nil,s=>s
 | _,_,_,_,.cons r t,s=>.cons r (Vals.append t s)
noncomputable def RelO:Option V->Option Value->Prop
 | some v,some u=>RelV v u
 | none,none=>True
 | _,_=>False
noncomputable def KV{κ:Type}:List (κ×V)->List (κ×Value)->Prop:=Paired λ(p:κ×V)(q:κ×Value)=>p.1=q.1/\RelV p.2 q.2
noncomputable def kV:Key->V
 | .inl i=>.int i
 | .inr x=>.str x
inductive HO where
  | lst (xs:List V)
  | tup (xs:List V)
  | dK (kvs:List (Key×V))|dT (kvs:List (List Key×V))
  | set (S:Int->Bool) (n:Nat)
  | ins (C dx:Addr) (fs:List (Str×V))
  | own (x:Addr)
  | xd (fs:List (Str×V))
  | met (f x:Addr)
  | rng (lo hi:Int)
  | frz (o:Obj) (u:HO)
  | tbl (ps:Array Value)
 | tabO (q:Str)
  | ext (φ:Heap->Prop)
noncomputable abbrev Hp:=Addr->Option HO
noncomputable def upd(H:Hp)(a:Addr)(o:HO):Hp:=λb=>if b=a then some o else H b
theorem zae:upd H a o a=some o:=by unfold upd;rw[if_pos rfl]
theorem zah(h:b≠a):upd H a o b=H b:=by unfold upd;rw[if_neg h]
theorem zau{H:Hp}{a b:Addr}{o:HO}(h:H a=some o)(h':H b=none):a≠b:=by
 intro e;subst e;rw[h]at h';cases h'
section
variable(P:Program)(w:World)
noncomputable def zbr(H:Hp)(h:Heap)(a:Addr):HO->Prop
 | .lst xs=>xs.length<=qH/\∃(its:List Value)(n:Nat),Vals xs its/\h.get? a=some {cls:=.type "list",data:=.seq its.toArray n}
 | .tup xs=>xs.length<=qH/\∃its:List Value,Vals xs its/\IsTup h a its.toArray
 | .dK kvs=>kvs.length<=qH/\(a==sysModules)=false/\∃vs,KV kvs vs/\h.DictOf (zfa P w) a vs
 | .dT kvs=>kvs.length<=qH/\(a==sysModules)=false/\∃xs:List (List Key×Addr×Value),
   Paired (λ(p:List Key×V)(q:List Key×Addr×Value)=>p.1=q.1/\H q.2.1=some (.tup (p.1.map kV))/\RelV p.2 q.2.2) kvs xs/\
   ∃o es ep,h.get? a=some o/\o.ExactDict/\o.data=.dict es ep/\es.toList=xs.map (entryOfKey (tupleKind (zfa P w)))/\(xs.map (·.1)).Nodup
 | .set S n=>h.SetOf (intKind P w) a S n
 | .ins C dx fs=>H dx=some (.own a)/\fs.length<=1000/\dx≠a/\h.get? a=some (PySem.W.instObj C dx)/\
   ∃mA,h.Ns1 dx mA/\(∀f,RelO (fs.lookup f) (mA f))/\PySem.Within mA (fs.map (·.1))
 | .own _=>∃o,h.get? a=some o
 | .xd fs=>∃mA,h.Ns1 a mA/\∀f,RelO (fs.lookup f) (mA f)
 | .rng lo hi=>∃t u v,h.get? a=some {cls:=.type "range",data:=.fields #[.int lo t,.int hi u,.int 1 v]}
 | .frz o u=>h.get? a=some o/\zbr H h a u
 | .tbl ps=>h.get? a=some {cls:=.none,data:=.fields ps}
 | .tabO q=>∃ps:Array Value,h.get? a=some (PySem.W.tabObj ps)/\TriplesOk ps.toList/\∀pos cv,codeAmong pos ps.toList=some cv->∃c o vs t,cv=.ref c/\c≠a/\H c=some (.frz o (.own a))/\o.data=.fields vs/\vs[1]?=some (.str q t)
 | .met f x=>h.get? a=some (PySem.W.methodObj (.ref f) (.ref x))
 | .ext φ=>φ h/\(∃o,h.get? a=some o)/\∀h1 h2:Heap,φ h1->(∀o,h1.get? a=some o->h2.get? a=some o)->φ h2
noncomputable def HOk(H:Hp)(h:Heap):Prop:=∀a o,H a=some o->zbr P w H h a o
end
section
variable{P:Program}{w:World}{H H':Hp}{h h':Heap}{a:Addr}{o:HO}
theorem zbr.lt(x:zbr P w H h a o):a<h.objs.size:=by
 cases o with
 | lst xs=>obtain⟨_,_,_,_,e⟩:=x;exact qD e
 | tup xs=>obtain⟨_,_,_,p⟩:=x;exact p.lt
 | dK kvs=>obtain⟨_,_,_,_,o,_,_,e,_⟩:=x;exact qD e
 | dT kvs=>obtain⟨_,_,_,_,o,_,_,e,_⟩:=x;exact qD e
 | set S n=>obtain⟨o,_,_,_,e,_⟩:=x;exact qD e
 | ins C dx fs=>obtain⟨_,_,_,e,_⟩:=x;exact qD e
 | own y=>obtain⟨_,e⟩:=x;exact qD e
 | xd fs=>obtain⟨_,⟨_,_,_,e,_⟩,_⟩:=x;exact qD e
 | rng lo hi=>obtain⟨_,_,_,e⟩:=x;exact qD e
 | frz ob u=>obtain⟨e,_⟩:=x;exact qD e
 | tbl ps=>exact qD (show h.get? a=some _ from x)
 | tabO q=>obtain⟨_,e,_⟩:=x;exact qD e
 | met f y=>exact qD (show h.get? a=some _ from x)
 | ext φ=>obtain⟨_,⟨_,e⟩,_⟩:=x;exact qD e
theorem Paired.mapP{F G:α->β->Prop}:∀{l₁:List α}{l₂:List β},Paired F l₁ l₂->(∀a b,F a b->G a b)->Paired G l₁ l₂
 | _,_,.nil,_=>.nil
 | _,_,.cons r t,f=>.cons (f _ _ r) (Paired.mapP t f)
theorem zbr.stay(x:zbr P w H h a o)(k:∀b u,(b=a\/H b=some (.own a))->h.get? b=some u->h'.get? b=some u)
  (ho:∀b,H b=some (.own a)->H' b=some (.own a)) (ht:∀b xs,H b=some (.tup xs)->H' b=some (.tup xs)) (hf:∀(b:Addr)(o':Obj),H b=some (.frz o' (.own a))->H' b=some (.frz o' (.own a)):=by first|exact λ_ _ q=>q|(intro b o' q;rw[zah (zau q (by assumption))];exact q)|(intro b o' q;rw[zah (λz=>by subst z;simp_all)];exact q)):zbr P w H' h' a o:=by
 induction o with
 | lst xs=>obtain⟨z,its,n,r,e⟩:=x;exact⟨z,its,n,r,k _ _ (.inl rfl) e⟩
 | tup xs=>obtain⟨z,its,r,ob,e,c⟩:=x;exact⟨z,its,r,ob,k _ _ (.inl rfl) e,c⟩
 | dK kvs=>obtain⟨z,y,vs,r,ob,es,ep,e,c⟩:=x;exact⟨z,y,vs,r,ob,es,ep,k _ _ (.inl rfl) e,c⟩
 | dT kvs=>
  obtain⟨z,y,xs,r,ob,es,ep,e,c⟩:=x
  exact⟨z,y,xs,Paired.mapP r λp q z=>⟨z.1,ht _ _ z.2.1,z.2.2⟩,ob,es,ep,k _ _ (.inl rfl) e,c⟩
 | set S n=>obtain⟨ob,es,ep,t,e,c⟩:=x;exact⟨ob,es,ep,t,k _ _ (.inl rfl) e,c⟩
 | ins C dx fs=>
  obtain⟨d,z,ne,e,mA,⟨od,es,ep,e2,c⟩,r⟩:=x
  exact⟨ho _ d,z,ne,k _ _ (.inl rfl) e,mA,⟨od,es,ep,k _ _ (.inr d) e2,c⟩,r⟩
 | own y=>obtain⟨ob,e⟩:=x;exact⟨ob,k _ _ (.inl rfl) e⟩
 | xd fs=>obtain⟨mA,⟨od,es,ep,e,c⟩,r⟩:=x;exact⟨mA,⟨od,es,ep,k _ _ (.inl rfl) e,c⟩,r⟩
 | rng lo hi=>obtain⟨t,u,v,e⟩:=x;exact⟨t,u,v,k _ _ (.inl rfl) e⟩
 | frz ob u ih=>obtain⟨e,q⟩:=x;exact⟨k _ _ (.inl rfl) e,ih q⟩
 | tabO q=>
  obtain⟨ps,e,t,c⟩:=x
  exact⟨ps,k _ _ (.inl rfl) e,t,λpos cv hc=>by
   obtain⟨c',o,vs,tt,e1,e2,e3,e5⟩:=c pos cv hc
   exact⟨c',o,vs,tt,e1,e2,hf _ _ e3,e5⟩⟩
 | tbl ps=>
  have e:h.get? a=some {cls:=.none,data:=.fields ps}:=x
  show h'.get? a=some {cls:=.none,data:=.fields ps}
  exact k a _ (.inl rfl) e
 | met f y=>
  have e:h.get? a=some (PySem.W.methodObj (.ref f) (.ref y)):=x
  show h'.get? a=some (PySem.W.methodObj (.ref f) (.ref y))
  exact k a _ (.inl rfl) e
 | ext φ=>obtain⟨p,⟨o,e⟩,st⟩:=x;exact⟨st _ _ p λo q=>k _ _ (.inl rfl) q,⟨o,k _ _ (.inl rfl) e⟩,st⟩
theorem HOk.lt(x:HOk P w H h)(e:H a=some o):a<h.objs.size:=(x a o e).lt
theorem HOk.fresh(x:HOk P w H h)(e:h.objs.size<=a):H a=none:=by
 cases q:H a with
 | none=>rfl
 | some u=>exact absurd (qE (x.lt q) e) (qAA _)
theorem HOk.kept(x:HOk P w H h)(k:∀b u,h.get? b=some u->h'.get? b=some u):HOk P w H h':=λa o e=>
 (x a o e).stay (λb u _ q=>k b u q) (λ_ q=>q) λ_ _ q=>q
theorem HOk.laid(x:HOk P w H h)(k:∀b u,h.get? b=some u->h'.get? b=some u)(hp:h.objs.size<=a)(new:zbr P w (upd H a o) h' a o):HOk P w (upd H a o) h':=λb u e=>by
 have hn:=x.fresh hp
 by_cases hb:b=a
 ·subst hb;rw[zae]at e;cases e;exact new
 ·rw[zah hb]at e
  exact(x b u e).stay (λc v _ q=>k c v q) (λc q=>by rw[zah (zau q hn)];exact q) λc xs q=>by rw[zah (zau q hn)];exact q
end
noncomputable def Rd(H:Hp)(a:Addr)(u:HO):Prop:=H a=some u\/∃o,H a=some (.frz o u)
theorem Rd.ok(r:Rd H a u)(x:HOk P w H h):zbr P w H h a u:=by
 rcases r with r|⟨o,r⟩
 ·exact x a u r
 ·obtain⟨_,q⟩:=x a _ r
  exact q
noncomputable def Mut:Option HO->Prop
 | some (.lst _)=>True
 | some (.dK _)=>True
 | some (.dT _)=>True
 | some (.set _ _)=>True
 | some (.ins _ _ _)=>True
 | some (.ext _)=>True
 | _=>False
section
variable{P:Program}{w:World}{H:Hp}{h h':Heap}{x e:Addr}{o':HO}
theorem HOk.write(ok:HOk P w H h)(mu:Mut (H x))(he:e=x\/H e=some (.own x))(k:∀b u,b≠e->h.get? b=some u->h'.get? b=some u)(heo:∃u,h'.get? e=some u)
  (new:zbr P w (upd H x o') h' x o'):HOk P w (upd H x o') h':=λb u q=>by
 have nown:∀c y,H c=some (.own y)->c≠x:=λc y r z=>by subst z;rw[r]at mu;exact mu
 have ntup:∀c xs,H c=some (.tup xs)->c≠x:=λc xs r z=>by subst z;rw[r]at mu;exact mu
 have nfrz:∀c o2 u2,H c=some (.frz o2 u2)->c≠x:=λc o2 u2 r z=>by subst z;rw[r]at mu;exact mu
 by_cases hb:b=x
 ·subst hb;rw[zae]at q;cases q;exact new
 ·rw[zah hb]at q
  by_cases hbe:b=e
  ·have q':H b=some (.own x):=by
    rcases he with z|z
    ·exact absurd (hbe.trans z) hb
    ·rw[hbe];exact z
   rw[q]at q';cases q'
   obtain⟨v,hv⟩:=heo
   exact⟨v,by rw[hbe];exact hv⟩
  ·refine(ok b u q).stay (λc v hc r=>k c v ?_ r) (λc r=>by rw[zah (nown c b r)];exact r) (λc xs r=>by rw[zah (ntup c xs r)];exact r) (λc o2 r=>by rw[zah (nfrz c o2 _ r)];exact r)
   rcases hc with rfl|hc
   ·exact hbe
   ·rintro rfl
    rcases he with z|z
    ·exact nown c b hc z
    ·rw[hc]at z;cases z;exact hb rfl
end
set_option genInjectivity false in
structure Un(fs ex:List Addr)(H H':Hp)(h h':Heap):Prop where
 keep:∀b o,h.get? b=some o->H b=none->b∉fs->b∉ex->h'.get? b=some o
 slot:∀b o,h.get? b=some o->H b=none->b∈fs->b∉ex->∃sl,h'.get? b=some {o with slots:=sl}
 free:∀b o,h.get? b=some o->H b=none->b∉ex->H' b=none
 there:∀b o,h.get? b=some o->b∉ex->∃o',h'.get? b=some o'
 tups:∀b xs,H b=some (.tup xs)->H' b=some (.tup xs)
 frzs:∀b o u,H b=some (.frz o u)->H' b=some (.frz o u)
 tbls:∀b ps,H b=some (.tbl ps)->∃more,H' b=some (.tbl (ps++more))
section
variable{fs fs' ex ex':List Addr}{H H1 H2:Hp}{h h1 h2 h':Heap}{a x e:Addr}{o:HO}
theorem Un.any(u:Un fs ex H H1 h h1)(q:h.get? b=some ob)(n:H b=none)(hx:b∉ex):∃sl,h1.get? b=some {ob with slots:=sl}:=by
 by_cases hb:b∈fs
 ·exact u.slot b ob q n hb hx
 ·exact⟨ob.slots,u.keep b ob q n hb hx⟩
theorem Un.kept(k:∀b u,h.get? b=some u->h'.get? b=some u):Un fs ex H H h h':=
 ⟨λb ob q _ _ _=>k b ob q,λb ob q _ _ _=>⟨ob.slots,k b ob q⟩,λ_ _ _ n _=>n,λb ob q _=>⟨ob,k b ob q⟩,λ_ _ q=>q,λ_ _ _ q=>q,λ_ ps q=>⟨#[],by rw[q];simp⟩⟩
theorem Un.refl:Un fs ex H H h h:=Un.kept λ_ _ q=>q
theorem Un.laid(k:∀b u,h.get? b=some u->h'.get? b=some u)(hp:h.objs.size<=a)(hn:H a=none):Un fs ex H (upd H a o) h h' where
 keep:=λb u q _ _ _=>k b u q
 slot:=λb u q _ _ _=>⟨u.slots,k b u q⟩
 free:=λb u q n _=>by rw[zah (qj (qE (qD q) hp))];exact n
 there:=λb u q _=>⟨u,k b u q⟩
 tups:=λb xs q=>by rw[zah (zau q hn)];exact q
 frzs:=λb u xs q=>by rw[zah (zau q hn)];exact q
 tbls:=λb ps q=>⟨#[],by rw[zah (zau q hn),q];simp⟩
theorem Un.write(mu:Mut (H x))(he:e=x\/H e=some (.own x))(k:∀b u,b≠e->h.get? b=some u->h'.get? b=some u)(heo:∃u,h'.get? e=some u):Un fs ex H (upd H x o) h h':=by
 have hx:∀b,H b=none->b≠x:=λb n z=>by subst z;rw[n]at mu;exact mu
 have hb:∀b,H b=none->b≠e:=λb n z=>by
  subst z
  rcases he with r|r
  ·exact hx b n r
  ·rw[n]at r;cases r
 have hm:∀b u,H b=some u->¬Mut (some u)->b≠x:=λb u q nm z=>by subst z;rw[q]at mu;exact nm mu
 refine⟨λb u q n _ _=>k b u (hb b n) q,λb u q n _ _=>⟨u.slots,k b u (hb b n) q⟩,λb u q n _=>by rw[zah (hx b n)];exact n,λb u q _=>?_,
  λb xs q=>by rw[zah (hm b _ q λz=>z)];exact q,λb u xs q=>by rw[zah (hm b _ q λz=>z)];exact q,λb ps q=>⟨#[],by rw[zah (hm b _ q λz=>z),q];simp⟩⟩
 by_cases hbe:b=e
 ·subst hbe;exact heo
 ·exact⟨u,k b u hbe q⟩
end
noncomputable def trk(h:Heap)(H:Hp):List Addr:=(List.range h.objs.size).filter λa=>(H a).isSome
noncomputable def hidT(h:Heap)(H:Hp):Heap:=PySem.W.hideAll h (trk h H)
theorem zhh(h:Heap)(H:Hp):(hidT h H).objs.size=h.objs.size:=PySem.W.hideAll_size _ _
theorem zjs{h:Heap}(e:h.get? b=some o)(n:H b=none):(hidT h H).get? b=some o:=
 PySem.W.hideAll_get _ e λhm=>by
  have q:(H b).isSome=true:=(qAn.mp hm).2
  rw[n]at q;simp at q
theorem zls{h:Heap}(e:(hidT h H).get? b=some o):h.get? b=some o/\H b=none:=by
 have e':h.get? b=some o:=PySem.W.of_hideAll (trk h H) e
 refine⟨e',?_⟩
 cases q:H b with
 | none=>rfl
 | some x=>
  have hm:b∈trk h H:=qAn.mpr ⟨qAv.mpr (qD e'),by simp[q]⟩
  have z:(hidT h H).get? b=none:=PySem.W.hideAll_none (trk h H) hm
  rw[z]at e;cases e
set_option genInjectivity false in
structure Mod(K:qA)(mg:Str->Option Value)(base:Heap):Prop where
 kin:K.In base
 glob:base.Ns qV mg
 blt:∃mb,base.Ns builtinsNs mb/\∀x:Str,x≠"__name__"->mb x=bootBuiltins x
 nolimit:base.NoLimit
set_option genInjectivity false in
structure Cx where
 prog:Program
 w:World
 K:qA
 mg:Str->Option Value
 base:Heap
 A:Around
 N:List Str
 s₀:Shared
 H₀:Hp
 env:Env
 outer:List Env
 stack:List Env
 ex:List Addr
 fn:Str->Bool
 calm:Bool
 pn:List (Addr×Obj)
 xe:Value->Shared->Prop
noncomputable def frs(l:List Env):List Addr:=l.filterMap (·.frame)
noncomputable abbrev Cx.fs(X:Cx):List Addr:=frs X.outer
noncomputable def Vis(sc:Scope)(x:Str):Prop:=sc.names.lookup x=some .local\/sc.names.lookup x=some .cell\/sc.names.lookup x=some .free
noncomputable def visB(sc:Scope)(x:Str):Bool:=match sc.names.lookup x with
 | some .local=>true
 | some .cell=>true
 | some .free=>true
 | _=>false
theorem visB.of(h:visB sc x=true):Vis sc x:=by
 unfold visB at h
 cases e:sc.names.lookup x with
 | none=>rw[e]at h;cases h
 | some k=>rw[e]at h;cases k<;>first|exact .inl e|exact .inr (.inl e)|exact .inr (.inr e)|cases h
noncomputable def Loc(sc:Scope)(x:Str):Prop:=sc.names.lookup x=some .local\/sc.names.lookup x=some .cell
noncomputable def Look(env:Env)(h:Heap)(m:Str->Option Value)(x:Str)(u:Value):Prop:=
 (env.kindOf x=some .local/\m x=some u)\/((env.kindOf x=some .cell\/env.kindOf x=some .free)/\∃c,env.cells.lookup x=some c/\h.IsCell c (some u))
set_option genInjectivity false in
structure Cx.Ok(X:Cx):Prop where
 mod:Mod X.K X.mg X.base
 kind:X.env.scope.kind=.function
 glob:X.env.globals=qV
 blt:X.env.builtins=builtinsNs
 above:X.s₀.heap.objs.size<=X.env.locals
 inj:∀x y c,X.env.cells.lookup x=some c->X.env.cells.lookup y=some c->x=y
 has:∀x,(X.env.kindOf x=some .cell\/X.env.kindOf x=some .free)->∃c,X.env.cells.lookup x=some c
 cab:∀x c,X.fn x=true->X.env.cells.lookup x=some c->X.s₀.heap.objs.size<=c
 hd:X.calm=true->X.A.handled=none
 frames:X.A.frames=some X.stack
 stk:X.stack=X.outer\/(X.stack=X.env::X.outer/\X.env.frame=some X.env.locals)
 exf:∀b∈X.ex,b≠X.env.locals/\∀x c,X.env.cells.lookup x=some c->c≠b
 bs:∀b o,X.base.get? b=some o->X.s₀.heap.get? b=some o/\X.H₀ b=none
 bsz:X.base.objs.size<=X.s₀.heap.objs.size
 noex:∀b o,X.base.get? b=some o->b∉X.ex
 exfs:∀b∈X.ex,b∉X.fs
 funs:X.s₀.heap.FunFrames X.base X.outer
 frf:∀b∈X.fs,X.H₀ b=none
set_option genInjectivity false in
structure Inv(X:Cx)(pins:List (Addr×Obj))(σ:List (Option V))(H:Hp)(s:Shared):Prop where
 ok:X.Ok
 os:s.os=X.s₀.os
 bare:AllBare s.gens
 base:Un X.fs X.ex X.H₀ H X.s₀.heap s.heap
 loc:∃m,s.heap.Ns X.env.locals m/\∀(i:Nat)(x:Str)(v:V),X.N[i]?=some x->σ[i]?=some (some v)->Vis X.env.scope x->∃u,RelV v u/\Look X.env s.heap m x u
 cell:∀x c,X.env.cells.lookup x=some c->∃v,s.heap.IsCell c v
 free:H X.env.locals=none
 freeC:∀x c,X.env.cells.lookup x=some c->H c=none
 pin:∀p∈X.pn++pins,s.heap.get? p.1=some p.2/\H p.1=none/\p.1≠X.env.locals/\p.1∉X.fs/\∀v,p.2.data≠.cell v
 hok:HOk X.prog X.w H s.heap
 len:σ.length=X.N.length
section
variable{X:Cx}{pins:List (Addr×Obj)}{σ:List (Option V)}{H H':Hp}{s:Shared}{h':Heap}
theorem Cx.Ok.nofr(ok:X.Ok)(e:X.base.get? b=some o):b∉X.fs:=λhb=>by
 have:=(ok.funs.mem hb).1
 rw[e]at this;cases this
theorem Inv.bs(I:Inv X pins σ H s):∀b o,X.base.get? b=some o->s.heap.get? b=some o/\H b=none:=λb o e=>
 ⟨I.base.keep b o (I.ok.bs b o e).1 (I.ok.bs b o e).2 (I.ok.nofr e) (I.ok.noex b o e),I.base.free b o (I.ok.bs b o e).1 (I.ok.bs b o e).2 (I.ok.noex b o e)⟩
theorem Inv.bk(I:Inv X pins σ H s):∀b o,X.base.get? b=some o->s.heap.get? b=some o:=λb o e=>(I.bs b o e).1
theorem Inv.mod(I:Inv X pins σ H s):Mod X.K X.mg X.base:=I.ok.mod
theorem Inv.kIn(I:Inv X pins σ H s):X.K.In s.heap:=I.ok.mod.kin.keeps I.bk
theorem Inv.fr(I:Inv X pins σ H s):∃m,Fr X.base X.env.locals s.heap m:=
 let⟨m,hn,_⟩:=I.loc
 ⟨m,hn,I.bk,qP I.ok.bsz I.ok.above⟩
theorem Inv.lt(I:Inv X pins σ H s):X.env.locals<s.heap.objs.size:=let⟨_,hn,_⟩:=I.loc;hn.lt
theorem Inv.sz(I:Inv X pins σ H s):X.s₀.heap.objs.size<=s.heap.objs.size:=qP I.ok.above (qAh I.lt)
theorem Inv.nofs(I:Inv X pins σ H s)(h:s.heap.objs.size<=a):a∉X.fs:=λhb=>by
 obtain⟨_,o,ho,_⟩:=I.ok.funs.mem hb
 exact absurd (qE (qD ho) (qP I.sz h)) (qAA _)
theorem Inv.cne(I:Inv X pins σ H s):∀x c,X.env.cells.lookup x=some c->c≠X.env.locals:=λx c e z=>by
 obtain⟨v,o,ho,hd⟩:=I.cell x c e
 obtain⟨m,⟨o',es,ep,ho',hd',_⟩,_⟩:=I.loc
 rw[z,ho']at ho;cases ho;rw[hd']at hd;cases hd
theorem Inv.funs(I:Inv X pins σ H s):s.heap.FunFrames X.base X.outer:=by
 have all:∀(l:List Env),(∀b∈frs l,b∈X.fs)->X.s₀.heap.FunFrames X.base l->s.heap.FunFrames X.base l:=by
  intro l
  induction l with
  | nil=>intro _ _;trivial
  | cons env r ih=>
   intro hs hl
   obtain⟨hk,⟨L,o,hf,hn,ho,hd⟩,hr⟩:=hl
   have hL:L∈X.fs:=hs L (by unfold frs;rw[qAa,hf];exact qf)
   obtain⟨sl,e⟩:=I.base.slot L o ho (I.ok.frf L hL) hL λz=>I.ok.exfs L z hL
   exact⟨hk,⟨L,_,hf,hn,e,hd⟩,ih (λb hb=>hs b (by unfold frs;rw[qAa,hf];exact qC _ hb)) hr⟩
 exact all X.outer (λ_ hb=>hb) I.ok.funs
theorem Inv.stack(I:Inv X pins σ H s):s.heap.FunFrames X.base X.stack:=by
 rcases I.ok.stk with e|⟨e,hf⟩
 ·rw[e];exact I.funs
 ·rw[e]
  obtain⟨m,hn,_⟩:=I.loc
  refine .cons (by rw[I.ok.kind];decide) hf hn ?_ I.funs
  exact qAX (qP I.ok.bsz I.ok.above)
theorem Inv.stkSub(I:Inv X pins σ H s):∀b∈frs X.stack,b∈X.env.locals::X.fs:=λb hb=>by
 rcases I.ok.stk with e|⟨e,hf⟩
 ·rw[e]at hb;exact qC _ hb
 ·rw[e]at hb
  unfold frs at hb
  rw[qAa,hf]at hb
  exact hb
theorem Inv.stkFree(I:Inv X pins σ H s):∀b∈frs X.stack,H b=none:=λb hb=>by
 rcases qg.mp (I.stkSub b hb)with e|hb
 ·rw[e];exact I.free
 ·obtain⟨_,o,ho,_⟩:=I.ok.funs.mem hb
  exact I.base.free b o ho (I.ok.frf b hb) λz=>I.ok.exfs b z hb
theorem Inv.step{g':Array GenState}{t':Nat}{d':Drawn}{ch:List Addr}(I:Inv X pins σ H s)
  (hch:∀b∈ch,(b∈X.ex\/X.s₀.heap.objs.size<=b)/\b≠X.env.locals/\(∀x c,X.env.cells.lookup x=some c->c≠b)/\∀p∈X.pn++pins,p.1≠b)
  (keep:∀b o,b≠X.env.locals->b∉X.fs->b∉ch->s.heap.get? b=some o->H b=none->h'.get? b=some o)
  (slot:∀b o,b≠X.env.locals->b∈X.fs->b∉ch->s.heap.get? b=some o->H b=none->∃sl,h'.get? b=some {o with slots:=sl}) (free:∀b o,b∉ch->s.heap.get? b=some o->H b=none->H' b=none)
  (there:∀b o,b∉ch->s.heap.get? b=some o->∃o',h'.get? b=some o')
  (tups:∀b xs,H b=some (.tup xs)->H' b=some (.tup xs))(frzs:∀b o u,H b=some (.frz o u)->H' b=some (.frz o u))(tbls:∀b ps,H b=some (.tbl ps)->∃more,H' b=some (.tbl (ps++more)))
  (ns:∀m,s.heap.Ns X.env.locals m->h'.Ns X.env.locals m)(hok:HOk X.prog X.w H' h')(hg:AllBare g') :
  Inv X pins σ H' {s with heap:=h',gens:=g',drawn:=d',toks:=t'}:=by
 have neL:∀b o,X.s₀.heap.get? b=some o->b≠X.env.locals:=λb o e=>qj (qE (qD e) I.ok.above)
 have neC:∀b o,X.s₀.heap.get? b=some o->b∉X.ex->b∉ch:=λb o e hx hb=>by
  rcases(hch b hb).1 with z|z
  ·exact hx z
  ·exact absurd (qE (qD e) z) (qAA _)
 have cellK:∀x c,X.env.cells.lookup x=some c->∀v,s.heap.IsCell c v->h'.IsCell c v:=λx c e v ⟨o,ho,hd⟩=>by
  have nch:c∉ch:=λz=>(hch c z).2.2.1 x c e rfl
  by_cases hc:c∈X.fs
  ·obtain⟨sl,q⟩:=slot c o (I.cne x c e) hc nch ho (I.freeC x c e)
   exact⟨_,q,hd⟩
  ·exact⟨o,keep c o (I.cne x c e) hc nch ho (I.freeC x c e),hd⟩
 refine⟨I.ok,I.os,hg,⟨λb o e n hb hx=>?_,λb o e n hb hx=>?_,λb o e n hx=>?_,λb o e hx=>?_,λb xs e=>tups b xs (I.base.tups b xs e),λb o xs e=>frzs b o xs (I.base.frzs b o xs e),λb ps e=>?_⟩,?_,λx c e=>?_,?_,λx c e=>?_,λp hp=>?_,hok,I.len⟩
 ·exact keep b o (neL b o e) hb (neC b o e hx) (I.base.keep b o e n hb hx) (I.base.free b o e n hx)
 ·obtain⟨sl,e1⟩:=I.base.slot b o e n hb hx
  obtain⟨sl',e2⟩:=slot b _ (neL b o e) hb (neC b o e hx) e1 (I.base.free b o e n hx)
  exact⟨sl',e2⟩
 ·obtain⟨o',e1⟩:=I.base.there b o e hx
  exact free b o' (neC b o e hx) e1 (I.base.free b o e n hx)
 ·obtain⟨o',e1⟩:=I.base.there b o e hx
  exact there b o' (neC b o e hx) e1
 ·obtain⟨m1,e1⟩:=I.base.tbls b ps e
  obtain⟨m2,e2⟩:=tbls b _ e1
  exact⟨m1++m2,by rw[e2,Array.append_assoc]⟩
 ·obtain⟨m,hn,hl⟩:=I.loc
  refine⟨m,ns m hn,λi x v e1 e2 e3=>?_⟩
  obtain⟨u,r,l⟩:=hl i x v e1 e2 e3
  refine⟨u,r,?_⟩
  rcases l with l|⟨k,c,e,z⟩
  ·exact .inl l
  ·exact .inr ⟨k,c,e,cellK x c e _ z⟩
 ·obtain⟨v,z⟩:=I.cell x c e
  exact⟨v,cellK x c e v z⟩
 ·obtain⟨m,⟨o,_,_,ho,_⟩,_⟩:=I.loc
  exact free _ o (λz=>(hch _ z).2.1 rfl) ho I.free
 ·obtain⟨v,o,ho,hd⟩:=I.cell x c e
  exact free c o (λz=>(hch c z).2.2.1 x c e rfl) ho (I.freeC x c e)
 ·obtain⟨e,n,ne,nf,d⟩:=I.pin p hp
  have nch:p.1∉ch:=λz=>(hch p.1 z).2.2.2 p hp rfl
  exact⟨keep p.1 p.2 ne nf nch e n,free p.1 p.2 nch e n,ne,nf,d⟩
theorem Inv.un{t':Nat}(I:Inv X pins σ H s)(u:Un X.fs [] H H' s.heap h')(hok:HOk X.prog X.w H' h'):Inv X pins σ H' {s with heap:=h',toks:=t'}:=by
 obtain⟨m,⟨o,es,ep,ho,r⟩,_⟩:=id I.loc
 obtain⟨sl,hL⟩:=u.any ho I.free (by simp)
 exact I.step (g':=s.gens) (d':=s.drawn) (ch:=[]) (λ_ z=>nomatch z) (λb o _ hb _ e n=>u.keep b o e n hb (by simp)) (λb o _ hb _ e n=>u.slot b o e n hb (by simp)) (λb o _ e n=>u.free b o e n (by simp)) (λb o _ e=>u.there b o e (by simp)) u.tups u.frzs u.tbls (λm' hm=>by
  obtain⟨o',es',ep',ho',r'⟩:=hm
  rw[ho]at ho';cases ho'
  exact⟨_,es',ep',hL,r'⟩) hok I.bare
theorem Inv.call{g':Array GenState}{t':Nat}{d':Drawn}{ch:List Addr}(I:Inv X pins σ H s)(u:Un (frs X.stack) ch H H' s.heap h')(hok:HOk X.prog X.w H' h')(hg:AllBare g')
  (hch:∀b∈ch,(b∈X.ex\/X.s₀.heap.objs.size<=b)/\b≠X.env.locals/\(∀x c,X.env.cells.lookup x=some c->c≠b)/\∀p∈X.pn++pins,p.1≠b) :
  Inv X pins σ H' {s with heap:=h',gens:=g',drawn:=d',toks:=t'}:=by
 obtain⟨m,⟨o,es,ep,ho,r⟩,_⟩:=id I.loc
 obtain⟨sl,hL⟩:=u.any ho I.free λz=>(hch _ z).2.1 rfl
 exact I.step (ch:=ch) hch (λb o hL hb hc e n=>u.keep b o e n (λz=>(qg.mp (I.stkSub b z)).elim hL hb) hc) (λb o _ _ hc e n=>u.any e n hc) (λb o hc e n=>u.free b o e n hc) (λb o hc e=>u.there b o e hc) u.tups u.frzs u.tbls (λm' hm=>by
  obtain⟨o',es',ep',ho',r'⟩:=hm
  rw[ho]at ho';cases ho'
  exact⟨_,es',ep',hL,r'⟩) hok hg
theorem Inv.turned{t':Nat}{it:Addr}(I:Inv X pins σ H s)(k:∀b o,b≠it->s.heap.get? b=some o->h'.get? b=some o)(hn:H it=none)(hL:it≠X.env.locals)
  (h1:it∈X.ex\/X.s₀.heap.objs.size<=it) (h2:∀x c,X.env.cells.lookup x=some c->c≠it) (h3:∀p∈X.pn++pins,p.1≠it):Inv X pins σ H {s with heap:=h',toks:=t'}:=by
 have nit:∀b u,H b=some u->b≠it:=λb u e z=>by rw[z,hn]at e;cases e
 refine I.step (g':=s.gens) (d':=s.drawn) (ch:=[it]) (λb hb=>?_) (λb o _ _ hc e _=>k b o (λz=>hc (by simp[z])) e) (λb o _ _ hc e _=>⟨o.slots,k b o (λz=>hc (by simp[z])) e⟩) (λ_ _ _ _ n=>n)
  (λb o hc e=>⟨o,k b o (λz=>hc (by simp[z])) e⟩) (λ_ _ e=>e) (λ_ _ _ e=>e) (λb ps e=>⟨#[],by rw[e];simp⟩) (λm hm=>?_) (λb u e=>?_) I.bare
 ·have e:b=it:=by simpa using hb
  subst e
  exact⟨h1,hL,h2,h3⟩
 ·obtain⟨o,es,ep,ho,r⟩:=hm
  exact⟨o,es,ep,k _ o (qA2 hL) ho,r⟩
 ·refine(I.hok b u e).stay (λc v hc q=>k c v ?_ q) (λ_ q=>q) λ_ _ q=>q
  rcases hc with z|z
  ·rw[z];exact nit b u e
  ·exact nit c _ z
theorem Inv.tok(I:Inv X pins σ H s)(t:Nat):Inv X pins σ H {s with toks:=t}:=I.un (h':=s.heap) (t':=t) Un.refl I.hok
theorem Inv.kept(I:Inv X pins σ H s)(k:∀b u,s.heap.get? b=some u->h'.get? b=some u):Inv X pins σ H {s with heap:=h',toks:=t'}:=I.un (Un.kept k) (I.hok.kept k)
theorem Inv.laid(I:Inv X pins σ H s)(k:∀b u,s.heap.get? b=some u->h'.get? b=some u)(hp:s.heap.objs.size<=a)(new:zbr X.prog X.w (upd H a o) h' a o) :
  Inv X pins σ (upd H a o) {s with heap:=h',toks:=t'}:=I.un (Un.laid k hp (I.hok.fresh hp)) (I.hok.laid k hp new)
theorem Inv.write(I:Inv X pins σ H s)(mu:Mut (H x))(he:e=x\/H e=some (.own x))(k:∀b u,b≠e->s.heap.get? b=some u->h'.get? b=some u)(heo:∃u,h'.get? e=some u)
  (new:zbr X.prog X.w (upd H x o) h' x o):Inv X pins σ (upd H x o) {s with heap:=h',toks:=t'}:=I.un (Un.write mu he k heo) (I.hok.write mu he k heo new)
theorem Inv.pins_of(I:Inv X pins σ H s)(h:∀p∈pins',s.heap.get? p.1=some p.2/\H p.1=none/\p.1≠X.env.locals/\p.1∉X.fs/\∀v,p.2.data≠.cell v):Inv X pins' σ H s:=
 ⟨I.ok,I.os,I.bare,I.base,I.loc,I.cell,I.free,I.freeC,λp hp=>(List.mem_append.mp hp).elim (λz=>I.pin p (qy _ z)) (h p),I.hok,I.len⟩
theorem zfy{N:List Str}(hN:N.Nodup){i j:Nat}{x:Str}(a:N[i]?=some x)(b:N[j]?=some x):i=j:=by
 obtain⟨h1,e1⟩:=qR.mp a
 obtain⟨h2,e2⟩:=qR.mp b
 exact(List.getElem_inj hN).mp (e1.trans e2.symm)
theorem zhi{M:Model}{A:Around}{E:Value->Shared->Prop}{i:Nat}{x:Str}{v:V}{u:Value}{Q:Unit->Shared->Prop}(I:Inv X pins σ H s)(hN:X.N.Nodup)(hi:X.N[i]?=some x)(hx:Loc X.env.scope x)(r:RelV v u)
  (h:∀s',Inv X pins (σ.set i (some v)) H s'->(∃a,Heap.SameBut a s.heap s'.heap/\(a=X.env.locals\/X.env.cells.lookup x=some a))->Q () s') (hf:X.fn x=true\/X.env.scope.names.lookup x=some .local:=by assumption):wpAny M A (storeName X.env x u) Q E s:=by
 obtain⟨m,hn,hl⟩:=id I.loc
 have hcls:(X.env.scope.kind==.class||(X.env.scope.kind==.module&&X.env.locals != X.env.globals))=false:=by rw[I.ok.kind];rfl
 have hiσ:i<σ.length:=by rw[I.len];exact(qR.mp hi).1
 have cne:=I.cne
 have tracked:∀{a:Addr}{h':Heap},(∃o,s.heap.get? a=some o/\H a=none)->Heap.SameBut a s.heap h'->HOk X.prog X.w H h':=λ{a h'} ha hs b ob e=>by
  obtain⟨_,_,hfree⟩:=ha
  refine(I.hok b ob e).stay (λc w' hc q=>(hs.2 c ?_).trans q) (λ_ q=>q) λ_ _ q=>q
  rintro rfl
  rcases hc with rfl|hc
  ·rw[hfree]at e;cases e
  ·rw[hfree]at hc;cases hc
 rcases hx with hk|hk
 ·refine wpAny_storeName_local hk hn (λh' hn' hs=>?_) hcls
  obtain⟨oL,_,_,hoL,_⟩:=id hn
  refine h _ ⟨I.ok,I.os,I.bare,⟨λb o e n hb hx=>?_,λb o e n hb hx=>?_,I.base.free,λb o e hx=>?_,I.base.tups,I.base.frzs,I.base.tbls⟩,⟨_,hn',λj y v' e1 e2 e3=>?_⟩,λy c e=>?_,I.free,I.freeC,λp hp=>?_,tracked ⟨oL,hoL,I.free⟩ hs,by simpa using I.len⟩ ⟨_,hs,.inl rfl⟩
  ·exact(hs.2 b (qj (qE (qD e) I.ok.above))).trans (I.base.keep b o e n hb hx)
  ·obtain⟨sl,e1⟩:=I.base.slot b o e n hb hx
   exact⟨sl,(hs.2 b (qj (qE (qD e) I.ok.above))).trans e1⟩
  ·obtain⟨o',e1⟩:=I.base.there b o e hx
   exact⟨o',(hs.2 b (qj (qE (qD e) I.ok.above))).trans e1⟩
  ·by_cases hj:j=i
   ·subst hj
    rw[hi]at e1;cases e1
    rw[qm hiσ]at e2
    cases e2
    exact⟨u,r,.inl ⟨hk,by simp⟩⟩
   ·rw[qz (qA2 hj)]at e2
    obtain⟨u',r',q⟩:=hl j y v' e1 e2 e3
    refine⟨u',r',?_⟩
    rcases q with⟨k,e⟩|⟨k,c,e,z⟩
    ·refine .inl ⟨k,?_⟩
     have:y≠x:=λe=>hj (zfy hN e1 (e▸hi))
     simp[this,e]
    ·exact .inr ⟨k,c,e,z.sameBut hs (cne y c e)⟩
  ·obtain⟨w',z⟩:=I.cell y c e
   exact⟨w',z.sameBut hs (cne y c e)⟩
  ·obtain⟨e,n,ne,nf,d⟩:=I.pin p hp
   exact⟨(hs.2 p.1 ne).trans e,n,ne,nf,d⟩
 ·have hfn:X.fn x=true:=by
   rcases hf with z|z
   ·exact z
   ·rw[z]at hk;cases hk
  obtain⟨c,hc⟩:=I.ok.has x (.inl hk)
  obtain⟨w',z⟩:=I.cell x c hc
  refine wpAny_storeName_cell I.ok.kind hk hc z (λh' hc' hs=>?_)
  obtain⟨oc,hoc,hocd⟩:=id z
  refine h {s with heap:=h'} ⟨I.ok,I.os,I.bare,⟨λb o e n hb hx=>?_,λb o e n hb hx=>?_,I.base.free,λb o e hx=>?_,I.base.tups,I.base.frzs,I.base.tbls⟩,⟨m,hn.sameBut hs (qA2 (cne x c hc)),λj y v' e1 e2 e3=>?_⟩,λy c' e=>?_,I.free,I.freeC,λp hp=>?_,tracked ⟨oc,hoc,I.freeC x c hc⟩ hs,by simpa using I.len⟩ ⟨c,hs,.inr hc⟩
  ·exact(hs.2 b (qj (qE (qD e) (I.ok.cab x c hfn hc)))).trans (I.base.keep b o e n hb hx)
  ·obtain⟨sl,e1⟩:=I.base.slot b o e n hb hx
   exact⟨sl,(hs.2 b (qj (qE (qD e) (I.ok.cab x c hfn hc)))).trans e1⟩
  ·obtain⟨o',e1⟩:=I.base.there b o e hx
   exact⟨o',(hs.2 b (qj (qE (qD e) (I.ok.cab x c hfn hc)))).trans e1⟩
  ·by_cases hj:j=i
   ·subst hj
    rw[hi]at e1;cases e1
    rw[qm hiσ]at e2
    cases e2
    exact⟨u,r,.inr ⟨.inl hk,c,hc,hc'⟩⟩
   ·rw[qz (qA2 hj)]at e2
    obtain⟨u',r',q⟩:=hl j y v' e1 e2 e3
    refine⟨u',r',?_⟩
    rcases q with q|⟨k,c',e,z'⟩
    ·exact .inl q
    ·refine .inr ⟨k,c',e,z'.sameBut hs ?_⟩
     rintro rfl
     exact hj (zfy hN e1 (I.ok.inj _ _ _ e hc▸hi))
  ·by_cases hcc:c'=c
   ·subst hcc;exact⟨_,hc'⟩
   ·obtain⟨w2,z2⟩:=I.cell y c' e
    exact⟨w2,z2.sameBut hs hcc⟩
  ·obtain⟨e,n,ne,nf,d⟩:=I.pin p hp
   refine⟨(hs.2 p.1 ?_).trans e,n,ne,nf,d⟩
   intro q
   rw[q,hoc]at e
   have q':oc=p.2:=qN e
   exact d w' (by rw[<- q'];exact hocd)
theorem zfz{E:Value->Shared->Prop}{Q:Unit->Shared->Prop}(I:Inv X pins σ H s)(hN:X.N.Nodup)(hi:X.N[i]?=some x)(hx:Loc X.env.scope x)(r:RelV v u)
  (h:∀s',Inv X pins (σ.set i (some v)) H s'->Q () s') (hf:X.fn x=true\/X.env.scope.names.lookup x=some .local:=by assumption):wpAny M A (storeName X.env x u) Q E s:=
 zhi I hN hi hx r (λs' I' _=>h s' I') hf
end
noncomputable abbrev XK:=Value->Option Addr->Hp->Prop
noncomputable abbrev St:=List (Option V)
noncomputable abbrev VK:=V->Hp->Prop
noncomputable abbrev TE:=St->Hp->VK->Prop
noncomputable abbrev TT:=St->Hp->(Bool->Hp->Prop)->Prop
noncomputable abbrev TA:=St->Hp->(List V->Hp->Prop)->Prop
set_option genInjectivity false in
structure Ends where
 nx:St->Hp->Prop
 rt:VK
 bk:St->Hp->Prop:=λ_ _=>False
 ct:St->Hp->Prop:=λ_ _=>False
noncomputable abbrev TS:=Ends->St->Hp->Prop
noncomputable def EP(X:Cx)(pins:List (Addr×Obj))(σ:St)(Q:VK)(u:Value)(s':Shared):Prop:=∃v H',Inv X pins σ H' s'/\RelV v u/\Q v H'
noncomputable def TP(X:Cx)(pins:List (Addr×Obj))(σ:St)(Q:Bool->Hp->Prop)(b:Bool)(s':Shared):Prop:=∃H',Inv X pins σ H' s'/\Q b H'
noncomputable def AP(X:Cx)(pins:List (Addr×Obj))(σ:St)(Q:List V->Hp->Prop)(us:List Value)(s':Shared):Prop:=∃vs H',Inv X pins σ H' s'/\Vals vs us/\Q vs H'
noncomputable def SP(X:Cx)(pins:List (Addr×Obj))(D:Ends)(f:Flow)(s':Shared):Prop:=
 match f with
 | .next=>∃σ' H',Inv X pins σ' H' s'/\D.nx σ' H'
 | .brk=>∃σ' H',Inv X pins σ' H' s'/\D.bk σ' H'
 | .cont=>∃σ' H',Inv X pins σ' H' s'/\D.ct σ' H'
 | .ret u=>∃v σ' H',Inv X pins σ' H' s'/\RelV v u/\D.rt v H'
noncomputable def PE(X:Cx)(e:Expr)(t:TE):Prop:=
 ∀(pins:List (Addr×Obj))(s:Shared)(σ:St)(H:Hp)(Q:VK),Inv X pins σ H s->t σ H Q->wpAny (model X.prog X.w) X.A (eval e X.env) (EP X pins σ Q) X.xe s
noncomputable def PT(X:Cx)(e:Expr)(t:TT):Prop:=
 ∀(pins:List (Addr×Obj))(s:Shared)(σ:St)(H:Hp)(Q:Bool->Hp->Prop),Inv X pins σ H s->t σ H Q->wpAny (model X.prog X.w) X.A (isTrue e X.env (eval e X.env)) (TP X pins σ Q) X.xe s
noncomputable def PW(X:Cx)(e:Expr)(t:TT):Prop:=
 ∀(whole:Sem Value)(pins:List (Addr×Obj))(s:Shared)(σ:St)(H:Hp)(Q:Bool->Hp->Prop),Inv X pins σ H s->t σ H Q->wpAny (model X.prog X.w) X.A (isTrue e X.env whole) (TP X pins σ Q) X.xe s
theorem PW.pt(h:PW X e t):PT X e t:=h _
noncomputable def PA(X:Cx)(es:List Expr)(t:TA):Prop:=
 ∀(pos:Pos)(pins:List (Addr×Obj))(s:Shared)(σ:St)(H:Hp)(Q:List V->Hp->Prop),Inv X pins σ H s->t σ H Q->wpAny (model X.prog X.w) X.A (spliced (backTo pos (starEach es X.env))) (AP X pins σ Q) X.xe s
noncomputable def PS(X:Cx)(st:Stmt)(t:TS):Prop:=
 ∀(pins:List (Addr×Obj))(s:Shared)(σ:St)(H:Hp)(D:Ends),Inv X pins σ H s->t D σ H->wpAny (model X.prog X.w) X.A (exec st X.env) (SP X pins D) X.xe s
noncomputable def PSs(X:Cx)(st:List Stmt)(t:TS):Prop:=
 ∀(pins:List (Addr×Obj))(s:Shared)(σ:St)(H:Hp)(D:Ends),Inv X pins σ H s->t D σ H->wpAny (model X.prog X.w) X.A (execs st X.env) (SP X pins D) X.xe s
theorem thn{Q Q':α->Shared->Prop}{E:Value->Shared->Prop}(h:wpAny M A t Q E s)(hQ:∀a s,Q a s->Q' a s):wpAny M A t Q' E s:=qAr h hQ λ_ _ x=>x
section
variable{X:Cx}
theorem bin(ha:PE X a ta)(hb:PE X b tb){R:V->V->Hp->Prop}(I:Inv X pins σ H s)(h:ta σ H λx H1=>tb σ H1 λy H2=>R x y H2)
  {Q:α->Shared->Prop}{f:Value->Value->Sem α}
  (hf:∀v u s2 x y H2,Inv X pins σ H2 s2->RelV x v->RelV y u->R x y H2->wpAny (model X.prog X.w) X.A (f v u) Q X.xe s2) :
  wpAny (model X.prog X.w) X.A (eval a X.env) (λv s₁=>wpAny (model X.prog X.w) X.A (eval b X.env) (λu s₂=>wpAny (model X.prog X.w) X.A (f v u) Q X.xe s₂) X.xe s₁) X.xe s:=by
 refine thn (ha pins s σ H _ I h) λv s1 ⟨x,H1,I1,r1,q1⟩=>?_
 refine thn (hb pins s1 σ H1 _ I1 q1) λu s2 ⟨y,H2,I2,r2,q2⟩=>?_
 exact hf v u s2 x y H2 I2 r1 r2 q2
noncomputable def tVar(i:Nat):TE:=λσ H Q=>∃v,σ[i]?=some (some v)/\Q v H
noncomputable def tC(v:V):TE:=λ_ H Q=>Q v H
theorem zla(hN:X.N[i]?=some x)(hv:Vis X.env.scope x)(hd:(x==("__debug__":Str))=false:=by decide)(hcd:(x==("__classdict__":Str))=false:=by decide):PE X (.Name x pos) (tVar i):=by
 intro pins s σ H Q I h
 obtain⟨v,e,h⟩:=h
 obtain⟨m,hn,hl⟩:=I.loc
 obtain⟨u,r,l⟩:=hl i x v hN e hv
 have fin:EP X pins σ Q u s:=⟨v,H,I,r,h⟩
 rcases l with⟨hk,hm⟩|⟨hk,c,hc,hcell⟩
 ·exact wpAny_Name (wpAny_loadName_local I.ok.kind hk hn hm fin) hd
 ·rcases hk with hk|hk
  ·exact wpAny_Name (wpAny_loadName_cell I.ok.kind hk hc hcell fin) hd
  ·exact wpAny_Name (wpAny_loadName_free I.ok.kind hk hc hcell fin hcd) hd
theorem zns{i j pos}:PE X (.Constant (.int i) j pos) (tC (.int i)):=λ_ _ _ H _ I h=>wpAny_Constant_int ⟨.int i,H,I.tok _,⟨_,rfl⟩,h⟩
theorem zpv{b j pos}:PE X (.Constant (.bool b) j pos) (tC (.bl b)):=λ_ _ _ H _ I h=>Constant_bool ⟨.bl b,H,I,rfl,h⟩
theorem znt{j pos}:PE X (.Constant .none j pos) (tC .non):=λ_ _ _ H _ I h=>Constant_none ⟨.non,H,I,rfl,h⟩
theorem znu{x j pos}:PE X (.Constant (.str x) j pos) (tC (.str x)):=λ_ _ _ H _ I h=>qBA ⟨.str x,H,I.tok _,⟨_,rfl⟩,h⟩
noncomputable def Gl(X:Cx)(x:Str):Prop:=X.env.kindOf x=some .globalImplicit
theorem zfb{E:Value->Shared->Prop}{Q:Value->Shared->Prop}(I:Inv X pins σ H s)(hg:Gl X x)(hm:X.mg x=some u)(h:Q u s)
  (hd:(x==("__debug__":Str))=false:=by decide):wpAny (model X.prog X.w) X.A (eval (.Name x pos) X.env) Q E s:=
 qAp I.ok.kind hg (Calls.loadGlobal_global (by rw[I.ok.glob];exact I.mod.glob.keeps I.bk) hm h) hd
theorem zga{E:Value->Shared->Prop}{Q:Value->Shared->Prop}(I:Inv X pins σ H s)(hg:Gl X x)(hm:X.mg x=none)(hv:bootBuiltins x=some u)(h:Q u s)
  (hn:x≠"__name__":=by decide) (hd:(x==("__debug__":Str))=false:=by decide):wpAny (model X.prog X.w) X.A (eval (.Name x pos) X.env) Q E s:=by
 obtain⟨mb,h1,h2⟩:=I.mod.blt
 exact qAp I.ok.kind hg (Calls.loadGlobal_builtin (by rw[I.ok.glob];exact I.mod.glob.keeps I.bk) hm (by rw[I.ok.blt];exact h1.keeps I.bk) ((h2 x hn).trans hv) h) hd
theorem zlt(hg:Gl X x)(hm:X.mg x=none)(hv:bootBuiltins x=some u)(r:RelV v u)(hn:x≠"__name__":=by decide)(hd:(x==("__debug__":Str))=false:=by decide):PE X (.Name x pos) (tC v):=
 λ_ _ _ H _ I h=>zga I hg hm hv ⟨v,H,I,r,h⟩ hn hd
variable{a b:Expr}{ta tb:TE}{pos:Pos}
variable{tA tB':TT}{rest:List Expr}
noncomputable def tOr(t u:TT):TT:=λσ H Q=>t σ H λc H1=>if c=true then Q true H1 else u σ H1 Q
noncomputable def tNot(t:TT):TT:=λσ H Q=>t σ H λc H1=>Q (!c) H1
theorem znv(ha:PT X a tA):PW X (.BoolOp .Or [a] pos) tA:=by
 intro wh pins s σ H Q I h
 refine isTrue_or (thn (ha pins s σ H Q I h) λc s1 e=>?_)
 cases c with
 | false=>exact isTrue_or_nil e
 | true=>exact e
theorem zpw(ha:PT X a tA)(hb:PW X (.BoolOp .Or (b::rest) pos) tB'):PW X (.BoolOp .Or (a::b::rest) pos) (tOr tA tB'):=by
 intro wh pins s σ H Q I h
 refine isTrue_or (thn (ha pins s σ H _ I h) λc s1 ⟨H1,I1,q1⟩=>?_)
 cases c with
 | true=>exact⟨H1,I1,q1⟩
 | false=>exact hb wh pins s1 σ H1 Q I1 q1
theorem znw(ha:PT X a tA):PT X (.UnaryOp .Not a pos) (tNot tA):=by
 intro pins s σ H Q I h
 exact isTrue_not (ha pins s σ H (λc H1=>Q (!c) H1) I h)
end
noncomputable def SqL(K:qA)(H:Hp)(a:Addr)(xs:List V):Prop:=
 Rd H a (.lst xs)\/
  ∃(o:Obj)(its:Array Value)(n:Nat),K.lookup a=some o/\o.cls=.type "list"/\o.dict=none/\o.data=.seq its n/\its.size<=qH/\Vals xs its.toList
noncomputable def SqT(K:qA)(H:Hp)(a:Addr)(xs:List V):Prop:=
 Rd H a (.tup xs)\/
  ∃(o:Obj)(its:Array Value)(n:Nat),K.lookup a=some o/\o.cls=.type "tuple"/\o.data=.seq its n/\its.size<=qH/\Vals xs its.toList
section
variable{X:Cx}{pins:List (Addr×Obj)}{σ:St}{H:Hp}{s:Shared}{a:Addr}{xs ys:List V}
theorem SqL.of{K:qA}(h:H a=some (.lst xs)):SqL K H a xs:=.inl (.inl h)
theorem SqT.of{K:qA}(h:H a=some (.tup xs)):SqT K H a xs:=.inl (.inl h)
theorem Inv.list(I:Inv X pins σ H s)(h:SqL X.K H a xs):∃its:List Value,Vals xs its/\PlainL s.heap a its.toArray/\xs.length<=qH:=by
 rcases h with h|⟨o,its,n,hk,hc,hd,hs,hz,r⟩
 ·obtain⟨z,its,n,r,e⟩:=h.ok I.hok
  exact⟨its,r,⟨_,n,e,rfl,rfl,rfl⟩,z⟩
 ·refine⟨its.toList,r,⟨o,n,I.kIn a o hk,hc,hd,by simpa using hs⟩,?_⟩
  have e:=r.length
  simp only[qA6]at e
  omega
theorem Inv.tuple(I:Inv X pins σ H s)(h:SqT X.K H a xs):∃its:List Value,Vals xs its/\IsTup s.heap a its.toArray/\xs.length<=qH:=by
 rcases h with h|⟨o,its,n,hk,hc,hs,hz,r⟩
 ·obtain⟨z,its,r,p⟩:=h.ok I.hok
  exact⟨its,r,p,z⟩
 ·refine⟨its.toList,r,⟨o,I.kIn a o hk,hc,n,by simpa using hs⟩,?_⟩
  have e:=r.length
  simp only[qA6]at e
  omega
end
noncomputable abbrev Cx.wish(X:Cx)(E:Value->Shared->Prop):Cx:={X with xe:=E}
noncomputable abbrev Cx.nox(X:Cx):Cx:=X.wish λ_ _=>False
theorem Cx.Ok.wish{X:Cx}(ok:X.Ok)(E:Value->Shared->Prop):(X.wish E).Ok:=
 ⟨ok.mod,ok.kind,ok.glob,ok.blt,ok.above,ok.inj,ok.has,ok.cab,ok.hd,ok.frames,ok.stk,ok.exf,ok.bs,ok.bsz,ok.noex,ok.exfs,ok.funs,ok.frf⟩
theorem Cx.Ok.unwish{X:Cx}{E:Value->Shared->Prop}(ok:(X.wish E).Ok):X.Ok:=
 ⟨ok.mod,ok.kind,ok.glob,ok.blt,ok.above,ok.inj,ok.has,ok.cab,ok.hd,ok.frames,ok.stk,ok.exf,ok.bs,ok.bsz,ok.noex,ok.exfs,ok.funs,ok.frf⟩
section
variable{X:Cx}{pins:List (Addr×Obj)}{σ:St}{H:Hp}{s:Shared}{E:Value->Shared->Prop}
theorem Inv.wish(I:Inv X pins σ H s)(E:Value->Shared->Prop):Inv (X.wish E) pins σ H s:=⟨I.ok.wish E,I.os,I.bare,I.base,I.loc,I.cell,I.free,I.freeC,I.pin,I.hok,I.len⟩
theorem Inv.unwish(I:Inv (X.wish E) pins σ H s):Inv X pins σ H s:=⟨I.ok.unwish,I.os,I.bare,I.base,I.loc,I.cell,I.free,I.freeC,I.pin,I.hok,I.len⟩
theorem SP.unwish(h:SP (X.wish E) pins D f s'):SP X pins D f s':=by
 cases f with
 | next=>obtain⟨σ',H',I,q⟩:=h;exact⟨σ',H',I.unwish,q⟩
 | brk=>obtain⟨σ',H',I,q⟩:=h;exact⟨σ',H',I.unwish,q⟩
 | cont=>obtain⟨σ',H',I,q⟩:=h;exact⟨σ',H',I.unwish,q⟩
 | ret u=>obtain⟨v,σ',H',I,r,q⟩:=h;exact⟨v,σ',H',I.unwish,r,q⟩
theorem PSs.nox{st:List Stmt}{t:TS}(h:PSs X.nox st t):PSs X st t:=λpins s σ H D I hw=>
 qAr (h pins s σ H D (I.wish _) hw) (λ_ _ q=>q.unwish) λ_ _ z=>False.elim z
end
section
variable{X:Cx}{st:Stmt}{rest:List Stmt}{t u:TS}{e:Expr}{te:TE}{pos:Pos}
noncomputable def tNext:TS:=λD σ H=>D.nx σ H
noncomputable def tSeq(t u:TS):TS:=λD σ H=>t {D with nx:=u D} σ H
theorem zlu:PSs X [] tNext:=λ_ _ σ H _ I h=>qAy ⟨σ,H,I,h⟩
theorem zgb(h1:PS X st t)(h2:PSs X rest u):PSs X (st::rest) (tSeq t u):=by
 intro pins s σ H D I h
 refine wpAny_execs_cons (thn (h1 pins s σ H {D with nx:=u D} I h) λf s1 q=>?_)
 cases f with
 | next=>
  obtain⟨σ',H',I',q⟩:=q
  exact h2 pins s1 σ' H' D I' q
 | ret v=>exact q
 | brk=>exact q
 | cont=>exact q
theorem zhj(h1:PS X st t):PSs X [st] t:=by
 intro pins s σ H D I h
 refine wpAny_execs_cons (thn (h1 pins s σ H D I h) λf s1 q=>?_)
 cases f with
 | next=>exact qAy q
 | ret v=>exact q
 | brk=>exact q
 | cont=>exact q
theorem Inv.quiet(I:Inv X pins σ H s):interactive X.env=false:=by simp[interactive,I.ok.kind]
noncomputable def znx(te:TE):TS:=λD σ H=>te σ H λ_ H1=>D.nx σ H1
theorem zlv(he:PE X e te)(hs:swapsWith e none pos.line X.env=pure false:=by rfl):PS X (.Expr e pos) (znx te):=by
 intro pins s σ H D I h
 exact wpAny_Expr_any (thn (he pins s σ H _ I h) λv s1 ⟨x,H1,I1,r1,q1⟩=>⟨σ,H1,I1,q1⟩) I.quiet hs
noncomputable def tRet(te:TE):TS:=λD σ H=>te σ H D.rt
theorem zny(he:PE X e te):PS X (.Return (some e) pos) (tRet te):=by
 intro pins s σ H D I h
 exact wpAny_Return_some (thn (he pins s σ H _ I h) λv s1 ⟨x,H1,I1,r1,q1⟩=>⟨x,σ,H1,I1,r1,q1⟩)
noncomputable def tIfS(c:TT)(t u:TS):TS:=λD σ H=>c σ H λb H1=>if b=true then t D σ H1 else u D σ H1
theorem zpx(hc:PT X c tc)(ha:PSs X a t)(hb:PSs X b u):PS X (.If c a b pos) (tIfS tc t u):=by
 intro pins s σ H D I h
 refine wpAny_If (thn (hc pins s σ H _ I h) λd s1 ⟨H1,I1,q1⟩=>?_)
 cases d with
 | true=>exact ha pins s1 σ H1 D I1 q1
 | false=>exact hb pins s1 σ H1 D I1 q1
end
noncomputable abbrev TG:=V->St->Hp->(St->Hp->Prop)->Prop
noncomputable def PG(X:Cx)(target:Expr)(t:TG):Prop:=
 ∀(pins:List (Addr×Obj))(s:Shared)(σ:St)(H:Hp)(v:V)(u:Value)(Q:St->Hp->Prop),Inv X pins σ H s->RelV v u->t v σ H Q->
  wpAny (model X.prog X.w) X.A (assign target X.env u) (λ_ s'=>∃σ' H',Inv X pins σ' H' s'/\Q σ' H') X.xe s
section
variable{X:Cx}{pos:Pos}
noncomputable def gName(i:Nat):TG:=λv σ H Q=>Q (σ.set i (some v)) H
theorem zlw(hN:X.N.Nodup)(hi:X.N[i]?=some x)(hx:Loc X.env.scope x)(hf:X.fn x=true\/X.env.scope.names.lookup x=some .local:=by assumption):PG X (.Name x pos) (gName i):=by
 intro pins s σ H v u Q I r h
 exact wpAny_assign_Name (zfz I hN hi hx r (λs' I'=>⟨_,H,I',h⟩) hf)
noncomputable def tAsg(te:TE)(g:TG):TS:=λD σ H=>te σ H λx H1=>g x σ H1 D.nx
theorem znz(hN:X.N.Nodup)(hi:X.N[i]?=some x)(hx:Loc X.env.scope x)(he:PE X e te)(hs:swapsWith e (some (.Name x pos')) pos.line X.env=pure false:=by rfl)(hf:X.fn x=true\/X.env.scope.names.lookup x=some .local:=by assumption) :
  PS X (.Assign [.Name x pos'] e pos) (tAsg te (gName i)):=by
 intro pins s σ H D I h
 refine wpAny_Assign_Name (thn (he pins s σ H _ I h) λv s1 ⟨y,H1,I1,r1,q1⟩=>?_) hs
 exact zfz I1 hN hi hx r1 (λs2 I2=>⟨_,H1,I2,q1⟩) hf
end
set_option genInjectivity false in
structure It where
 go:Nat->Hp->Prop
 yld:Nat->Hp->V->Hp->Prop
 stop:Nat->Hp->Prop
noncomputable def FpOk(X:Cx)(pins:List (Addr×Obj))(H:Hp)(b:Addr):Prop:=
 H b=none/\b≠X.env.locals/\b∉X.fs/\(b∈X.ex\/X.s₀.heap.objs.size<=b)/\(∀x c,X.env.cells.lookup x=some c->c≠b)/\∀p∈X.pn++pins,p.1≠b
theorem Inv.fpOk{s:Shared}(I:Inv X pins σ H s)(hb:s.heap.objs.size<=b)(hn:H' b=none):FpOk X pins H' b:=by
 refine⟨hn,Nat.ne_of_gt (qE I.lt hb),I.nofs hb,.inr (qP I.sz hb),λx c e z=>?_,λp hp z=>?_⟩
 ·obtain⟨v,q⟩:=I.cell x c e
  exact absurd (qE q.lt (by rw[z];exact hb)) (qAA _)
 ·exact absurd (qE (qD (I.pin p hp).1) (by rw[z];exact hb)) (qAA _)
set_option genInjectivity false in
structure Turn(P:Program)(w:World)(K:qA)(tg:Expr)(J:It)(fp:List Addr)(it:Addr)(tn:Nat->Heap->Prop):Prop where
 mem:it∈fp
 obj:∀i h,tn i h->∀b∈fp,∃o,h.get? b=some o/\∀v,o.data≠.cell v
 keep:∀i h h',tn i h->(∀b∈fp,∀o,h.get? b=some o->h'.get? b=some o)->tn i h'
 item:∀(X:Cx),X.prog=P->X.w=w->X.K=K->X.calm=true->∀(i:Nat)(pins:List (Addr×Obj))(s:Shared)(σ:St)(H:Hp)(E:Value->Shared->Prop),Inv X pins σ H s->(∀b∈fp,FpOk X pins H b)->tn i s.heap->J.go i H->
  wpAny (model P w) X.A (pyNext (.ref it)) (λr s1=>∃u,r=some u/\
   wpAny (model P w) X.A (letOwnedTupleGo tg (.ref it) u) (λ_ s2=>∃x H',Inv X pins σ H' s2/\RelV x u/\J.yld i H x H'/\tn (i+1) s2.heap/\∀b∈fp,H' b=none) E s1) E s
 done:∀(X:Cx),X.prog=P->X.w=w->X.K=K->X.calm=true->∀(i:Nat)(pins:List (Addr×Obj))(s:Shared)(σ:St)(H:Hp)(E:Value->Shared->Prop),Inv X pins σ H s->(∀b∈fp,FpOk X pins H b)->tn i s.heap->J.stop i H->
  wpAny (model P w) X.A (pyNext (.ref it)) (λr s1=>r=none/\Inv X pins σ H s1) E s
 self:∀(A:Around)(i:Nat)(s:Shared)(Q:Value->Shared->Prop)(E:Value->Shared->Prop),tn i s.heap->Q (.ref it) s->wpAny (model P w) A (pyIter (.ref it)) Q E s
noncomputable abbrev TI:=St->Hp->(It->Hp->Prop)->Prop
noncomputable def PIE(X:Cx)(pins:List (Addr×Obj))(σ:St)(tg:Expr)(R:It->Hp->Prop)(itv:Value)(s2:Shared):Prop:=
 ∃(it:Addr)(fp:List Addr)(tn:Nat->Heap->Prop)(J:It)(H':Hp),itv=.ref it/\Inv X pins σ H' s2/\Turn X.prog X.w X.K tg J fp it tn/\tn 0 s2.heap/\(∀b∈fp,FpOk X pins H' b)/\R J H'
noncomputable def PI(X:Cx)(tg iter:Expr)(wi:TI):Prop:=
 ∀(pins:List (Addr×Obj))(s:Shared)(σ:St)(H:Hp)(R:It->Hp->Prop),Inv X pins σ H s->wi σ H R->
  wpAny (model X.prog X.w) X.A (eval iter X.env) (λv s1=>wpAny (model X.prog X.w) X.A (pyIter v) (PIE X pins σ tg R) X.xe s1) X.xe s
theorem zpy{E:Value->Shared->Prop}{s:Shared}{o:Obj}{Q:Unit->Shared->Prop}(ho:s.heap.get? it=some o)(hc:o.cls=.type n)(hd:o.data=.fields vs)
  (hn:["enumerate","zip","dict_itemiterator","dict_reverseitemiterator","odict_iterator","itertools.zip_longest","itertools.pairwise"].contains n=false) (hQ:Q () s):wpAny M A (letOwnedTupleGo tg (.ref it) u) Q E s:=by
 unfold letOwnedTupleGo
 cases tg<;>first
  | exact ql hQ
  | (cases u<;>first
    | exact ql hQ
    | (refine qS (wpAny_load ho ?_)
       rw[hc,hd]
       show wpAny M A (if(["enumerate","zip","dict_itemiterator","dict_reverseitemiterator","odict_iterator","itertools.zip_longest","itertools.pairwise"].contains n&&vs[0]?==some (rawInt _))=true then _ else _) Q E s
       rw[if_neg (by intro h;rw[hn,Bool.false_and]at h;cases h)]
       exact ql hQ))
noncomputable def Itr(lo:Int)(n:Nat):It:=⟨λi _=>i<n,λi H x H'=>H'=H/\x=.int (lo+i),λi _=>n<=i⟩
theorem zgr{P:Program}{w:World}{K:qA}{tg:Expr}(it:Addr)(lo:Int)(n:Nat):Turn P w K tg (Itr lo n) [it] it (λi h=>IsRangeIter h it (lo+(i:Nat) * 1) ((n:Int) - (i:Nat)) 1) where
 mem:=by simp
 obj:=λi h st b hb=>by
  have e:b=it:=by simpa using hb
  subst e
  exact⟨_,st,λv z=>by
   have z':Data.fields _=Data.cell v:=z
   cases z'⟩
 keep:=λi h h' st k=>k it (by simp) _ st
 item:=by
  intro X hP hw hK hc i pins s σ H E I hf st hg
  subst hP hw hK
  obtain⟨f0,f1,f2,f3,f4,f5⟩:=hf it (by simp)
  have W:=Walks.range (prog:=X.prog) (w:=X.w) (I.ok.hd hc) it lo 1 n
  refine W.item i s _ _ hg st λv h' tk hv st' kk=>?_
  obtain⟨t,rfl⟩:=hv
  have I1:Inv X pins σ H {s with heap:=h',toks:=tk}:=I.turned (λb o hb e=>kk b o (by simpa using hb) e) f0 f1 f3 f4 f5
  refine⟨_,rfl,zpy (s:={s with heap:=h',toks:=tk}) (n:="range_iterator") st' rfl rfl (by decide) ⟨.int (lo+i),H,I1,⟨t,?_⟩,⟨rfl,rfl⟩,st',λb hb=>(hf b hb).1⟩⟩
  rw[Int.mul_one]
 done:=by
  intro X hP hw hK hc i pins s σ H E I hf st hg
  subst hP hw hK
  obtain⟨f0,f1,f2,f3,f4,f5⟩:=hf it (by simp)
  exact wpAny_pyNext_range_end (I.ok.hd hc) st (by have:n<=i:=hg;omega) λh' eb=>⟨rfl,I.turned (t':=s.toks) (λb o hb e=>eb b o hb e) f0 f1 f3 f4 f5⟩
 self:=λ_ _ _ _ _ st h=>wpAny_pyIter_rangeiter st h
section
variable{X:Cx}{tg:Expr}
theorem zjt{pins:List (Addr×Obj)}{σ:St}{H:Hp}{s:Shared}{R:It->Hp->Prop}{E:Value->Shared->Prop}{lo hi:Int}{t u v:Tok}{tk:Nat}(I:Inv X pins σ H s)(h1:-(2 ^ 62)<=lo)(h2:lo<2 ^ 62)(h3:-(2 ^ 62)<=hi)(h4:hi<2 ^ 62)
  (q:R (Itr lo (hi - lo).toNat) H):wpAny (model X.prog X.w) X.A (pyIter (.ref s.heap.objs.size)) (PIE X pins σ tg R) E {s with heap:=s.heap.push {cls:=.type "range",data:=.fields #[.int lo t,.int hi u,.int 1 v]},toks:=tk}:=by
 refine wpAny_pyIter_range (IsRange.new ..) (small_one h1 h2 h3 h4) ?_
 have I1:Inv X pins σ H {s with heap:=s.heap.push {cls:=.type "range",data:=.fields #[.int lo t,.int hi u,.int 1 v]},toks:=tk}:=I.kept λb o e=>qB _ e
 refine⟨(s.heap.push {cls:=.type "range",data:=.fields #[.int lo t,.int hi u,.int 1 v]}).objs.size,[(s.heap.push {cls:=.type "range",data:=.fields #[.int lo t,.int hi u,.int 1 v]}).objs.size],_,_,H,rfl,
  I1.kept (t':=tk) λb o e=>qB _ e,zgr _ lo (hi - lo).toNat,?_,λb hb=>?_,q⟩
 ·have e1:lo+((0:Nat):Int) * 1=lo:=by simp
  have e2:(((hi - lo).toNat:Nat):Int) - ((0:Nat):Int)=Builtin.Range.rangeSize lo hi 1:=by rw[rangeSize_one];split<;>omega
  show IsRangeIter _ _ (lo+((0:Nat):Int) * 1) ((((hi - lo).toNat:Nat):Int) - ((0:Nat):Int)) 1
  rw[e1,e2]
  exact qAH _ rfl
 ·have e:b=(s.heap.push {cls:=.type "range",data:=.fields #[.int lo t,.int hi u,.int 1 v]}).objs.size:=by simpa using hb
  subst e
  exact I1.fpOk (qG _) (I1.hok.fresh (qG _))
noncomputable def iRng1(ta:TA):TI:=λσ H R=>ta σ H λvs H1=>∃j:Int,vs=[.int j]/\-(2 ^ 62)<=j/\j<2 ^ 62/\R (Itr 0 j.toNat) H1
theorem zhk{a:Expr}{ta:TA}{p pos:Pos}(hg:Gl X "range")(hm:X.mg "range"=none)(ha:PA X [a] ta)(hs:starEach [a] X.env=[(false,eval a X.env)]:=by rfl):PI X tg (.Call (.Name "range" p) [a] [] pos) (iRng1 ta):=by
 intro pins s σ H R I h
 refine Call_ (zga I hg hm boot_range (PyProof.Rows.callWith_type1 (thn (ha pos pins s σ H _ I h) λus s1 ⟨vs,H1,I1,r1,q1⟩=>?_) hs rfl))
 obtain⟨j,e,q1,q2,q⟩:=q1
 subst e
 cases r1 with
 | cons r rr=>
  cases rr
  obtain⟨t,rfl⟩:=r
  exact call_range_1 (zjt I1 (by omega) (by omega) q1 q2 (by simpa using q))
noncomputable def tFor(wi:TI)(g:TG)(tb:TS):TS:=λD σ H=>wi σ H λJ H1=>∃W:Nat->Nat->St->Hp->Prop,(∃m,W 0 m σ H1)/\∀i m σ H,W i m σ H->
 (J.stop i H/\D.nx σ H)\/(J.go i H/\∃N:St->Hp->Prop,(∀σ' H',N σ' H'->∃m',m'<m/\W (i+1) m' σ' H')/\∀x H',J.yld i H x H'->g x σ H' λσ2 H2=>tb {D with nx:=N,ct:=N,bk:=D.nx} σ2 H2)
noncomputable def zed(fp:List Addr)(h:Heap):List (Addr×Obj):=fp.filterMap λb=>(h.get? b).map λo=>(b,o)
theorem zbv{h:Heap}(hb:b∈fp)(e:h.get? b=some o):(b,o)∈zed fp h:=List.mem_filterMap.mpr ⟨b,hb,by rw[e];rfl⟩
theorem zhl{h:Heap}{p:Addr×Obj}(hp:p∈zed fp h):p.1∈fp/\h.get? p.1=some p.2:=by
 obtain⟨b,hb,e⟩:=List.mem_filterMap.mp hp
 cases q:h.get? b with
 | none=>rw[q]at e;cases e
 | some o=>
  rw[q]at e
  have e':(b,o)=p:=qN e
  subst e'
  exact⟨hb,q⟩
theorem Inv.pinned{s:Shared}(I:Inv X pins σ H s)(hf:∀b∈fp,FpOk X pins H b)(ho:∀b∈fp,∃o,s.heap.get? b=some o/\∀v,o.data≠.cell v):Inv X (pins++zed fp s.heap) σ H s:=
 I.pins_of λp hp=>(List.mem_append.mp hp).elim (λz=>I.pin p (qL _ z)) λz=>by
  obtain⟨hb,e⟩:=zhl z
  obtain⟨f0,f1,f2,_⟩:=hf p.1 hb
  obtain⟨o,e',d⟩:=ho p.1 hb
  rw[e]at e';cases e'
  exact⟨e,f0,f1,f2,d⟩
theorem Inv.unpinned(I:Inv X (pins++pl) σ H s):Inv X pins σ H s:=I.pins_of λp hp=>I.pin p (qL _ (qy _ hp))
theorem zoa(hp:PassesOwn (model X.prog X.w) X.A X.env X.xe)(hc:X.calm=true)(hi:PI X tg iter wi)(hg:PG X tg g)(hb:PSs X body tb)
  (hs:∀x,foldedSetIterable iter X.env x=pure x:=by intro _;rfl):PS X (.For tg iter body [] pos) (tFor wi g tb):=by
 intro pins s σ H D I h
 refine wpAny_For (thn (hi pins s σ H _ I h) λv s1 h1=>thn h1 λitv s2 h2=>?_) hs
 obtain⟨it,fp,tn,J,H2,e,I2,T,st2,f2,W,⟨m0,w0⟩,turn⟩:=h2
 subst e
 have stat:∀{H':Hp},(∀b∈fp,H' b=none)->∀b∈fp,FpOk X pins H' b:=λhn b hb=>⟨hn b hb,(f2 b hb).2⟩
 refine codeAny_forLoop_any (λn s'=>∃i σ' H',Inv X pins σ' H' s'/\tn i s'.heap/\(∀b∈fp,H' b=none)/\W i n σ' H') ?_ m0 ⟨0,σ,H2,I2,st2,λb hb=>(f2 b hb).1,w0⟩
 rintro n s3 ⟨i,σ3,H3,I3,st3,fr3,w3⟩
 rcases turn i n σ3 H3 w3 with⟨stop,qn⟩|⟨go,N,hN,step⟩
 ·refine qAS hp (thn (T.done X rfl rfl rfl hc i pins s3 σ3 H3 X.xe I3 (stat fr3) st3 stop) λr s4 ⟨hr,I4⟩=>?_)
  subst hr
  exact qAy ⟨σ3,H3,I4,qn⟩
 ·refine qAS hp (thn (T.item X rfl rfl rfl hc i pins s3 σ3 H3 X.xe I3 (stat fr3) st3 go) λr s4 ⟨u,hr,h4⟩=>?_)
  subst hr
  refine qAS hp (thn h4 λ_ s5 ⟨x,H5,I5,r5,y5,st5,fr5⟩=>?_)
  have I5':=I5.pinned (stat fr5) (T.obj _ _ st5)
  refine qAS hp (thn (hg _ s5 σ3 H5 x u _ I5' r5 (step x H5 y5)) λ_ s6 ⟨σ6,H6,I6,q6⟩=>?_)
  refine qAS hp (thn (hb _ s6 σ6 H6 _ I6 q6) λf s7 q7=>?_)
  have again:∀{σ7:St}{H7:Hp},Inv X (pins++zed fp s5.heap) σ7 H7 s7->N σ7 H7->∃m,m<n/\∃i σ' H',Inv X pins σ' H' s7/\tn i s7.heap/\(∀b∈fp,H' b=none)/\W i m σ' H':=λ{σ7 H7} I7 n7=>by
   obtain⟨m',hm,w7⟩:=hN σ7 H7 n7
   refine⟨m',hm,i+1,σ7,H7,I7.unpinned,T.keep _ _ _ st5 λb hb o e=>(I7.pin (b,o) (qL _ (qL _ (zbv hb e)))).1,λb hb=>?_,w7⟩
   obtain⟨o,e,d⟩:=T.obj _ _ st5 b hb
   exact(I7.pin (b,o) (qL _ (qL _ (zbv hb e)))).2.1
  cases f with
  | next=>obtain⟨σ7,H7,I7,n7⟩:=q7;exact again I7 n7
  | cont=>obtain⟨σ7,H7,I7,n7⟩:=q7;exact again I7 n7
  | brk=>obtain⟨σ7,H7,I7,q7⟩:=q7;exact⟨σ7,H7,I7.unpinned,q7⟩
  | ret v=>obtain⟨x7,σ7,H7,I7,r7,q7⟩:=q7;exact⟨x7,σ7,H7,I7.unpinned,r7,q7⟩
end
noncomputable abbrev R2:=V->V->Hp->VK->Prop
noncomputable def OpR(X:Cx)(f:Value->Value->Sem Value)(r:R2):Prop:=
 ∀(pins:List (Addr×Obj))(s:Shared)(σ:St)(H:Hp)(x y:V)(v u:Value)(Q:VK),Inv X pins σ H s->RelV x v->RelV y u->r x y H Q->
  wpAny (model X.prog X.w) X.A (f v u) (EP X pins σ Q) X.xe s
noncomputable def CallR(X:Cx)(f:Value)(r:List V->Hp->VK->Prop):Prop:=
 ∀(pins:List (Addr×Obj))(s:Shared)(σ:St)(H:Hp)(xs:List V)(us:List Value)(Q:VK),Inv X pins σ H s->Vals xs us->r xs H Q->
  wpAny (model X.prog X.w) X.A (call f us) (EP X pins σ Q) X.xe s
noncomputable def TruR(X:Cx)(r:V->Hp->(Bool->Hp->Prop)->Prop):Prop:=
 ∀(pins:List (Addr×Obj))(s:Shared)(σ:St)(H:Hp)(x:V)(v:Value)(Q:Bool->Hp->Prop),Inv X pins σ H s->RelV x v->r x H Q->
  wpAny (model X.prog X.w) X.A (truthy v) (TP X pins σ Q) X.xe s
noncomputable def tOp(r:R2)(ta tb:TE):TE:=λσ H Q=>ta σ H λx H1=>tb σ H1 λy H2=>r x y H2 Q
noncomputable def rI(C:Int->Int->Prop)(g:Int->Int->V):R2:=λx y H Q=>∃i j,x=.int i/\y=.int j/\C i j/\Q (g i j) H
noncomputable def rI0(g:Int->Int->V):R2:=λx y H Q=>∃i j,x=.int i/\y=.int j/\Q (g i j) H
section
variable{X:Cx}{a b c:Expr}{ta tb tc:TE}{pos:Pos}
theorem binT(ha:PE X a ta)(hb:PE X b tb){R:V->V->Hp->Prop}(I:Inv X pins σ H s)
  (h:ta σ H λx H1=>tb σ H1 λy H2=>R x y H2){Q:Value->Shared->Prop}{f:Value->Value->Sem Value}
  (hf:∀v u s2 x y H2,Inv X pins σ H2 s2->RelV x v->RelV y u->R x y H2->wpAny (model X.prog X.w) X.A (f v u) Q X.xe s2) :
  wpAny (model X.prog X.w) X.A (eval a X.env) (λv s₁=>wpAny (model X.prog X.w) X.A (eval b X.env) (λu s₂=>wpAny (model X.prog X.w) X.A (f v u) Q X.xe s₂) X.xe s₁) X.xe s:=by
 refine thn (ha pins s σ H _ I h) λv s1 ⟨x,H1,I1,r1,q1⟩=>?_
 refine thn (hb pins s1 σ H1 _ I1 q1) λu s2 ⟨y,H2,I2,r2,q2⟩=>?_
 exact hf v u s2 x y H2 I2 r1 r2 q2
theorem zpz(ho:OpR X (binaryOp op) r)(ha:PE X a ta)(hb:PE X b tb):PE X (.BinOp a op b pos) (tOp r ta tb):=by
 intro pins s σ H Q I h
 exact wpAny_BinOp (binT ha hb I h λv u s2 x y H2 I2 rx ry q=>ho pins s2 σ H2 x y v u Q I2 rx ry q)
theorem opI{f:Value->Value->Sem Value}{C:Int->Int->Prop}{g:Int->Int->Int}
  (rule:∀(i j:Int)(t u:Tok)(s:Shared)(Q:Value->Shared->Prop)(E:Value->Shared->Prop),C i j->Q (.int (g i j) s.toks) {s with toks:=s.toks+1}->wpAny (model X.prog X.w) X.A (f (.int i t) (.int j u)) Q E s) :
  OpR X f (rI C λi j=>.int (g i j)):=by
 intro pins s σ H x y v u Q I rx ry h
 obtain⟨i,j,rfl,rfl,hc,q⟩:=h
 obtain⟨t,rfl⟩:=rx
 obtain⟨t',rfl⟩:=ry
 exact rule i j t t' s _ _ hc ⟨.int (g i j),H,I.tok _,⟨_,rfl⟩,q⟩
theorem opI0{f:Value->Value->Sem Value}{g:Int->Int->Int}
  (rule:∀(i j:Int)(t u:Tok)(s:Shared)(Q:Value->Shared->Prop)(E:Value->Shared->Prop),Q (.int (g i j) s.toks) {s with toks:=s.toks+1}->wpAny (model X.prog X.w) X.A (f (.int i t) (.int j u)) Q E s) :
  OpR X f (rI0 λi j=>.int (g i j)):=by
 intro pins s σ H x y v u Q I rx ry h
 obtain⟨i,j,rfl,rfl,q⟩:=h
 obtain⟨t,rfl⟩:=rx
 obtain⟨t',rfl⟩:=ry
 exact rule i j t t' s _ _ ⟨.int (g i j),H,I.tok _,⟨_,rfl⟩,q⟩
noncomputable def CDiv(i j:Int):Prop:=0<j/\j<1073741824
noncomputable def CPow(i j:Int):Prop:=0<=j/\j<=1000000/\i.natAbs<2 ^ 64
noncomputable def CMul(i j:Int):Prop:=(-(2 ^ 64)<i/\i<2 ^ 64)\/(-(2 ^ 64)<j/\j<2 ^ 64)
theorem CMul.ok(h:CMul i j):IntMulOk i j:=by
 rcases h with⟨h1,h2⟩|⟨h1,h2⟩
 ·exact .of_left (intBits_le_64 h1 h2)
 ·exact .of_right (intBits_le_64 h1 h2)
theorem zob:OpR X (binaryOp .Add) (rI0 λi j=>.int (i+j)):=opI0 λ_ _ _ _ _ _ _ q=>add_int q
theorem zoc:OpR X (binaryOp .Sub) (rI0 λi j=>.int (i - j)):=opI0 λ_ _ _ _ _ _ _ q=>sub_int q
theorem zod:OpR X (binaryOp .Mult) (rI CMul λi j=>.int (i * j)):=opI λ_ _ _ _ _ _ _ hc q=>mul_int q hc.ok
theorem zhm:OpR X (binaryOp .FloorDiv) (rI CDiv λi j=>.int (i / j)):=opI λi j _ _ _ _ _ hc q=>by
 have h1:(0:Int)<j:=hc.1
 have h2:j<1073741824:=hc.2
 exact floordiv_int (by omega) (by rw[Int.fdiv_eq_ediv_of_nonneg i (by omega)];exact q) (.inl (PyProof.noPylong_small (by omega)))
theorem zgc:OpR X (binaryOp .Mod) (rI (λ_ j=>0<j) λi j=>.int (i % j)):=opI λi j _ _ _ _ _ hc q=>by
 have h1:(0:Int)<j:=hc
 exact mod_int' (by omega) (by rw[Int.fmod_eq_emod_of_nonneg i (by omega)];exact q)
theorem zlb:OpR X (binaryOp .Pow) (rI CPow λi j=>.int (i ^ j.toNat)):=opI λ_ _ _ _ _ _ _ hc q=>pow_int_small hc.1 hc.2.1 hc.2.2 q
end
noncomputable def scal:V->V->Bool
 | .non,.non=>true|.non,.int _=>true|.int _,.non=>true|.non,.bl _=>true|.bl _,.non=>true|.non,.str _=>true|.str _,.non=>true
 | .int _,.int _=>true|.bl _,.bl _=>true|.str _,.str _=>true|.byt _,.byt _=>true
 | .int _,.str _=>true|.str _,.int _=>true|.bl _,.str _=>true|.str _,.bl _=>true
 | _,_=>false
noncomputable def rEq:R2:=λx y H Q=>scal x y=true/\Q (.bl (decide (x=y))) H
noncomputable def rNe:R2:=λx y H Q=>scal x y=true/\Q (.bl (!decide (x=y))) H
theorem zfc:decide (V.int i=V.int j)=(i==j):=by
 rw[qAO]
 simp
theorem zhn:decide (V.bl i=V.bl j)=(i==j):=by
 rw[qAO]
 simp
theorem zfd:decide (V.str i=V.str j)=(i==j):=by
 rw[qAO]
 simp
theorem zho{i j:Array UInt8}:decide (V.byt i=V.byt j)=(i.toList==j.toList):=by
 rw[qAO]
 cases i
 cases j
 simp
section
variable{X:Cx}{a b c:Expr}{ta tb tc:TE}{pos:Pos}
theorem zal(I:Inv X pins σ H s)(q:Q (.bl k) H)(e:k=k'):EP X pins σ Q (.bool k') s:=by
 subst e
 exact⟨.bl k,H,I,rfl,q⟩
theorem zqa:OpR X (compareOp .Eq) rEq:=by
 intro pins s σ H x y v u Q I rx ry h
 obtain⟨hs,q⟩:=h
 cases x with
 | non=>
  cases rx
  cases y with
  | non=>cases ry;exact PySem.EqNone.eq_none_none (zal I q (by simp))
  | bl j=>cases ry;exact PySem.EqNone.eq_none_bool (zal I q (by simp))
  | int j=>obtain⟨t',rfl⟩:=ry;exact PySem.EqNone.eq_none_int (zal I q (by simp))
  | str j=>obtain⟨t',rfl⟩:=ry;exact PySem.EqNone.eq_none_str (zal I q (by simp))
  | _=>exact absurd (show false=true from hs) qI
 | bl i=>
  cases rx
  cases y with
  | non=>cases ry;exact PySem.EqNone.eq_bool_none (zal I q (by simp))
  | bl j=>cases ry;exact eq_bool (zal I q zhn)
  | str j=>obtain⟨t',rfl⟩:=ry;exact PySem.EqMixed.eq_bool_str (zal I q (by simp))
  | _=>exact absurd (show false=true from hs) qI
 | int i=>
  obtain⟨t,rfl⟩:=rx
  cases y with
  | non=>cases ry;exact PySem.EqNone.eq_int_none (zal I q (by simp))
  | int j=>obtain⟨t',rfl⟩:=ry;exact eq_int (zal I q zfc)
  | str j=>obtain⟨t',rfl⟩:=ry;exact PySem.EqMixed.eq_int_str (zal I q (by simp))
  | _=>exact absurd (show false=true from hs) qI
 | str i=>
  obtain⟨t,rfl⟩:=rx
  cases y with
  | non=>cases ry;exact PySem.EqNone.eq_str_none (zal I q (by simp))
  | bl j=>cases ry;exact PySem.EqMixed.eq_str_bool (zal I q (by simp))
  | int j=>obtain⟨t',rfl⟩:=ry;exact PySem.EqMixed.eq_str_int (zal I q (by simp))
  | str j=>obtain⟨t',rfl⟩:=ry;exact eq_str (zal I q zfd)
  | _=>exact absurd (show false=true from hs) qI
 | byt i=>
  obtain⟨t,rfl⟩:=rx
  cases y with
  | byt j=>obtain⟨t',rfl⟩:=ry;exact PySem.W.eq_bytes (zal I q zho)
  | _=>exact absurd (show false=true from hs) qI
 | _=>cases y<;>exact absurd (show false=true from hs) qI
theorem zqb:OpR X (compareOp .NotEq) rNe:=by
 intro pins s σ H x y v u Q I rx ry h
 obtain⟨hs,q⟩:=h
 cases x with
 | non=>
  cases rx
  cases y with
  | non=>cases ry;exact PySem.EqNone.ne_none_none (zal I q (by simp))
  | bl j=>cases ry;exact PySem.EqNone.ne_none_bool (zal I q (by simp))
  | int j=>obtain⟨t',rfl⟩:=ry;exact PySem.EqNone.ne_none_int (zal I q (by simp))
  | str j=>obtain⟨t',rfl⟩:=ry;exact PySem.EqNone.ne_none_str (zal I q (by simp))
  | _=>exact absurd (show false=true from hs) qI
 | bl i=>
  cases rx
  cases y with
  | non=>cases ry;exact PySem.EqNone.ne_bool_none (zal I q (by simp))
  | bl j=>cases ry;exact ne_bool (zal I q (congrArg not zhn))
  | str j=>obtain⟨t',rfl⟩:=ry;exact PySem.EqMixed.ne_bool_str (zal I q (by simp))
  | _=>exact absurd (show false=true from hs) qI
 | int i=>
  obtain⟨t,rfl⟩:=rx
  cases y with
  | non=>cases ry;exact PySem.EqNone.ne_int_none (zal I q (by simp))
  | int j=>obtain⟨t',rfl⟩:=ry;exact ne_int (zal I q (congrArg not zfc))
  | str j=>obtain⟨t',rfl⟩:=ry;exact PySem.EqMixed.ne_int_str (zal I q (by simp))
  | _=>exact absurd (show false=true from hs) qI
 | str i=>
  obtain⟨t,rfl⟩:=rx
  cases y with
  | non=>cases ry;exact PySem.EqNone.ne_str_none (zal I q (by simp))
  | bl j=>cases ry;exact PySem.EqMixed.ne_str_bool (zal I q (by simp))
  | int j=>obtain⟨t',rfl⟩:=ry;exact PySem.EqMixed.ne_str_int (zal I q (by simp))
  | str j=>obtain⟨t',rfl⟩:=ry;exact ne_str (zal I q (congrArg not zfd))
  | _=>exact absurd (show false=true from hs) qI
 | byt i=>
  obtain⟨t,rfl⟩:=rx
  cases y with
  | byt j=>obtain⟨t',rfl⟩:=ry;exact PySem.W.ne_bytes (zal I q (congrArg not zho))
  | _=>exact absurd (show false=true from hs) qI
 | _=>cases y<;>exact absurd (show false=true from hs) qI
theorem OpR.or{f:Value->Value->Sem Value}(h:OpR X f r)(h':OpR X f r'):OpR X f (λx y H Q=>r x y H Q\/r' x y H Q):=by
 intro pins s σ H x y v u Q I rx ry q
 rcases q with q|q
 ·exact h pins s σ H x y v u Q I rx ry q
 ·exact h' pins s σ H x y v u Q I rx ry q
theorem zee(b:Expr)(h:op≠.In:=by decide)(h2:op≠.NotIn:=by decide):behindInMarks op b=false:=by
 have e1:(op==CmpOp.In)=false:=by cases op<;>first|rfl|exact absurd rfl h
 have e2:(op==CmpOp.NotIn)=false:=by cases op<;>first|rfl|exact absurd rfl h2
 cases b<;>simp[behindInMarks,e1,e2]
theorem zlx(ho:OpR X (compareOp op) r)(ha:PE X a ta)(hb:PE X b tb)(hm:behindInMarks op b=false):PE X (.Compare a [op] [b] pos) (tOp r ta tb):=by
 intro pins s σ H Q I h
 exact wpAny_Compare1 (binT ha hb I h λv u s2 x y H2 I2 rx ry q=>ho pins s2 σ H2 x y v u Q I2 rx ry q) hm
noncomputable def tTest(t:TE):TT:=λσ H Q=>t σ H λx H'=>∃k,x=.bl k/\Q k H'
theorem zly(ho:OpR X (compareOp op) r)(ha:PE X a ta)(hb:PE X b tb)(hm:behindInMarks op b=false):PT X (.Compare a [op] [b] pos) (tTest (tOp r ta tb)):=by
 intro pins s σ H Q I h
 refine wpAny_isTrue_Compare1 (thn (ha pins s σ H _ I h) λv s1 ⟨x,H1,I1,r1,q1⟩=>thn (hb pins s1 σ H1 _ I1 q1) λu s2 ⟨y,H2,I2,r2,q2⟩=>
  thn (ho pins s2 σ H2 x y v u _ I2 r1 r2 q2) λc s3 ⟨z,H3,I3,r3,k,e,q3⟩=>?_) hm
 subst e
 cases r3
 exact qAq ⟨H3,I3,q3⟩
noncomputable def TruV(K:qA)(x:V)(H:Hp)(k:Bool):Prop:=
 match x with
 | .non=>k=false
 | .bl b=>k=b
 | .int i=>k=(i != 0)
 | .str y=>y.length<=qH/\k=((y.length:Int) != 0)
 | .byt y=>y.size<=qH/\k=((y.size:Int) != 0)
 | .ref p=>(∃xs,SqL K H p xs/\k=!xs.isEmpty)\/(∃xs,SqT K H p xs/\k=!xs.isEmpty)\/∃kvs,H p=some (.dK kvs)/\k=!kvs.isEmpty
 | _=>False
theorem zgs{kvs:List (κ×V)}{vs:List (κ×Value)}(r:KV kvs vs):(!vs.isEmpty)=!kvs.isEmpty:=by
 cases r<;>rfl
theorem zdh{xs:List V}{its:List Value}(r:Vals xs its):(!its.toArray.isEmpty)=!xs.isEmpty:=by
 cases r<;>simp
theorem zgd:(qH:Nat)<2 ^ 63:=by rw[qY];decide
theorem zoe:TruR X (λx H Q=>∃k,TruV X.K x H k/\Q k H):=by
 intro pins s σ H x v Q I rx h
 obtain⟨k,e,q⟩:=h
 have hl:=zgd
 have hs:qH=16777216:=qY
 cases x with
 | non=>
  cases rx
  have e':k=false:=e
  subst e'
  exact truthy_none ⟨H,I,q⟩
 | bl b=>
  cases rx
  have e':k=b:=e
  subst e'
  exact qAq ⟨H,I,q⟩
 | int i=>
  obtain⟨t,rfl⟩:=rx
  have e':k=(i != 0):=e
  subst e'
  exact PySem.P.truthy_int ⟨H,I,q⟩
 | str y=>
  obtain⟨t,rfl⟩:=rx
  obtain⟨hy,e'⟩:y.length<=qH/\k=((y.length:Int) != 0):=e
  subst e'
  exact PySem.P.truthy_str (by omega) ⟨H,I.tok _,q⟩
 | byt y=>
  obtain⟨t,rfl⟩:=rx
  obtain⟨hy,e'⟩:y.size<=qH/\k=((y.size:Int) != 0):=e
  subst e'
  exact PySem.W.truthy_bytes (by omega) ⟨H,I.tok _,q⟩
 | ref p=>
  cases rx
  have e':(∃xs,SqL X.K H p xs/\k=!xs.isEmpty)\/(∃xs,SqT X.K H p xs/\k=!xs.isEmpty)\/∃kvs,H p=some (.dK kvs)/\k=!kvs.isEmpty:=e
  rcases e' with⟨xs,hx,e'⟩|⟨xs,hx,e'⟩|⟨kvs,hx,e'⟩
  ·subst e'
   obtain⟨its,r,pl,hz⟩:=I.list hx
   have hlen:=r.length
   exact wpAny_truthy_list pl.isList (by simp only[qM];omega) ⟨H,I.tok _,by rw[zdh r];exact q⟩
  ·subst e'
   obtain⟨its,r,pl,hz⟩:=I.tuple hx
   have hlen:=r.length
   exact truthy_tuple pl (by simp only[qM];omega) ⟨H,I.tok _,by rw[zdh r];exact q⟩
  ·subst e'
   obtain⟨hz,hS,vs,r,m⟩:kvs.length<=qH/\(p==sysModules)=false/\∃vs,KV kvs vs/\s.heap.DictOf (zfa X.prog X.w) p vs:=I.hok p _ hx
   have hlen:kvs.length=vs.length:=Paired.length r
   exact wpAny_truthy_dict hS m (by omega) ⟨H,I.tok _,by rw[zgs r];exact q⟩
 | _=>exact(show False from e).elim
theorem zju(ha:PE X a ta)(he:∀whole,isTrue a X.env whole=(do let v <- whole;standAt a.pos;holding [v] (truthy v))) :
  PT X a (λσ H Q=>ta σ H λx H'=>∃k,TruV X.K x H' k/\Q k H'):=by
 intro pins s σ H Q I h
 exact isTrue_plain (thn (ha pins s σ H _ I h) λv s1 ⟨x,H1,I1,r1,q1⟩=>zoe pins s1 σ H1 x v Q I1 r1 q1) (he _)
theorem zgt:OpR X (binaryOp .Add) (λx y H Q=>∃i j,x=.str i/\y=.str j/\i.length+j.length<=qH/\Q (.str (i++j)) H):=by
 intro pins s σ H x y v u Q I rx ry h
 obtain⟨i,j,rfl,rfl,hz,q⟩:=h
 obtain⟨t,rfl⟩:=rx
 obtain⟨t',rfl⟩:=ry
 exact add_str (λt' tk=>⟨.str (i++j),H,I.tok _,⟨_,rfl⟩,q⟩) hz
theorem zof(r:Vals [x] us):∃u,us=[u]/\RelV x u:=by
 cases r with
 | cons r1 r2=>cases r2;exact⟨_,rfl,r1⟩
theorem zjv(r:Vals [x,y] us):∃u w',us=[u,w']/\RelV x u/\RelV y w':=by
 cases r with
 | cons r1 r2=>
  cases r2 with
  | cons r3 r4=>cases r4;exact⟨_,_,rfl,r1,r3⟩
end
set_option genInjectivity false in
section
variable{prog:Program}{w:World}{A:Around}{E:Value->Shared->Prop}{s:Shared}{K:qA}{x dx C f:Addr}{mA:Str->Option Value}{name:Str}{v:Value}
end
theorem zhp(r:RelV v u):PySem.W.handedIn u=true:=by
 cases v with
 | non=>cases(show u=Value.none from r);rfl
 | bl b=>cases(show u=Value.bool b from r);rfl
 | int i=>obtain⟨t,e⟩:=(show ∃t,u=Value.int i t from r);cases e;rfl
 | str x=>obtain⟨t,e⟩:=(show ∃t,u=Value.str x t from r);cases e;rfl
 | byt b=>obtain⟨t,e⟩:=(show ∃t,u=Value.bytes b t from r);cases e;rfl
 | flt b=>obtain⟨t,e⟩:=(show ∃t,u=Value.float b t from r);cases e;rfl
 | ref a=>cases(show u=Value.ref a from r);rfl
 | ty n=>cases(show u=Value.type n from r);rfl
set_option genInjectivity false in
set_option genInjectivity false in
set_option genInjectivity false in
section
variable{X:Cx}{pins:List (Addr×Obj)}{σ:St}{H:Hp}{s:Shared}{a C dx:Addr}{fs:List (Str×V)}{f:Str}{v:V}{A:Around}{E:Value->Shared->Prop}
theorem zlz{Q:Value->Shared->Prop}(hb:attributeBase e f env (eval e env)=eval e env)
  (h:wpAny (model prog w) A (eval e env) (λo s₁=>wpAny (model prog w) A (getAttr o f true) Q E s₁) E s):wpAny (model prog w) A (eval (.Attribute e f pos) env) Q E s:=
 Attribute_any_ h (by rw[arm_eval_Attribute,hb])
end
set_option genInjectivity false in
structure Room(k:Nat)(A:Around):Prop where
 hd:A.handled=none
 dp:A.depth+3 * k+5<recursionLimit
 un:A.units+16 * k+200<cLine
 gd:A.guards=some []
theorem Room.mono(r:Room k A)(h:j<=k):Room j A:=⟨r.hd,by have:=r.dp;omega,by have:=r.un;omega,r.gd⟩
theorem Room.deeper{A:Around}(r:Room (k+1) A)(env:Env):Room k (A.deeper env):=
 ⟨r.hd,by have:=r.dp;show A.depth+1+3 * k+5<_;omega,by have:=r.un;show A.units+3+16 * k+200<_;omega,r.gd⟩
theorem zgu{A:Around}:(A.under (.builtin "type.__call__" ⟨.ref C::us,kw⟩)).depth=A.depth+1:=by
 first|rfl|simp[Around.under,Code.weight,Code.isCreation,Code.isGuard,Code.isCaller,Code.frames,Code.isFrame,guardIds]
theorem zgv{A:Around}:(A.under (.builtin "type.__call__" ⟨.ref C::us,kw⟩)).units=A.units+1:=by
 first|rfl|simp[Around.under,Code.cUnits,Code.frames,Code.isFrame]
theorem Room.make{A:Around}(r:Room (k+1) A)(C:Addr)(us:List Value)(kw:List (Str×Value)):Room k (A.under (.builtin "type.__call__" ⟨.ref C::us,kw⟩)):=
 ⟨r.hd,by have:=r.dp;rw[zgu];omega,by have:=r.un;rw[zgv];omega,by first|exact r.gd|(simpa [Around.under,Code.isGuard,Code.isFrame,guardIds]using r.gd)⟩
theorem Room.depth{A:Around}(r:Room k A):A.depth<recursionLimit:=by have:=r.dp;omega
theorem Room.units{A:Around}(r:Room k A):A.units+64<cLine:=by have:=r.un;omega
noncomputable def tNil:TA:=λ_ H Q=>Q [] H
noncomputable def tCons(ta:TE)(tr:TA):TA:=λσ H Q=>ta σ H λx H1=>tr σ H1 λxs H2=>Q (x::xs) H2
section
variable{X:Cx}{e:Expr}{es:List Expr}{te:TE}{t:TA}{pos:Pos}
theorem zhq:PA X [] tNil:=λ_ _ _ _ H Q I h=>Calls.spliced_nil ⟨[],H,I,.nil,h⟩
theorem zdr(ha:PE X e te)(hr:PA X es t)(hs:starEach (e::es) X.env=(false,eval e X.env)::starEach es X.env:=by rfl):PA X (e::es) (tCons te t):=by
 intro pos pins s σ H Q I h
 rw[hs]
 show wpAny _ _ (spliced ((false,eval e X.env)::backTo pos (starEach es X.env))) _ _ s
 refine Calls.spliced_cons (thn (ha pins s σ H _ I h) λu s1 ⟨x,H1,I1,r1,q1⟩=>?_)
 exact thn (hr pos pins s1 σ H1 _ I1 q1) λus s2 ⟨xs,H2,I2,r2,q2⟩=>⟨x::xs,H2,I2,.cons r1 r2,q2⟩
noncomputable def tTup(t:TA):TE:=λσ H Q=>t σ H λxs H1=>xs.length<=qH/\∀p,H1 p=none->Q (.ref p) (upd H1 p (.tup xs))
noncomputable def tLst(t:TA):TE:=λσ H Q=>t σ H λxs H1=>xs.length<=qH/\∀p,H1 p=none->Q (.ref p) (upd H1 p (.lst xs))
theorem zog{x1}(h:PA X es t):PE X (.Tuple es x1 pos) (tTup t):=by
 intro pins s σ H Q I hq
 refine wpAny_Tuple_spliced (thn (h pos pins s σ H _ I hq) λus s1 ⟨xs,H1,I1,r,z,q⟩=>⟨by rw[<- r.length];exact z,?_⟩)
 have hf:H1 s1.heap.objs.size=none:=I1.hok.fresh (qG _)
 refine⟨.ref s1.heap.objs.size,upd H1 s1.heap.objs.size (.tup xs),I1.laid (t':=s1.toks) (λb u e=>qB _ e) (qG _) ?_,rfl,q _ hf⟩
 exact⟨z,us,r,⟨_,qAH _ rfl,rfl,_,rfl⟩⟩
theorem zoh(h:PA X es t):PE X (.List es pos) (tLst t):=by
 intro pins s σ H Q I hq
 refine wpAny_List_spliced (thn (h pos pins s σ H _ I hq) λus s1 ⟨xs,H1,I1,r,z,q⟩=>⟨by rw[<- r.length];exact z,?_⟩)
 have hf:H1 s1.heap.objs.size=none:=I1.hok.fresh (qG _)
 refine⟨.ref s1.heap.objs.size,upd H1 s1.heap.objs.size (.lst xs),I1.laid (t':=s1.toks) (λb u e=>qB _ e) (qG _) ?_,rfl,q _ hf⟩
 exact⟨z,us,0,r,qAH _ rfl⟩
end
noncomputable abbrev Sp:=List V->Hp->VK->XK->Prop
noncomputable abbrev CXT:=List Env->Hp->Shared->XK->Value->Shared->Prop
set_option genInjectivity false in
structure Env0(P:Program)(w:World)(K:qA)(mg:Str->Option Value)(base:Heap)(A:Around)(outer:List Env)(s:Shared)(H:Hp):Prop where
 frames:A.frames=some outer
 mod:Mod K mg base
 bs:∀b o,base.get? b=some o->s.heap.get? b=some o/\H b=none
 bsz:base.objs.size<=s.heap.objs.size
 funs:s.heap.FunFrames base outer
 frf:∀b∈frs outer,H b=none
 hok:HOk P w H s.heap
 bare:AllBare s.gens
noncomputable def CE(outer:List Env)(P:Program)(w:World)(H:Hp)(s:Shared)(Q:VK)(u:Value)(s':Shared):Prop:=
 ∃v H',s'.os=s.os/\AllBare s'.gens/\Un (frs outer) [] H H' s.heap s'.heap/\HOk P w H' s'.heap/\RelV v u/\Q v H'
noncomputable def CR(CX:CXT)(outer:List Env)(P:Program)(w:World)(H:Hp)(s:Shared)(Q:VK)(E:XK)(r:Result)(s':Shared):Prop:=
 match r with
 | .ok (.ret u)=>CE outer P w H s Q u s'
 | .ok _=>False
 | .error e=>CX outer H s E e s'
set_option genInjectivity false in
structure FnOk(P:Program)(w:World)(K:qA)(mg:Str->Option Value)(base:Heap)(CX:CXT)(k:Nat)(f:Addr)(fd:qk)(ps:List Str)(sp:Sp):Prop where
 len:∀vs H Q E,sp vs H Q E->vs.length=ps.length
 run:∀(A:Around)(outer:List Env)(s:Shared)(H:Hp)(args:Args)(us:List Value)(vs:List V)(Q:VK)(E:XK),Room k A->Env0 P w K mg base A outer s H->BindsTo s fd args (ps.zip us)->Vals vs us->sp vs H Q E->
  codeAny (model P w) A (.call (.ref f) args) (CR CX outer P w H s Q E) s
theorem Env0.make{P:Program}{w:World}{K:qA}{mg:Str->Option Value}{base:Heap}{A:Around}{outer:List Env}{s:Shared}{H:Hp}(e:Env0 P w K mg base A outer s H)(C:Addr)(us:List Value)(kw:List (Str×Value)) :
  Env0 P w K mg base (A.under (.builtin "type.__call__" ⟨.ref C::us,kw⟩)) outer s H:=⟨by first|exact e.frames|(simpa [Around.under,Code.envs,Code.isFrame,pushEnvs]using e.frames),e.mod,e.bs,e.bsz,e.funs,e.frf,e.hok,e.bare⟩
section
variable{X:Cx}{pins:List (Addr×Obj)}{σ:St}{H:Hp}{s s':Shared}
theorem Inv.env0(I:Inv X pins σ H s):Env0 X.prog X.w X.K X.mg X.base X.A X.stack s H:=
 ⟨I.ok.frames,I.ok.mod,I.bs,qP I.ok.bsz I.sz,I.stack,I.stkFree,I.hok,I.bare⟩
theorem Inv.after(I:Inv X pins σ H s)(h:CE X.stack X.prog X.w H s Q u s'):EP X pins σ Q u s':=by
 obtain⟨v,H',os,bare,un,hok,r,q⟩:=h
 obtain⟨hh,g,d,t,os'⟩:=s'
 obtain rfl:os'=s.os:=os
 exact⟨v,H',I.call (h':=hh) (g':=g) (d':=d) (t':=t) (ch:=[]) un hok bare (λb z=>absurd z (by simp)),r,q⟩
end
noncomputable def tCall(sp:Sp)(dvs:List V)(E:XK)(t:TA):TE:=λσ H Q=>t σ H λvs H1=>sp (vs++dvs) H1 Q E
noncomputable def zcr(K:qA)(fd:qk)(ps:List Str)(ds:List Value):Prop:=
 ∀(s:Shared)(us:List Value),K.In s.heap->(us++ds).length=ps.length->BindsTo s fd ⟨us,[]⟩ (ps.zip (us++ds))
theorem zcr.all{K:qA}{fd:qk}{ps:List Str}(h:∀us:List Value,us.length=ps.length->bindArgs fd ⟨us,[]⟩=pure (ps.zip us)):zcr K fd ps []:=λs us _ hl=>by
 rw[qAW]at hl ⊢
 exact .of_eq (h us hl)
noncomputable def zhr(CX:CXT)(X:Cx)(E:XK):Prop:=∀(pins:List (Addr×Obj))(σ:St)(H:Hp)(s:Shared)(e:Value)(s':Shared),Inv X pins σ H s->CX X.stack H s E e s'->X.xe e s'
section
variable{X:Cx}{CX:CXT}{k:Nat}{f C:Addr}{fd:qk}{ps:List Str}{sp:Sp}{dvs:List V}{ds:List Value}{E:XK}{x m:Str}{p pos apos:Pos}{e o:Expr}{es:List Expr}{ta:TE}{t:TA}
theorem zoi(F:FnOk X.prog X.w X.K X.mg X.base CX k f fd ps sp)(hr:Room k X.A)(hb:zcr X.K fd ps ds)(hd:Vals dvs ds)(hx:zhr CX X E)
  (I:Inv X pins σ H s) (r:Vals vs us) (h:sp (vs++dvs) H Q E):wpAny (model X.prog X.w) X.A (call (.ref f) us) (EP X pins σ Q) X.xe s:=by
 have r2:Vals (vs++dvs) (us++ds):=r.append hd
 have hl:(us++ds).length=ps.length:=by rw[<- r2.length];exact F.len _ _ _ _ h
 refine qA7 (qAc (F.run X.A X.stack s H ⟨us,[]⟩ (us++ds) (vs++dvs) Q E hr I.env0 (hb s us I.kIn hl) r2 h) λr s' hq=>?_)
 cases r with
 | error e=>exact hx pins σ H s e s' I hq
 | ok fl=>
  cases fl with
  | ret u=>exact I.after hq
  | next=>exact False.elim hq
  | brk=>exact False.elim hq
  | cont=>exact False.elim hq
theorem zma(F:FnOk X.prog X.w X.K X.mg X.base CX k f fd ps sp)(hr:Room k X.A)(hg:Gl X x)(hm:X.mg x=some (.ref f))(hk:q9 X.K (.ref f)=true)(hb:zcr X.K fd ps ds)(hd:Vals dvs ds)(hx:zhr CX X E)
  (ha:PA X (e::es) t)(hdb:(x==("__debug__":Str))=false:=by decide)(he:starEach (e::es) X.env=(false,eval e X.env)::starEach es X.env:=by rfl)(hpl:(backTo pos (starEach es X.env)).any (·.1)=false:=by rfl) :
  PE X (.Call (.Name x p) (e::es) [] pos) (tCall sp dvs E t):=by
 intro pins s σ H Q I h
 refine qAj (zfb I hg hm ?_ hdb)
 refine qA1 (h₀:=X.base) I.ok.mod.kin hk (thn (ha pos pins s σ H _ I h) λus s1 ⟨vs,H1,I1,r,q⟩=>⟨I1.kIn,?_⟩) he hpl
 exact zoi F hr hb hd hx I1 r q
set_option genInjectivity false in
end
section
variable{X:Cx}{CX:CXT}{k:Nat}{f C:Addr}{fd:qk}{ps ks:List Str}{sp:Sp}{E:XK}{x m:Str}{p pos apos kpos:Pos}{e o:Expr}{es:List Expr}{kws:List Keyword}{te ta:TE}{t tk:TA}{nm:Option Str}
set_option genInjectivity false in
variable{g:List Value->List Value->List Value}{gV:List V->List V->List V}
end
set_option genInjectivity false in
structure FnScope(N P:List Str)(sc:Scope):Prop where
 kind:sc.kind=.function
 co:sc.isCoroutine=false
 gen:sc.isGenerator=false
 nd:N.Nodup
 pre:N.take P.length=P
 par:∀x∈P,sc.names.lookup x=some .local\/sc.names.lookup x=some .cell
 nofree:∀y∈sc.names,y.2≠.free
theorem zef{kindOf:Str->Option NameKind}:∀{binds:List (Str×Value)}{m:Str->Option Value},(∀v,(x,v)∉binds)->bindL kindOf binds m x=m x
 | [],_,_=>rfl
 | (n,v)::r,m,h=>by
  unfold bindL
  rw[zef λw hw=>h w (qC _ hw)]
  split
  ·have:x≠n:=by rintro rfl;exact h v qf
   simp[this]
  ·rfl
theorem zeg{kindOf:Str->Option NameKind}:∀{binds:List (Str×Value)}{m:Str->Option Value},(∀v,(x,v)∉binds)->bindC kindOf binds m x=m x
 | [],_,_=>rfl
 | (n,v)::r,m,h=>by
  unfold bindC
  rw[zeg λw hw=>h w (qC _ hw)]
  split
  ·rfl
  ·have:x≠n:=by rintro rfl;exact h v qf
   simp[this]
theorem zeh{kindOf:Str->Option NameKind}:∀{P:List Str}{vs:List Value}{i:Nat}{m:Str->Option Value},P.Nodup->P[i]?=some x->vs[i]?=some v->kindOf x=some .local->
  bindL kindOf (P.zip vs) m x=some v
 | [],_,_,_,_,h,_,_=>by simp at h
 | _::_,[],_,_,_,_,h,_=>by simp at h
 | p::P,w::vs,0,m,nd,h1,h2,hk=>by
  simp at h1 h2;subst h1;subst h2
  show bindL kindOf ((p,w)::P.zip vs) m p=_
  unfold bindL
  rw[zef λv hv=>(qAV.mp nd).1 (qAm hv).1,if_pos hk]
  simp
 | p::P,w::vs,i+1,m,nd,h1,h2,hk=>by
  show bindL kindOf ((p,w)::P.zip vs) m x=_
  unfold bindL
  exact zeh (i:=i) (qAV.mp nd).2 (by simpa using h1) (by simpa using h2) hk
theorem zei{kindOf:Str->Option NameKind}:∀{P:List Str}{vs:List Value}{i:Nat}{m:Str->Option Value},P.Nodup->P[i]?=some x->vs[i]?=some v->kindOf x≠some .local->
  bindC kindOf (P.zip vs) m x=some v
 | [],_,_,_,_,h,_,_=>by simp at h
 | _::_,[],_,_,_,_,h,_=>by simp at h
 | p::P,w::vs,0,m,nd,h1,h2,hk=>by
  simp at h1 h2;subst h1;subst h2
  show bindC kindOf ((p,w)::P.zip vs) m p=_
  unfold bindC
  rw[zeg λv hv=>(qAV.mp nd).1 (qAm hv).1,if_neg hk]
  simp
 | p::P,w::vs,i+1,m,nd,h1,h2,hk=>by
  show bindC kindOf ((p,w)::P.zip vs) m x=_
  unfold bindC
  exact zei (i:=i) (qAV.mp nd).2 (by simpa using h1) (by simpa using h2) hk
noncomputable def zej(N:List Str)(vs:List V):St:=vs.map some++List.replicate (N.length - vs.length) none
noncomputable def cxOf(CX:CXT)(P:Program)(w:World)(K:qA)(mg:Str->Option Value)(base:Heap)(N:List Str)(qual:Str)(scope:Scope)(f:Addr)(cd:Value)(A:Around)(outer:List Env)(s:Shared)(H:Hp)(E:XK):Cx where
 prog:=P
 w:=w
 K:=K
 mg:=mg
 base:=base
 A:=A.deeper (envOfC qual scope s.heap.objs.size f cd)
 N:=N
 s₀:=s
 H₀:=H
 env:=envOfC qual scope s.heap.objs.size f cd
 outer:=outer
 stack:=envOfC qual scope s.heap.objs.size f cd::outer
 ex:=[]
 calm:=true
 fn:=λ_=>true
 pn:=[]
 xe:=λe s'=>wpAny (model P w) (A.deeper (envOfC qual scope s.heap.objs.size f cd)) (leaving (envOfC qual scope s.heap.objs.size f cd) e) (λ_ s''=>CX outer H s E e s'') (λe' s''=>CX outer H s E e' s'') s'
theorem zds{sc:Scope}(h:sc.names.lookup x=some .cell):∃c,(cellsFrom n sc.names []).lookup x=some c:=by
 have q:=qAt sc.names n [] (.inl h)
 exact Option.isSome_iff_exists.mp q
theorem zhs{CX:CXT}{P:Program}{w:World}{K:qA}{mg:Str->Option Value}{base:Heap}{N ps:List Str}{qual:Str}{scope:Scope}{f:Addr}{cd:Value}{A:Around}{outer:List Env}{s s1:Shared}{H:Hp}{E:XK}{us:List Value}{vs:List V}
  (S:FnScope N ps scope)(hd:A.handled=none)(e0:Env0 P w K mg base A outer s H)(hl:vs.length=ps.length)(r:Vals vs us)
  (x:InCallC s s.heap.objs.size (bindL (envOfC qual scope s.heap.objs.size f cd).kindOf (ps.zip us) λ_=>none) (cellsFrom (s.heap.objs.size+1) scope.names []) (bindC (envOfC qual scope s.heap.objs.size f cd).kindOf (ps.zip us) λ_=>none) s1) :
  Inv (cxOf CX P w K mg base N qual scope f cd A outer s H E) [] (zej N vs) H s1:=by
 have hpl:ps.length<=N.length:=by have:=congrArg List.length S.pre;rw[List.length_take]at this;omega
 obtain⟨h1,tk,rfl,hk⟩:=x.done
 have noA:∀b:Addr,b∉(cxOf CX P w K mg base N qual scope f cd A outer s H E).ex:=λb z=>absurd (show b∈([]:List Addr)from z) (by simp)
 refine⟨⟨e0.mod,S.kind,rfl,rfl,qG _,λy z c h1 h2=>?_,λy hy=>?_,λy c _ h=>?_,λ_=>hd,Around.frames_deeper e0.frames,.inr ⟨rfl,rfl⟩,λb z=>absurd z (noA b),e0.bs,e0.bsz,λb _ _=>noA b,λb z=>absurd z (noA b),e0.funs,e0.frf⟩,
  rfl,e0.bare,Un.kept hk,⟨_,x.toInCall.ns,λi y v h1 h2 h3=>?_⟩,λy c h=>⟨_,x.cell y c h⟩,e0.hok.fresh (qG _),λy c h=>?_,λp hp=>absurd (show p∈([]:List (Addr×Obj))from hp) (by simp),e0.hok.kept hk,?_⟩
 ·exact name_of_addr x.apart (qQ h1) (qQ h2)
 ·have hy:scope.names.lookup y=some .cell\/scope.names.lookup y=some .free:=hy
  rcases hy with hy|hy
  ·exact zds hy
  ·exact absurd rfl (S.nofree _ (qQ hy))
 ·exact qAh (x.above y c (qQ h))
 ·have hi:i<vs.length:=by
   unfold zej at h2
   by_cases hi:i<vs.length
   ·exact hi
   ·rw[qa (by simpa using hi)]at h2
    rw[List.getElem?_replicate]at h2
    split at h2<;>cases h2
  have ha:vs[i]?=some v:=by
   unfold zej at h2
   rw[qw (by simpa using hi),qX]at h2
   cases e:vs[i]? with
   | none=>rw[e]at h2;cases h2
   | some a=>rw[e]at h2;cases h2;rfl
  obtain⟨u,hu,rv⟩:=r.get ha
  have hp:ps[i]?=some y:=by
   rw[<- S.pre,List.getElem?_take_of_lt (by omega)];exact h1
  have ndP:ps.Nodup:=by rw[<- S.pre];exact S.nd.sublist (List.take_sublist _ _)
  refine⟨u,rv,?_⟩
  rcases S.par y (qi hp)with k|k
  ·exact .inl ⟨k,zeh ndP hp hu k⟩
  ·obtain⟨c,e⟩:=zds (n:=s.heap.objs.size+1) k
   refine .inr ⟨.inl k,c,e,?_⟩
   have q:=x.cell y c e
   rw[zei ndP hp hu (by show scope.names.lookup y≠_;rw[k];decide)]at q
   exact q
 ·exact e0.hok.fresh (qAh (x.above y c (qQ h)))
 ·unfold zej
  show _=N.length
  rw[qO,qT,qA3]
  omega
theorem zqc{CX:CXT}{P:Program}{w:World}{K:qA}{mg:Str->Option Value}{base:Heap}{k:Nat}{f:Addr}{name qual:Str}{params:Arguments}{body:List Stmt}{scope:Scope}{dV kV doc pm cdv ct oc:Value}{an od:Option Addr}
  {osl:Array (Option Value)}{N ps:List Str}{sp:Sp}(lk:K.lookup f=some ⟨oc,od,.func (qr name qual params body scope dV kV doc pm an cdv ct),osl⟩)(hcd:qAP K cdv qual=true)(S:FnScope N ps scope)
  (len:∀vs H Q E,sp vs H Q E->vs.length=ps.length)
  (hbody:∀(A:Around)(outer:List Env)(s:Shared)(H:Hp)(vs:List V)(Q:VK)(E:XK),Room k (A.deeper (envOfC qual scope s.heap.objs.size f cdv))->sp vs H Q E->
   ∃t,PSs (cxOf CX P w K mg base N qual scope f cdv A outer s H E) body t/\t {nx:=λ_ H'=>Q .non H',rt:=Q} (zej N vs) H) :
  FnOk P w K mg base CX (k+1) f (qr name qual params body scope dV kV doc pm an cdv ct) ps sp:=by
 refine⟨len,λA outer s H args us vs Q E hr e0 hb r hsp=>?_⟩
 have hl:=len _ _ _ _ hsp
 have KX:K.In s.heap:=e0.mod.kin.keeps λb o e=>(e0.bs b o e).1
 have lim:s.heap.NoLimit:=e0.mod.nolimit.keeps λb o e=>(e0.bs b o e).1
 have hkind:∀y∈ps.zip us,scope.names.lookup y.1=some .local\/(scope.names.lookup y.1=some .cell/\((cellsFrom (s.heap.objs.size+1) scope.names []).lookup y.1).isSome=true):=λ⟨n,v⟩ hy=>by
  rcases S.par n (qAm hy).1 with q|q
  ·exact .inl q
  ·exact .inr ⟨q,qAt _ _ _ (.inl q)⟩
 refine codeAny_call_function hr.depth (KX _ _ lk) rfl S.co S.gen rfl (PySem.W.codeRec_of KX hcd) (hb _ _ _ _ ?_)
 refine wpAny_newFunctionEnv_cells S.kind hkind λenv he s1 x=>?_
 subst he
 refine⟨lim.keeps x.toInCall.keep,codeAny_func ?_⟩
 obtain⟨t,ht,hq⟩:=hbody A outer s H vs Q E (hr.deeper _) hsp
 have I:Inv (cxOf CX P w K mg base N qual scope f cdv A outer s H E) [] (zej N vs) H s1:=zhs S hr.hd e0 hl r x
 refine qAr (ht [] s1 (zej N vs) H _ I hq) (λfl s' hs=>?_) λe s' hs=>hs
 have fin:∀{σ':St}{H':Hp}{v:V}{u:Value},Inv (cxOf CX P w K mg base N qual scope f cdv A outer s H E) [] σ' H' s'->RelV v u->Q v H'->CE outer P w H s Q u s':=
  λ{σ' H' v u} J rv q=>⟨v,H',J.os,J.bare,J.base,J.hok,rv,q⟩
 cases fl with
 | ret u=>
  obtain⟨v,σ',H',J,rv,q⟩:=hs
  exact fin J rv q
 | next=>
  obtain⟨σ',H',J,q⟩:=hs
  exact fin (v:=V.non) (u:=Value.none) J rfl q
 | brk=>
  obtain⟨_,_,_,q⟩:=hs
  exact False.elim q
 | cont=>
  obtain⟨_,_,_,q⟩:=hs
  exact False.elim q
section
variable{X:Cx}{x:Str}{p pos:Pos}{e:Expr}{es:List Expr}{t:TA}{id T:String}{r:List V->Hp->VK->Prop}
noncomputable def tCB(r:List V->Hp->VK->Prop)(t:TA):TE:=λσ H Q=>t σ H λvs H1=>r vs H1 Q
theorem zjw(hc:CallR X (.builtin id) r)(hg:Gl X x)(hm:X.mg x=none)(hv:bootBuiltins x=some (.builtin id))(ha:PA X (e::es) t)(hn:x≠"__name__":=by decide)(hdb:(x==("__debug__":Str))=false:=by decide)
  (he:starEach (e::es) X.env=(false,eval e X.env)::starEach es X.env:=by rfl) (hpl:(backTo pos (starEach es X.env)).any (·.1)=false:=by rfl):PE X (.Call (.Name x p) (e::es) [] pos) (tCB r t):=by
 intro pins s σ H Q I h
 refine qAj (zga I hg hm hv ?_ hn hdb)
 exact PyProof.Rows.callWith_builtin1 (thn (ha pos pins s σ H _ I h) λus s1 ⟨vs,H1,I1,r1,q1⟩=>hc pins s1 σ H1 vs us Q I1 r1 q1) he hpl
end
end L2
namespace HT
open PySem PyProof.Rows
section
open PySem.SeqAt
open PySem.AutoSeq1 (wpAny_loadPart')
open PySem.MeetsSeq PySem.MeetsSeq2 PySem.MeetsSeq3
end
section
variable{prog:Program}{w:World}{A:Around}{E:Value->Shared->Prop}{s:Shared}
theorem cat_tup{vs ws:List Value}{Q:Value->Shared->Prop}(ht:IsTup s.heap t vs.toArray)(hb:IsTup s.heap b ws.toArray)(hv:vs≠[])
  (h1:ws=[]->Q (.ref t) s) (h2:ws≠[]->Q (.ref s.heap.objs.size) {s with heap:=s.heap.push {cls:=.type "tuple",data:=.seq (vs++ws).toArray}})
  (hsz:vs.length+ws.length<=qH):wpAny (model prog w) A (binaryOp .Add (.ref t) (.ref b)) Q E s:=by
 obtain⟨⟨cls,dd,data,sl⟩,ho,hc,n,hd⟩:=id ht
 obtain⟨⟨cls2,dd2,data2,sl2⟩,ho2,hc2,n2,hd2⟩:=id hb
 simp only at hc hd hc2 hd2
 subst hc hd hc2 hd2
 have e:vs.toArray++ws.toArray=(vs++ws).toArray:=by simp
 by_cases hw:ws=[]
 ·exact concat_meets ⟨_,ho,rfl⟩ ⟨_,ho2,rfl⟩ noFill_tuple_add seq_tuple_add qAu qAs (qAl _ _)
   (tuple_addW1 t b vs.toArray ws.toArray n n2 dd dd2 sl sl2 (by simpa using hv) (by simp[hw])) ⟨ho,ho2,h1 hw⟩
 ·refine concat_meets ⟨_,ho,rfl⟩ ⟨_,ho2,rfl⟩ noFill_tuple_add seq_tuple_add qAu qAs (qAl _ _)
   (tuple_addW2 t b vs.toArray ws.toArray n n2 dd dd2 sl sl2 (by simpa using hv) (by simpa using hw) (by rw[qM,qM];exact hsz)) ⟨ho,ho2,?_⟩
  rw[e]
  exact h2 hw
end
end HT
namespace L2
open PySem PySem.Spec PyProof.Rows
section
variable{X:Cx}{e:Expr}{te:TE}{lo hi:Option Expr}{tl th:TO}{pos p2:Pos}
noncomputable def zoj(K:qA):R2:=λx y H Q=>∃a b xs ys,x=.ref a/\y=.ref b/\SqT K H a xs/\SqT K H b ys/\xs≠[]/\xs.length+ys.length<=qH/\
 (ys=[]->Q (.ref a) H)/\(ys≠[]->∀p,H p=none->Q (.ref p) (upd H p (.tup (xs++ys))))
theorem Vals.nil_iff(r:Vals xs us):us=[]↔xs=[]:=by
 cases r with
 | nil=>simp
 | cons _ _=>simp
theorem zmb:OpR X (binaryOp .Add) (zoj X.K):=by
 intro pins s σ H x y v u Q I rx ry h
 obtain⟨a,b,xs,ys,rfl,rfl,ha,hb,hx,hz,q1,q2⟩:=h
 cases rx
 cases ry
 obtain⟨its,r1,p1,_⟩:=I.tuple ha
 obtain⟨its2,r2,p2,_⟩:=I.tuple hb
 refine HT.cat_tup p1 p2 (λz=>hx (r1.nil_iff.mp z)) (λz=>⟨.ref a,H,I,rfl,q1 (r2.nil_iff.mp z)⟩) (λz=>?_) (by rw[<- r1.length,<- r2.length];exact hz)
 refine⟨.ref s.heap.objs.size,_,I.laid (t':=s.toks) (o:=.tup (xs++ys)) (λb ob q=>qB _ q) (qG _) ?_,rfl,q2 (λw=>z (r2.nil_iff.mpr w)) _ (I.hok.fresh (qG _))⟩
 exact⟨by rw[qO];exact hz,_,r1.append r2,IsTup.new _ _⟩
end
noncomputable def ixN(n:Nat)(i:Int):Option Nat:=if 0<=i then(if i<n then some i.toNat else none)else if -(n:Int)<=i then some (i+n).toNat else none
noncomputable def atI{α:Type}(xs:List α)(i:Int):Option α:=(ixN xs.length i).bind λj=>xs[j]?
theorem zmc(h:ixN n i=some j):seqIndex? i n=some j/\j<n/\-(n:Int)<=i/\i<n:=by
 unfold ixN at h
 by_cases h0:0<=i
 ·rw[if_pos h0]at h
  by_cases h1:i<n
  ·rw[if_pos h1]at h
   have e:i.toNat=j:=qN h
   exact⟨by rw[seqIndex_of h0 h1,e],by omega,by omega,h1⟩
  ·rw[if_neg h1]at h;cases h
 ·rw[if_neg h0]at h
  by_cases h1:-(n:Int)<=i
  ·rw[if_pos h1]at h
   have e:(i+n).toNat=j:=qN h
   exact⟨by rw[seqIndex_neg (by omega) h1,e],by omega,h1,by omega⟩
  ·rw[if_neg h1]at h;cases h
theorem zfe{xs:List α}(h:atI xs i=some v):∃j,seqIndex? i xs.length=some j/\xs[j]?=some v/\j<xs.length/\-(xs.length:Int)<=i/\i<xs.length:=by
 unfold atI at h
 cases e:ixN xs.length i with
 | none=>rw[e]at h;cases h
 | some j=>
  rw[e]at h
  obtain⟨h1,h2,h3,h4⟩:=zmc e
  exact⟨j,h1,h,h2,h3,h4⟩
noncomputable def PlainIx(b:Expr):Prop:=∀o i,subscripted b false o i=operate [o,i] (getItem o i)
noncomputable def IxR(X:Cx)(r:R2):Prop:=
 ∀(value slice:Expr)(pins:List (Addr×Obj))(s:Shared)(σ:St)(H:Hp)(x y:V)(v u:Value)(Q:VK),Inv X pins σ H s->RelV x v->RelV y u->r x y H Q->
  subscripted slice false v u=operate [v,u] (getItem v u)->wpAny (model X.prog X.w) X.A (subscriptTail value slice v u) (EP X pins σ Q) X.xe s
section
variable{X:Cx}{a b:Expr}{ta tb:TE}{pos:Pos}
theorem zqd(hr:IxR X r)(ha:PE X a ta)(hb:PE X b tb)(hs:PlainIx b):PE X (.Subscript a b pos) (tOp r ta tb):=by
 intro pins s σ H Q I h
 exact Subscript_ (binT ha hb I h λv u s2 x y H2 I2 rx ry q=>hr a b pins s2 σ H2 x y v u Q I2 rx ry q (hs _ _))
noncomputable def rIxL(K:qA):R2:=λx y H Q=>∃p xs i v,x=.ref p/\y=.int i/\SqL K H p xs/\atI xs i=some v/\Q v H
noncomputable def rIxT(K:qA):R2:=λx y H Q=>∃p xs i v,x=.ref p/\y=.int i/\SqT K H p xs/\atI xs i=some v/\Q v H
noncomputable def rIxS:R2:=λx y H Q=>∃z i c,x=.str z/\y=.int i/\z.length<=qH/\atI z.cps.toList i=some c/\Q (.str ⟨#[c]⟩) H
theorem zmd:IxR X (rIxL X.K):=by
 intro value slice pins s σ H x y v u Q I rx ry h hs
 obtain⟨p,xs,i,z,rfl,rfl,hq,he,q⟩:=h
 cases rx
 obtain⟨t,rfl⟩:=ry
 obtain⟨its,r,pl,hz⟩:=I.list hq
 obtain⟨j,h1,h2,h3,h4,h5⟩:=zfe he
 obtain⟨w,ew,rw'⟩:=r.get h2
 have hl:=r.length
 have hn:=zgd
 have fin:EP X pins σ Q w s:=⟨z,H,I,rw',q⟩
 by_cases h0:0<=i
 ·have hj:i.toNat=j:=by
   rw[seqIndex_of h0 h5]at h1
   exact qN h1
  exact item_listR pl.isList h0 (by omega) (by rw[hj];simpa using ew) fin hs
 ·have hj:(i+(its.toArray.size:Int)).toNat=j:=by
   rw[seqIndex_neg (by omega) h4]at h1
   rw[qM,<- hl]
   exact qN h1
  exact subscriptTail_builtinR (x:=w) pl.isList.typeIs slot_list_getitem.lookup
   (wpAny_getItem_list_neg (Q:=λr s'=>r=w/\EP X pins σ Q r s') pl.isList (by omega) (by rw[qM]<;>omega) (by omega) (by rw[hj];simpa using ew) ⟨rfl,fin⟩) hs
theorem zok:IxR X (rIxT X.K):=by
 intro value slice pins s σ H x y v u Q I rx ry h hs
 obtain⟨p,xs,i,z,rfl,rfl,hq,he,q⟩:=h
 cases rx
 obtain⟨t,rfl⟩:=ry
 obtain⟨its,r,pl,hz⟩:=I.tuple hq
 obtain⟨j,h1,h2,h3,h4,h5⟩:=zfe he
 obtain⟨w,ew,rw'⟩:=r.get h2
 have hl:=r.length
 have hn:=zgd
 have fin:EP X pins σ Q w s:=⟨z,H,I,rw',q⟩
 exact subscriptTail_builtinR (x:=w) pl.typeIs slot_tuple_getitem.lookup
  (getItem_tuple (j:=j) (Q:=λr s'=>r=w/\EP X pins σ Q r s') pl (by omega) (by omega) (by rw[qM,<- hl];exact h1) (by simpa using ew) ⟨rfl,fin⟩) hs
theorem zol:IxR X rIxS:=by
 intro value slice pins s σ H x y v u Q I rx ry h hs
 obtain⟨z,i,c,rfl,rfl,hz,he,q⟩:=h
 obtain⟨t,rfl⟩:=rx
 obtain⟨t',rfl⟩:=ry
 obtain⟨j,h1,h2,h3,h4,h5⟩:=zfe he
 have hl:z.cps.toList.length=z.length:=by simp[Str.length]
 rw[hl]at h1 h4 h5
 have hn:=zgd
 exact tail_any (typeIs_str s z t) slot_str_getitem.lookup (getItem_str (c:=c) (by
  have e1:decide (i < -(2 ^ 63:Int))=false:=decide_eq_false (by omega)
  have e2:decide (i>=2 ^ 63)=false:=decide_eq_false (by omega)
  rw[e1,e2,Bool.or_false]) (by rw[h1];simpa using h2) ⟨.str ⟨#[c]⟩,H,I.tok _,⟨_,rfl⟩,q⟩) hs
variable{o e:Expr}{es:List Expr}{to:TE}{t:TA}{name:Str}{apos cpos:Pos}{T id:String}{r:V->List V->Hp->VK->Prop}
end
noncomputable def MtM(X:Cx)(id:String)(r:V->List V->Hp->VK->Prop):Prop:=
 ∀(pins:List (Addr×Obj))(s:Shared)(σ:St)(H:Hp)(x:V)(xs:List V)(v:Value)(us:List Value)(Q:VK),Inv X pins σ H s->RelV x v->Vals xs us->r x xs H Q->
  wpAny (model X.prog X.w) X.A (call (.builtin id) (v::us)) (EP X pins σ Q) X.xe s
theorem Vals.one:∀{x:V}{us:List Value},Vals [x] us->∃u,us=[u]/\RelV x u
 | _,_,.cons r .nil=>⟨_,rfl,r⟩
section
variable{X:Cx}{pins:List (Addr×Obj)}{σ:St}{H:Hp}{s:Shared}{l b:Addr}{xs ys zs:List V}
theorem Inv.lset{its its':List Value}{f:Array Value->Array Value}(I:Inv X pins σ H s)(hH:H l=some (.lst xs))
  (e:s.heap.get? l=some {cls:=.type "list",data:=.seq its.toArray n}) (hf:f its.toArray=its'.toArray) (hv:Vals ys its') (hz:ys.length<=qH) :
  Inv X pins σ (upd H l (.lst ys)) {s with heap:=s.heap.update l (Obj.mapSeq f),toks:=t'}:=by
 have q:=PySem.IsL.update e f
 rw[hf]at q
 refine I.write (x:=l) (e:=l) (by rw[hH];exact trivial) (.inl rfl) (λb' u hb hu=>(qA0 s.heap (Obj.mapSeq f) (qA2 hb)).trans hu) ⟨_,q⟩ ?_
 exact⟨hz,its',_,hv,q⟩
theorem Inv.lnew{its:List Value}(I:Inv X pins σ H s)(hv:Vals ys its)(hz:ys.length<=qH) :
  Inv X pins σ (upd H s.heap.objs.size (.lst ys)) {s with heap:=s.heap.push {cls:=.type "list",data:=.seq its.toArray},toks:=t'}:=
 I.laid (λ_ _ q=>qB _ q) (qG _) ⟨hz,its,0,hv,qAH _ rfl⟩
theorem Inv.fresh(I:Inv X pins σ H s):H s.heap.objs.size=none:=I.hok.fresh (qG _)
theorem Inv.lstM(I:Inv X pins σ H s)(hH:H l=some (.lst xs)):xs.length<=qH/\∃(its:List Value)(n:Nat),Vals xs its/\xs.length=its.length/\s.heap.get? l=some {cls:=.type "list",data:=.seq its.toArray n}:=by
 obtain⟨z,its,n,r,e⟩:=I.hok l _ hH
 exact⟨z,its,n,r,r.length,e⟩
theorem zjx(h:n<=qH):Builtin.List.listTooLong n=false:=by
 unfold Builtin.List.listTooLong
 exact decide_eq_false (by omega)
end
section
variable{X:Cx}
noncomputable def zme:V->List V->Hp->VK->Prop:=λx vs H Q=>∃l xs y,x=.ref l/\vs=[y]/\H l=some (.lst xs)/\xs.length<qH/\Q .non (upd H l (.lst (xs++[y])))
theorem zht:MtM X "list.append" zme:=by
 intro pins s σ H x vs v us Q I rx rv h
 obtain⟨l,xs,y,rfl,rfl,hH,hz,q⟩:=h
 cases rx
 obtain⟨u,rfl,ru⟩:=rv.one
 obtain⟨z,its,n,r,hl,e⟩:=I.lstM hH
 refine call_meets F.slot_list_append ⟨_,e,rfl⟩ F.entry_list_append (F.args_list_append_2 _ _) (PySem.list_append l its.toArray n u (by rw[qM];omega)) ⟨e,?_⟩
 refine⟨.non,_,I.lset (its':=its++[u]) hH e (by simp) (r.append (.cons ru .nil)) ?_,rfl,q⟩
 rw[qO,List.length_singleton]
 omega
noncomputable def zmf:V->List V->Hp->VK->Prop:=λx vs H Q=>∃l b xs zs,x=.ref l/\vs=[.ref b]/\H l=some (.lst xs)/\H b=some (.lst zs)/\xs.length+zs.length<=qH/\Q .non (upd H l (.lst (xs++zs)))
theorem zom:MtM X "list.extend" zmf:=by
 intro pins s σ H x vs v us Q I rx rv h
 obtain⟨l,b,xs,zs,rfl,rfl,hH,hB,hz,q⟩:=h
 cases rx
 obtain⟨u,rfl,ru⟩:=rv.one
 cases ru
 obtain⟨z,its,n,r,hl,e⟩:=I.lstM hH
 obtain⟨z2,its2,n2,r2,hl2,e2⟩:=I.lstM hB
 have hsz:its.toArray.size+its2.toArray.size<=qH:=by rw[qM,qM];omega
 have hlong:¬(!its.toArray.isEmpty&&Builtin.List.listTooLong (its.toArray.size+its2.toArray.size))=true:=by
  rw[zjx hsz,Bool.and_false]
  exact qI
 refine call_meets F.slot_list_extend ⟨_,e,rfl⟩ F.entry_list_extend (F.args_list_extend_2 _ _)
  (AutoSeq1.list_extend_list_list_0 l its.toArray n b its2.toArray n2 hlong (by rw[qM];omega) (by omega)) ⟨e,e2,?_⟩
 refine⟨.non,_,I.lset (its':=its++its2) hH e (by simp) (r.append r2) ?_,rfl,q⟩
 rw[qO]
 omega
noncomputable def rCat:R2:=λx y H Q=>∃l b xs zs,x=.ref l/\y=.ref b/\H l=some (.lst xs)/\H b=some (.lst zs)/\xs.length+zs.length<=qH/\∀p,H p=none->Q (.ref p) (upd H p (.lst (xs++zs)))
theorem zon:OpR X (binaryOp .Add) rCat:=by
 intro pins s σ H x y v u Q I rx ry h
 obtain⟨l,b,xs,zs,rfl,rfl,hH,hB,hz,q⟩:=h
 cases rx
 cases ry
 obtain⟨z,its,n,r,hl,e⟩:=I.lstM hH
 obtain⟨z2,its2,n2,r2,hl2,e2⟩:=I.lstM hB
 refine PySem.P.add_list e e2 ?_ (by rw[qM,qM];omega)
 have ea:its.toArray++its2.toArray=(its++its2).toArray:=by simp
 rw[ea]
 exact⟨.ref _,_,I.lnew (t':=s.toks) (r.append r2) (by rw[qO];omega),rfl,q _ I.fresh⟩
end
section
variable{prog:Program}{w:World}{A:Around}{E:Value->Shared->Prop}{s:Shared}
set_option maxRecDepth 100000 in
end
set_option genInjectivity false in
set_option genInjectivity false in
section
variable{X:Cx}{pins:List (Addr×Obj)}{σ:St}{H:Hp}{s:Shared}{a:Addr}{y d:V}{u r:Value}{o:Option V}{A:Around}{E:Value->Shared->Prop}
end
end L2
namespace Att
open PySem PySem.W PySem.Calls PyProof.Rows
theorem zcv:∀(ns:List Int)(vs:List Value),WellAll P h vs (ns.map WData.int)->IntsAre vs ns:=by
 intro ns
 induction ns with
 | nil=>
  intro vs w
  rw[List.map_nil]at w
  cases w
  exact .nil
 | cons n ns ih=>
  intro vs w
  rw[qu]at w
  cases w with
  | cons a b=>
   cases a
   exact .cons _ _ (ih _ b)
theorem zhu{l:OpenLaw}(hn:l.most=some n){h:Heap}
  (hpre:l.row.toRowW.claim.pre args=true)(hwl:WellAll P h vals args) :
  ∃a vs ns,vals=[Value.ref a]/\args=[WData.list (ns.map WData.int)]/\h.get? a=some {cls:=.type "list",data:=.seq vs.toArray}/\IntsAre vs ns/\ns.length<=n:=by
 have hsh:WShape.hasAll [] args [.list .int]=true:=(pre_splitW hpre).1
 have hc:l.pre.holds [] {args:=args}=true:=(pre_splitW hpre).2
 obtain⟨d,r,rfl,h1,h2⟩:=hasAllW_cons hsh
 obtain rfl:=hasAllW_nil h2
 obtain⟨xs,rfl,h3⟩:=hasW_list h1
 obtain⟨ns,rfl⟩:=items_int h3
 have hlen:ns.length<=n:=by
  unfold OpenLaw.pre at hc
  have h4:(WTm.not (.lt (.lit (.int (n:Int))) (.len (.arg 0)))).holds [] {args:=[.list (ns.map .int)]}=true:=by
   have h4:=(holds_andW hc).1
   rw[hn]at h4
   exact h4
  have h5:=condW_of h4 (w_not (w_lt w_lit (w_len_list (w_arg rfl))))
  rw[qT]at h5
  refine Nat.le_of_not_lt λq=>?_
  have q':(n:Int)<((ns.length:Nat):Int):=by omega
  first
   | (rw[decide_eq_true q']at h5;exact absurd h5 (by decide))
   | (simp at h5;omega)
 cases hwl with
 | cons w1 w2=>
  cases w2
  cases w1 with
  | list ho hall=>exact⟨_,_,ns,rfl,rfl,ho,zcv ns _ hall,hlen⟩
theorem zhv(l:OpenLaw)(args:List WData):l.row.toRowW.claim.post args (.bool true) args=true:=
 postW_of (r:=l.row.toRowW) (X:=(true==true))
  (show WShape.has [] (.bool true) .bool=true by first|rfl|decide|simp[WShape.has,WShape.arms,WShape.armsAll])
  (show(WTm.eq .res (.lit (.bool true))).value [] {args:=args,res:=some (.bool true),after:=args}=some (.bool (true==true))from w_eq_bool (w_res rfl) w_lit) rfl
theorem attach_call{l:OpenLaw}{XP:(Str->Option Value)->Heap->Prop}{YP:World->Heap->Prop}{d:DefRec}
  (hn:l.most=some n)(hdf:d.params.defaults=[])
  (call:∀(w:World)(s₀ s₁:Shared)(mg mb:Str->Option Value)(fa:Addr)(o:Obj)(pm cd doc:Value)(a:Addr)(vs:List Value)(ns:List Int),
   Ground q loose [] XP w s₀ mg mb s₁.heap->YP w s₁.heap->
   s₁.heap.get? fa=some o->o.data=.func (docDef d.name d.params d.body d.scope pm cd doc)->s₁.heap.CodeRec cd d.name->mg d.name=some (.ref fa)->
   s₁.heap.get? a=some {cls:=.type "list",data:=.seq vs.toArray}->IntsAre vs ns->ns.length<=n->s₁.gens=#[]->
   codeAny (model l.prog w) callerA (.call (.ref fa) ⟨[.ref a],[]⟩) (λr s'=>r=.ok (.ret (.bool true))/\OldK s₁.heap s'.heap/\s'.os=s₁.os/\AllBare s'.gens) s₁) :
  WalkO q loose XP YP l.row.toRowW d [] (λf vs=>PySem.call f vs):=by
 intro w s₀ s₁ mg mb G Y fa o pm cd doc dV kV ho hd hcd hD hmg hg args vals as hpre hlay hrd hwl hlo
 obtain rfl:dV=.none:=Dflts.none hD hdf
 obtain rfl:kV=.none:=Dflts.noKw hD
 obtain⟨a,vs,ns,rfl,rfl,hobj,hints,hlen⟩:=zhu hn hpre hwl
 refine enter_call (qAc (call w s₀ s₁ mg mb fa o pm cd doc a vs ns G Y ho (fd_plain hd) hcd hmg hobj hints hlen hg) λr s' hq=>?_)
 obtain⟨rfl,h2,h3,h4⟩:=hq
 exact⟨.inl ⟨.bool true,.bool true,[],rfl,λ_=>rfl,.bool true,zhv l _,λ_=>⟨List.Pairwise.nil,λ_ hm=>(nomatch hm)⟩⟩,h2,h3,h4⟩
end Att
namespace L2
open PySem PySem.Spec PyProof.Rows
theorem zek:∀{vs:List Value}{ns:List Int},IntsAre vs ns->Vals (ns.map V.int) vs
 | _,_,.nil=>.nil
 | _,_,.cons n t h=>.cons ⟨t,rfl⟩ (zek h)
noncomputable def Only(H:Hp):Prop:=∀b,H b=none\/∃o xs,H b=some (.frz o (.lst xs))
theorem zjy{K:qA}{mg mb:Str->Option Value}{s₁:Shared}{vs:List Value}{ns:List Int}
  (KX:K.In s₁.heap)(hns:s₁.heap.Ns qV mg)(hb:s₁.heap.Ns builtinsNs mb)(hbb:∀x:Str,x≠"__name__"->mb x=bootBuiltins x)(hlim:s₁.heap.NoLimit)(hg:s₁.gens=#[])
  (ha:s₁.heap.get? a=some {cls:=.type "list",data:=.seq vs.toArray}) (hi:IntsAre vs ns) (hl:ns.length<=qH) (hr:Room k callerA)
  (F:∀base:Heap,K.In base->base.Ns qV mg->FnOk P w K mg base CX k fa fd [x] sp)(hbind:∀(s:Shared) (u:Value),BindsTo s fd ⟨[u],[]⟩ [(x,u)])
  (hsp:∀H:Hp,Only H->SqL K H a (ns.map V.int)->sp [.ref a] H (λv _=>v=.bl true) λ_ _ _=>False)
  (hCX:∀H e s',CX [] H s₁ (λ_ _ _=>False) e s'->False) :
  codeAny (model P w) callerA (.call (.ref fa) ⟨[.ref a],[]⟩) (λr s'=>r=.ok (.ret (.bool true))/\OldK s₁.heap s'.heap/\s'.os=s₁.os/\AllBare s'.gens) s₁:=by
 have rv:=zek hi
 have lenV:=hi.length
 have core:∀H:Hp,Only H->SqL K H a (ns.map V.int)->HOk P w H s₁.heap->(∀b,H b≠none->b=a)->(H a≠none->K.lookup a=none)->
   codeAny (model P w) callerA (.call (.ref fa) ⟨[.ref a],[]⟩) (λr s'=>r=.ok (.ret (.bool true))/\OldK s₁.heap s'.heap/\s'.os=s₁.os/\AllBare s'.gens) s₁:=by
  intro H hO hS hok hA hK
  have base_of:∀{b:Addr}{o:Obj},s₁.heap.get? b=some o->H b=none->(hidT s₁.heap H).get? b=some o:=λe n=>zjs e n
  have noA:∀{b:Addr}{o:Obj}{es:Array DictEntry}{ep:Nat},s₁.heap.get? b=some o->o.data=.dict es ep->H b=none:=λ{b o es ep} e d=>by
   cases q:H b with
   | none=>rfl
   | some u=>
    have e':b=a:=hA b (by rw[q];simp)
    subst e'
    rw[ha]at e;cases e
    have d':Data.seq vs.toArray _=Data.dict es ep:=d
    cases d'
  have nsK:∀{b:Addr}{m:Str->Option Value},s₁.heap.Ns b m->(hidT s₁.heap H).Ns b m:=λ{b m} ⟨o,es,ep,e,d,r⟩=>⟨o,es,ep,base_of e (noA e d),d,r⟩
  have hKb:K.In (hidT s₁.heap H):=λb o e=>base_of (KX b o e) (by
   cases q:H b with
   | none=>rfl
   | some u=>
    have e':b=a:=hA b (by rw[q];simp)
    subst e'
    rw[hK (by rw[q];simp)]at e;cases e)
  have hM:Mod K mg (hidT s₁.heap H):=⟨hKb,nsK hns,⟨mb,nsK hb,hbb⟩,let⟨mc,h1,h2⟩:=hlim;⟨mc,nsK h1,h2⟩⟩
  have e0:Env0 P w K mg (hidT s₁.heap H) callerA [] s₁ H:=⟨rfl,hM,λb o e=>zls e,Nat.le_of_eq (zhh _ _),trivial,λb hb=>absurd (show b∈([]:List Addr)from hb) (by simp),hok,.of_eq hg⟩
  refine qAc ((F _ hKb (nsK hns)).run callerA [] s₁ H ⟨[.ref a],[]⟩ [.ref a] [.ref a] _ _ hr e0 (hbind s₁ (.ref a)) (.cons rfl .nil) (hsp H hO hS)) λr s' h=>?_
  cases r with
  | error e=>exact(hCX H e s' h).elim
  | ok fl=>
   cases fl with
   | next=>exact False.elim h
   | brk=>exact False.elim h
   | cont=>exact False.elim h
   | ret u=>
    obtain⟨v,H',os,bare,un,hok',r',q⟩:=h
    have q':v=.bl true:=q
    subst q'
    obtain rfl:u=Value.bool true:=r'
    refine⟨rfl,OldK.of_keep λb o e=>?_,os,bare⟩
    cases q:H b with
    | none=>exact un.keep b o e q (by intro z;exact absurd (show b∈([]:List Addr)from z) (by simp)) (by simp)
    | some u=>
     rcases hO b with z|⟨ob,xs,z⟩
     ·rw[q]at z;cases z
     ·have z2:=un.frzs b ob _ z
      obtain⟨e1,_⟩:=hok b _ z
      obtain⟨e2,_⟩:=hok' b _ z2
      rw[e]at e1;cases e1
      exact e2
 cases hk:K.lookup a with
 | some o=>
  have e:=KX a o hk
  rw[ha]at e
  cases e
  refine core (λ_=>none) (λ_=>.inl rfl) (.inr ⟨_,vs.toArray,_,hk,rfl,rfl,rfl,by rw[qM,lenV];exact hl,by simpa using rv⟩) (λb u z=>by have z':(none:Option HO)=some u:=z;cases z') (λb z=>absurd rfl z) λz=>absurd rfl z
 | none=>
  refine core (λb=>if b=a then some (.frz {cls:=.type "list",data:=.seq vs.toArray} (.lst (ns.map V.int)))else none) (λb=>?_) (.inl (.inr ⟨{cls:=.type "list",data:=.seq vs.toArray},if_pos rfl⟩)) (λb u z=>?_) (λb z=>?_) λ_=>hk
  ·by_cases hb:b=a
   ·exact .inr ⟨_,_,if_pos hb⟩
   ·exact .inl (if_neg hb)
  ·by_cases hb:b=a
   ·have z':=(if_pos hb).symm.trans z
    cases z'
    subst hb
    exact⟨ha,by rw[qT];exact hl,vs,_,rv,ha⟩
   ·have z':=(if_neg hb).symm.trans z
    cases z'
  ·by_cases hb:b=a
   ·exact hb
   ·exact absurd (if_neg hb) z
theorem walk_of{l:PySem.W.OpenLaw}{XP:(Str->Option Value)->Heap->Prop}{YP:World->Heap->Prop}{d:DefRec}{K:Params->qA}{CX:World->CXT}{sp:World->Sp}
  (hn:l.most=some n)(hn2:n<=qH)(hdf:d.params.defaults=[])(hr:Room k callerA)
  (hY:∀(w:World) (h:Heap),YP w h->(K w.params).In h)
  (F:∀(w:World)(mg:Str->Option Value)(fa:Addr)(h:Heap),(K w.params).In h->h.Ns qV mg->mg d.name=some (.ref fa)->
   ∃fd:qk,(∀(s:Shared)(u:Value),BindsTo s fd ⟨[u],[]⟩ [(x,u)])/\
    ∀base:Heap,(K w.params).In base->base.Ns qV mg->FnOk l.prog w (K w.params) mg base (CX w) k fa fd [x] (sp w))
  (hsp:∀(w:World) (H:Hp) (a:Addr) (ns:List Int),ns.length<=n->Only H->SqL (K w.params) H a (ns.map V.int)->sp w [.ref a] H (λv _=>v=.bl true) λ_ _ _=>False)
  (hCX:∀(w:World) (H:Hp) (s:Shared) (e:Value) (s':Shared),CX w [] H s (λ_ _ _=>False) e s'->False) :
  PySem.W.WalkO q loose XP YP l.row.toRowW d [] (λf vs=>PySem.call f vs):=by
 refine Att.attach_call hn hdf λw s₀ s₁ mg mb fa o pm cd doc a vs ns G Y ho hd hcd hmg hobj hints hlen hg=>?_
 have KX:=hY w _ Y
 obtain⟨fd,hb,hF⟩:=F w mg fa _ KX G.T.g hmg
 exact zjy KX G.T.g G.T.b G.T.builtins G.T.nolimit hg hobj hints (qP hlen hn2) hr hF hb (λH hO hS=>hsp w H a ns hlen hO hS) λH e s'=>hCX w H s₁ e s'
end L2
namespace L2
open PySem PySem.Spec PyProof.Rows
noncomputable def zmg(s:Stmt)(j:Nat):Stmt:=match s with
 | .ClassDef _ _ _ body _ _ _ _ _ _ _=>body.getD j (.Pass ⟨0,0,0,0⟩)
 | _=>.Pass ⟨0,0,0,0⟩
noncomputable def zbn(s:Stmt):Arguments:=match s with
 | .FunctionDef _ a _ _ _ _ _ _ _ _=>a
 | _=>{posonlyargs:=[],args:=[],vararg:=none,kwonlyargs:=[],kw_defaults:=[],kwarg:=none,defaults:=[]}
noncomputable def zbe(s:Stmt):List Stmt:=match s with
 | .FunctionDef _ _ b _ _ _ _ _ _ _=>b
 | _=>[]
noncomputable def zad(s:Stmt):Scope:=match s with
 | .FunctionDef _ _ _ _ _ _ sc _ _ _=>sc
 | _=>{kind:=.function,names:=[],isGenerator:=false,isCoroutine:=false}
noncomputable abbrev CX0:CXT:=λ_ _ _ _ _ _=>False
noncomputable abbrev E0:XK:=λ_ _ _=>False
theorem zqe:zhr CX0 X E0:=λ_ _ _ _ _ _ _ h=>h.elim
set_option genInjectivity false in
structure Fun(K:qA)(x qual:Str)(st:Stmt)(f:Addr)(fd:qk):Prop where
 ex:∃(oc:Value)(od:Option Addr)(kV doc pm:Value)(an:Option Addr)(cdv ct:Value)(osl:Array (Option Value)),
  fd=qr x qual (zbn st) (zbe st) (zad st) .none kV doc pm an cdv ct/\K.lookup f=some ⟨oc,od,.func fd,osl⟩/\qAP K cdv qual=true
 kp:q9 K (.ref f)=true
section
variable{P:Program}{w:World}{K:qA}{mg:Str->Option Value}{base:Heap}
theorem Fun.ok{x qual:Str}{st:Stmt}{f:Addr}{fd:qk}{N ps:List Str}{k:Nat}{sp:Sp}(F:Fun K x qual st f fd)(S:FnScope N ps (zad st))(len:∀vs H Q E,sp vs H Q E->vs.length=ps.length)
  (hbody:∀(cdv:Value)(A:Around)(outer:List Env)(s:Shared)(H:Hp)(vs:List V)(Q:VK)(E:XK),Room k (A.deeper (envOfC qual (zad st) s.heap.objs.size f cdv))->sp vs H Q E->
   ∃t,PSs (cxOf CX0 P w K mg base N qual (zad st) f cdv A outer s H E).nox (zbe st) t/\t {nx:=λ_ H'=>Q .non H',rt:=Q} (zej N vs) H):FnOk P w K mg base CX0 (k+1) f fd ps sp:=by
 obtain⟨oc,od,kV,doc,pm,an,cdv,ct,osl,rfl,lk,hcd⟩:=F.ex
 refine zqc lk hcd S len λA outer s H vs Q E hr hsp=>?_
 obtain⟨t,h,q⟩:=hbody cdv A outer s H vs Q E hr hsp
 exact⟨t,h.nox,q⟩
theorem Fun.binds{x qual:Str}{st:Stmt}{f:Addr}{fd:qk}{ps:List Str}(F:Fun K x qual st f fd)
  (h:∀(kV doc pm:Value) (an:Option Addr) (cdv ct:Value) (us:List Value),us.length=ps.length->bindArgs (qr x qual (zbn st) (zbe st) (zad st) .none kV doc pm an cdv ct) ⟨us,[]⟩=pure (ps.zip us)):zcr K fd ps []:=by
 obtain⟨oc,od,kV,doc,pm,an,cdv,ct,osl,rfl,lk,hcd⟩:=F.ex
 exact .all (h kV doc pm an cdv ct)
theorem zlc{x qual:Str}{st:Stmt}{f:Addr}{oc:Value}{od an:Option Addr}{osl:Array (Option Value)}{kV doc pm cdv ct:Value}(l:K.lookup f=some ⟨oc,od,.func (qr x qual (zbn st) (zbe st) (zad st) .none kV doc pm an cdv ct),osl⟩)
  (c:qAP K cdv qual=true) (k:q9 K (.ref f)=true):Fun K x qual st f (qr x qual (zbn st) (zbe st) (zad st) .none kV doc pm an cdv ct):=⟨⟨oc,od,kV,doc,pm,an,cdv,ct,osl,rfl,l,c⟩,k⟩
end
theorem zjz{A:Around}(hr:Room k A):A.units+1<cLine:=Nat.lt_of_le_of_lt (Nat.add_le_add_left (by decide:1<=64) _) hr.units
section
variable{X:Cx}
theorem pv(i:Nat)(hN:X.N[i]?=some x:=by rfl)(hv:visB X.env.scope x=true:=by rfl)(hd:(x==("__debug__":Str))=false:=by decide)
  (hcd:(x==("__classdict__":Str))=false:=by decide):PE X (.Name x pos) (tVar i):=zla hN (visB.of hv) hd hcd
end
theorem iteF{A B:Prop}(h:B):if false=true then A else B:=by
 rw[if_neg qI]
 exact h
theorem iteT{A B:Prop}(h:A):if true=true then A else B:=by
 rw[if_pos rfl]
 exact h
noncomputable def Same(H H':Hp):Prop:=∀b o,H b=some o->H' b=some o
theorem Same.refl(H:Hp):Same H H:=λ_ _ h=>h
theorem Same.trans(a:Same H H1)(b:Same H1 H2):Same H H2:=λc o h=>b c o (a c o h)
theorem Same.free(e:Same H H')(h:H' l=Option.none):H l=Option.none:=by
 cases q:H l with
 | none=>rfl
 | some o=>
  rw[e l o q]at h
  cases h
theorem Same.seq{K:qA}{H H':Hp}{a:Addr}{xs:List V}(e:Same H H')(h:SqL K H a xs):SqL K H' a xs:=by
 rcases h with(h|⟨o,h⟩)|h
 ·exact .inl (.inl (e _ _ h))
 ·exact .inl (.inr ⟨o,e _ _ h⟩)
 ·exact .inr h
end L2
set_option maxHeartbeats 4000000
namespace L2
open PySem PySem.Spec PyProof.Rows
noncomputable def clos(cells:List (Str×Addr)):List (Str×NameKind)->List (Str×Addr)->List (Str×Addr)
 | [],acc=>acc
 | (n,k)::r,acc=>if k==.free then clos cells r ((n,(cells.lookup n).getD 0)::acc)else clos cells r acc
theorem zdt{cells:List (Str×Addr)}:∀{names:List (Str×NameKind)}{acc:List (Str×Addr)},(∀y∈names,y.2=.free->∃c,cells.lookup y.1=some c)->∀p∈clos cells names acc,p∈acc\/((p.1,NameKind.free)∈names/\cells.lookup p.1=some p.2)
 | [],acc,_,p,hp=>.inl hp
 | (n,k)::r,acc,h,p,hp=>by
  unfold clos at hp
  have hr:∀y∈r,y.2=.free->∃c,cells.lookup y.1=some c:=λy hy=>h y (qC _ hy)
  split at hp
  ·rename_i hk
   rcases zdt hr p hp with q|q
   ·rcases qg.mp q with q|q
    ·subst q
     have hk':k=.free:=by simpa using hk
     subst hk'
     obtain⟨c,hc⟩:=h (n,.free) qf rfl
     exact .inr ⟨qf,by show cells.lookup n=some ((cells.lookup n).getD 0);rw[hc];rfl⟩
    ·exact .inl q
   ·exact .inr ⟨qC _ q.1,q.2⟩
  ·rcases zdt hr p hp with q|q
   ·exact .inl q
   ·exact .inr ⟨qC _ q.1,q.2⟩
theorem zdu:∀{names:List (Str×NameKind)}{acc:List (Str×Addr)},∀p∈acc,p∈clos cells names acc
 | [],acc,p,hp=>hp
 | (n,k)::r,acc,p,hp=>by
  unfold clos
  split
  ·exact zdu p (qC _ hp)
  ·exact zdu p hp
theorem zdv:∀{names:List (Str×NameKind)}{acc:List (Str×Addr)},(x,NameKind.free)∈names->∃c,(x,c)∈clos cells names acc
 | [],_,h=>by simp at h
 | (n,k)::r,acc,h=>by
  unfold clos
  rcases qg.mp h with e|h
  ·cases e
   rw[if_pos (show(NameKind.free==NameKind.free)=true by decide)]
   exact⟨_,zdu _ qf⟩
  ·split
   ·exact zdv h
   ·exact zdv h
theorem zci:∀{l:List (Str×α)},(x,c)∈l->∃c',l.lookup x=some c'
 | [],h=>by simp at h
 | (k,v)::r,h=>by
  rw[qq]
  cases hb:x==k with
  | true=>exact⟨v,rfl⟩
  | false=>
   rcases qg.mp h with e|h
   ·cases e;simp at hb
   ·exact zci h
theorem zdw{scope:Scope}{env:Env}(h:∀y∈scope.names,y.2=.free->∃c,env.cells.lookup y.1=some c):closureFor scope env=pure (clos env.cells scope.names []):=by
 unfold closureFor
 have key:∀(names:List (Str×NameKind))(acc:List (Str×Addr)),(∀y∈names,y.2=.free->∃c,env.cells.lookup y.1=some c)->
   (forIn names acc (λ(x:Str×NameKind) (r:List (Str×Addr))=>(if(x.2==.free)=true then(do let a <- cellOf env x.1;pure (ForInStep.yield ((x.1,a)::r)))else pure (ForInStep.yield r):Sem (ForInStep (List (Str×Addr))))))=pure (clos env.cells names acc):=by
  intro names
  induction names with
  | nil=>intro acc _;rfl
  | cons y r ih=>
   intro acc hy
   obtain⟨n,k⟩:=y
   have hr:=λy (hm:y∈r)=>hy y (qC _ hm)
   rw[List.forIn_cons]
   unfold clos
   cases hk:(k==NameKind.free)with
   | true=>
    have hk':k=.free:=by simpa using hk
    subst hk'
    obtain⟨c,hc⟩:=hy (n,.free) qf rfl
    have e1:cellOf env n=pure c:=by unfold cellOf;rw[hc]
    simp only[if_true]
    have hc':env.cells.lookup n=some c:=hc
    rw[e1,hc']
    simp only[pure_bind,Option.getD_some]
    exact ih _ hr
   | false=>
    simp only[qAR,if_false,pure_bind]
    exact ih _ hr
 simpa using key scope.names [] h
theorem zbg:∀(names:List (Str×NameKind))(n:Nat)(acc:List (Str×Addr)),cellsFrom n names acc=cellsFrom n names []++acc
 | [],_,_=>rfl
 | (name,kind)::r,n,acc=>by
  unfold cellsFrom
  split
  ·rw[zbg r (n+1) ((name,n)::acc),zbg r (n+1) [(name,n)],List.append_assoc];rfl
  ·exact zbg r n acc
theorem zbh:∀(names:List (Str×NameKind))(n:Nat)(acc:List (Str×Addr)),(x,c)∈cellsFrom n names acc->(x,c)∈acc\/(x,NameKind.cell)∈names
 | [],_,_,h=>.inl h
 | (name,kind)::r,n,acc,h=>by
  unfold cellsFrom at h
  split at h
  ·rename_i hk
   have hk':kind=.cell:=by simpa using hk
   subst hk'
   rcases zbh r _ _ h with q|q
   ·rcases qg.mp q with q|q
    ·cases q;exact .inr qf
    ·exact .inl q
   ·exact .inr (qC _ q)
  ·rcases zbh r _ _ h with q|q
   ·exact .inl q
   ·exact .inr (qC _ q)
theorem zbw:∀{l r:List (Str×α)},(l++r).lookup x=(l.lookup x).or (r.lookup x)
 | [],_=>by simp
 | (k,v)::l,r=>by
  rw[List.cons_append,qq,qq]
  cases x==k with
  | true=>rfl
  | false=>exact zbw
theorem zbc{env:Env}:∀{names:List (Str×NameKind)},
  (names.map λ(n,k)=>if(k==NameKind.free&&env.scope.kind==.function&&env.kindOf n==some .cell)then(n,NameKind.cell)else(n,k)).lookup x=some k'->
  ∃k,names.lookup x=some k/\(k'=k\/(k=.free/\k'=.cell))
 | [],h=>by simp at h
 | (n,k)::r,h=>by
  rw[qu]at h
  by_cases hc:(k==NameKind.free&&env.scope.kind==.function&&env.kindOf n==some .cell)=true
  ·simp only[hc,if_true]at h
   rw[qq]at h ⊢
   cases hx:x==n with
   | true=>
    rw[hx]at h
    have hk:k=.free:=by simp at hc;exact hc.1.1
    exact⟨k,rfl,.inr ⟨hk,(qN h).symm⟩⟩
   | false=>rw[hx]at h;exact zbc h
  ·simp only[hc,qAR,if_false]at h
   rw[qq]at h ⊢
   cases hx:x==n with
   | true=>rw[hx]at h;exact⟨k,rfl,.inl (qN h).symm⟩
   | false=>rw[hx]at h;exact zbc h
theorem zbs{env:Env}:∀{names:List (Str×NameKind)},names.lookup x=some .free->
  ((names.map λ(n,k)=>if(k==NameKind.free&&env.scope.kind==.function&&env.kindOf n==some .cell)then(n,NameKind.cell)else(n,k)).lookup x=some .free\/
   (names.map λ(n,k)=>if(k==NameKind.free&&env.scope.kind==.function&&env.kindOf n==some .cell)then(n,NameKind.cell)else(n,k)).lookup x=some .cell)
 | [],h=>by simp at h
 | (n,k)::r,h=>by
  rw[qu]
  rw[qq]at h
  by_cases hc:(k==NameKind.free&&env.scope.kind==.function&&env.kindOf n==some .cell)=true
  ·simp only[hc,if_true]
   rw[qq]
   cases hx:x==n with
   | true=>exact .inr rfl
   | false=>rw[hx]at h;exact zbs h
  ·simp only[hc,qAR,if_false]
   rw[qq]
   cases hx:x==n with
   | true=>rw[hx]at h;exact .inl h
   | false=>rw[hx]at h;exact zbs h
theorem zgw{E:Value->Shared->Prop}{s:Shared}{scope:Scope}{env:Env}{Q:Env->Shared->Prop}
  (hQ:∀h',(∀b o,s.heap.get? b=some o->h'.get? b=some o)->h'.Ns s.heap.objs.size (λ_=>none)->(∀n c,(n,c)∈cellsFrom (s.heap.objs.size+1) scope.names []->h'.IsCell c none/\s.heap.objs.size+1<=c)->
   ((cellsFrom (s.heap.objs.size+1) scope.names []).Pairwise λx y=>x.2≠y.2)->
   Q {scope:=scope,locals:=s.heap.objs.size,globals:=globals,cells:=cellsFrom (s.heap.objs.size+1) scope.names []++cl,qual:=qual,func:=none,code:=env.code,frame:=env.frame,builtins:=env.builtins} {s with heap:=h'}) :
  wpAny M A (newFunctionEnv scope globals cl [] qual none .none (some env)) Q E s:=by
 simp only[newFunctionEnv,Option.isSome_some,if_true]
 refine qS (wpAny_alloc ?_)
 refine qS (wpAny_layCells _ (λname kind cells=>by cases hkc:kind==NameKind.cell<;>simp[hkc]) _ _ _ _ ?_)
 have ok:=cellsFrom_ok scope.names (s.heap.push {cls:=.type "dict",data:=.dict #[]}) (s.heap.objs.size+1) [] ⟨λ_ _ hm=>(nomatch hm),List.Pairwise.nil⟩ (by rw[qAY];exact qG _)
 rw[qAY]at ok
 rw[show({s with heap:=s.heap.push {cls:=.type "dict",data:=.dict #[]}}:Shared).heap.objs.size=s.heap.objs.size+1 from qAY ..]
 rw[zbg]
 refine qS ?_
 refine ql (ql ?_)
 exact hQ _ (λb o e=>pushCells_keeps _ _ b o (qB _ e)) ((Heap.Ns.new s.heap (.type "dict")).keeps (pushCells_keeps _ _)) ok.empty ok.apart
noncomputable def cxComp(X:Cx)(scope:Scope)(N' own:List Str)(cl:List (Str×Addr))(C:Addr)(s:Shared)(H:Hp)(fp:List Addr):Cx:=
 {X with N:=N',s₀:=s,H₀:=H,env:=compEnvC scope cl C X.env,outer:=X.stack,stack:=X.stack,ex:=fp,fn:=λx=>own.contains x,pn:=[],xe:=λ_ _=>False}
structure CompOk(X:Cx)(scope:Scope)(N' own:List Str)(fr:List Nat):Prop where
 kind:scope.kind=.function
 names:∀y∈scope.names,scope.names.lookup y.1=some y.2
 up:∀y∈scope.names,y.2=.free->(X.env.kindOf y.1=some .cell\/X.env.kindOf y.1=some .free)
 nm:N'=own++fr.map (λj=>X.N.getD j Str.empty)
 fr:∀j∈fr,j<X.N.length/\scope.names.lookup (X.N.getD j Str.empty)=some .free
 own:∀x∈own,scope.names.lookup x=some .local\/scope.names.lookup x=some .cell
noncomputable def tau(own:List Str)(fr:List Nat)(σ:St):St:=own.map (λ_=>none)++fr.map (λj=>σ.getD j none)
section
variable{X:Cx}{pins:List (Addr×Obj)}{σ:St}{H:Hp}{s:Shared}{scope:Scope}{N' own:List Str}{fr:List Nat}
theorem zdi(c:CompOk X scope N' own fr)(ok:X.Ok):∀y∈scope.names,y.2=.free->∃a,X.env.cells.lookup y.1=some a:=λy hy e=>ok.has y.1 (c.up y hy e)
theorem zka{h':Heap}(c:CompOk X scope N' own fr)(I:Inv X pins σ H s)
  (hf:∀b∈fp,FpOk X pins H b)(ho:∀b∈fp,∃o,s.heap.get? b=some o/\∀v,o.data≠.cell v)
  (keep:∀b o,s.heap.get? b=some o->h'.get? b=some o)(ns:h'.Ns s.heap.objs.size (λ_=>none))
  (cells:∀n c,(n,c)∈cellsFrom (s.heap.objs.size+1) scope.names []->h'.IsCell c none/\s.heap.objs.size+1<=c)
  (apart:(cellsFrom (s.heap.objs.size+1) scope.names []).Pairwise λx y=>x.2≠y.2) :
  Inv (cxComp X scope N' own (cellsFrom (s.heap.objs.size+1) scope.names []++clos X.env.cells scope.names []) s.heap.objs.size s H fp) [] (tau own fr σ) H {s with heap:=h'}:=by
 have found:=zdi c I.ok
 have clm:∀x a,(x,a)∈clos X.env.cells scope.names []->(x,NameKind.free)∈scope.names/\X.env.cells.lookup x=some a:=λx a hm=>by
  rcases zdt found (x,a) hm with q|q
  ·simp at q
  ·exact q
 have look:∀x a,(cellsFrom (s.heap.objs.size+1) scope.names []++clos X.env.cells scope.names []).lookup x=some a->
   ((x,a)∈cellsFrom (s.heap.objs.size+1) scope.names []/\(x,NameKind.cell)∈scope.names)\/((x,NameKind.free)∈scope.names/\X.env.cells.lookup x=some a):=λx a e=>by
  rw[zbw]at e
  cases q:(cellsFrom (s.heap.objs.size+1) scope.names []).lookup x with
  | some b=>
   rw[q]at e
   cases e
   have hm:=qQ q
   rcases zbh _ _ _ hm with z|z
   ·simp at z
   ·exact .inl ⟨hm,z⟩
  | none=>
   rw[q]at e
   exact .inr (clm x a (qQ e))
 have lookF:∀x a,(x,NameKind.free)∈scope.names->X.env.cells.lookup x=some a->(cellsFrom (s.heap.objs.size+1) scope.names []++clos X.env.cells scope.names []).lookup x=some a:=λx a hx e=>by
  rw[zbw]
  have q:(cellsFrom (s.heap.objs.size+1) scope.names []).lookup x=none:=by
   cases q:(cellsFrom (s.heap.objs.size+1) scope.names []).lookup x with
   | none=>rfl
   | some b=>
    rcases zbh _ _ _ (qQ q)with z|z
    ·simp at z
    ·have h1:=c.names _ hx
     have h2:=c.names _ z
     rw[h1]at h2
     cases h2
  rw[q]
  obtain⟨d,hd⟩:=zdv (cells:=X.env.cells) (acc:=[]) hx
  obtain⟨d',hd'⟩:=zci hd
  have:=(clm x d' (qQ hd')).2
  rw[e]at this
  cases this
  exact hd'
 have below:∀b o,s.heap.get? b=some o->b<s.heap.objs.size:=λb o e=>qD e
 have cold:∀x a,X.env.cells.lookup x=some a->a<s.heap.objs.size:=λx a e=>let⟨v,q⟩:=I.cell x a e;q.lt
 refine⟨⟨I.ok.mod,c.kind,I.ok.glob,I.ok.blt,qG _,?inj,?has,?cab,I.ok.hd,I.ok.frames,.inl rfl,?exf,I.bs,qP I.ok.bsz I.sz,?noex,?exfs,I.stack,I.stkFree⟩,
  rfl,I.bare,Un.kept keep,⟨_,ns,?loc⟩,?cell,I.hok.fresh (qG _),?freeC,?pin,I.hok.kept keep,?len⟩
 case inj=>
  intro x y a h1 h2
  rcases look x a h1 with⟨m1,k1⟩|⟨k1,e1⟩<;>rcases look y a h2 with⟨m2,k2⟩|⟨k2,e2⟩
  ·exact name_of_addr apart m1 m2
  ·exact absurd (qE (cold y a e2) (qAf (cells x a m1).2)) (qAA _)
  ·exact absurd (qE (cold x a e1) (qAf (cells y a m2).2)) (qAA _)
  ·exact I.ok.inj x y a e1 e2
 case has=>
  intro x hx
  have hx':(∃k,scope.names.lookup x=some k/\(k=.cell\/k=.free)):=by
   rcases hx with hx|hx
   ·obtain⟨k,e,q⟩:=zbc (env:=X.env) (names:=scope.names) hx
    rcases q with q|⟨q,_⟩
    ·exact⟨k,e,.inl q.symm⟩
    ·exact⟨k,e,.inr q⟩
   ·obtain⟨k,e,q⟩:=zbc (env:=X.env) (names:=scope.names) hx
    rcases q with q|⟨q,_⟩
    ·exact⟨k,e,.inr q.symm⟩
    ·exact⟨k,e,.inr q⟩
  obtain⟨k,e,q⟩:=hx'
  show ∃a,(cellsFrom (s.heap.objs.size+1) scope.names []++clos X.env.cells scope.names []).lookup x=some a
  rcases q with rfl|rfl
  ·obtain⟨a,ha⟩:=zds (n:=s.heap.objs.size+1) e
   exact⟨a,by rw[zbw,ha];rfl⟩
  ·obtain⟨a,ha⟩:=found _ (qQ e) rfl
   exact⟨a,lookF x a (qQ e) ha⟩
 case cab=>
  intro x a hx e
  have hx:own.contains x=true:=hx
  have hx':x∈own:=by simpa using hx
  rcases look x a e with⟨m1,_⟩|⟨k1,_⟩
  ·have:=(cells x a m1).2
   show s.heap.objs.size<=a
   omega
  ·have h1:=c.names _ k1
   rcases c.own x hx' with h2|h2
   ·rw[h1]at h2;cases h2
   ·rw[h1]at h2;cases h2
 case exf=>
  intro b hb
  obtain⟨o,e,d⟩:=ho b hb
  refine⟨qj (below b o e),λx a q z=>?_⟩
  subst z
  rcases look x a q with⟨m1,_⟩|⟨k1,e1⟩
  ·exact absurd (qE (below a o e) (qAf (cells x a m1).2)) (qAA _)
  ·obtain⟨v,o',e',d'⟩:=I.cell x a e1
   rw[e]at e'
   cases e'
   exact d v d'
 case noex=>
  intro b o e hb
  rcases(hf b hb).2.2.2.1 with z|z
  ·exact I.ok.noex b o e z
  ·exact absurd (qE (qE (qD e) I.ok.bsz) z) (qAA _)
 case exfs=>
  intro b hb z
  rcases qg.mp (I.stkSub b z)with q|q
  ·exact(hf b hb).2.1 q
  ·exact(hf b hb).2.2.1 q
 case loc=>
  intro i x v h1 h2 h3
  have h1:N'[i]?=some x:=h1
  rw[c.nm]at h1
  unfold tau at h2
  by_cases hi:i<own.length
  ·rw[qw (by simpa using hi),qX]at h2
   cases q:own[i]? with
   | none=>rw[q]at h2;cases h2
   | some z=>rw[q]at h2;cases h2
  ·rw[qa (by simpa using hi),qX,qT]at h2
   rw[qa (by simpa using hi),qX]at h1
   cases q:fr[i - own.length]? with
   | none=>rw[q]at h2;cases h2
   | some j=>
    rw[q]at h1 h2
    have e1:X.N.getD j Str.empty=x:=qN h1
    have e2:σ.getD j none=some v:=qN h2
    obtain⟨hj,hfree⟩:=c.fr j (qi q)
    rw[e1]at hfree
    have hNj:X.N[j]?=some x:=by
     rw[<- e1,qb,qe hj];rfl
    have hσj:σ[j]?=some (some v):=by
     rw[qb]at e2
     cases z:σ[j]? with
     | none=>rw[z]at e2;cases e2
     | some w=>rw[z]at e2;rw[show w=some v from e2]
    have hmem:(x,NameKind.free)∈scope.names:=qQ hfree
    have hup:=c.up _ hmem rfl
    obtain⟨m,hn,hl⟩:=I.loc
    obtain⟨u,ru,lk⟩:=hl j x v hNj hσj (by rcases hup with z|z;exact .inr (.inl z);exact .inr (.inr z))
    refine⟨u,ru,.inr ⟨?_,?_⟩⟩
    ·rcases zbs (env:=X.env) (names:=scope.names) hfree with z|z
     ·exact .inr z
     ·exact .inl z
    ·rcases lk with⟨k1,_⟩|⟨_,a,ha,hc⟩
     ·rcases hup with z|z
      ·rw[show X.env.kindOf x=some .cell from z]at k1;cases k1
      ·rw[show X.env.kindOf x=some .free from z]at k1;cases k1
     ·exact⟨a,lookF x a hmem ha,hc.keeps keep⟩
 case cell=>
  intro x a e
  rcases look x a e with⟨m1,_⟩|⟨k1,e1⟩
  ·exact⟨_,(cells x a m1).1⟩
  ·obtain⟨v,q⟩:=I.cell x a e1
   exact⟨v,q.keeps keep⟩
 case freeC=>
  intro x a e
  rcases look x a e with⟨m1,_⟩|⟨k1,e1⟩
  ·exact I.hok.fresh (by have:=(cells x a m1).2;omega)
  ·exact I.freeC x a e1
 case pin=>intro p hp;exact absurd (show p∈([]:List (Addr×Obj))from hp) (by simp)
 case len=>
  show(tau own fr σ).length=N'.length
  rw[c.nm];unfold tau;simp
end
noncomputable abbrev TM:=St->Hp->(St->Hp->Prop)->Prop
noncomputable def PM(X:Cx)(act:Sem Unit)(t:TM):Prop:=
 ∀(pins:List (Addr×Obj))(s:Shared)(σ:St)(H:Hp)(Q:St->Hp->Prop),Inv X pins σ H s->t σ H Q->wpAny (model X.prog X.w) X.A act (λ_ s'=>∃σ' H',Inv X pins σ' H' s'/\Q σ' H') X.xe s
noncomputable def PF(X:Cx)(ifs:List Expr)(t:TT):Prop:=
 ∀(pins:List (Addr×Obj))(s:Shared)(σ:St)(H:Hp)(Q:Bool->Hp->Prop),Inv X pins σ H s->t σ H Q->
  wpAny (model X.prog X.w) X.A (forIn ifs true λc r=>if r=true then do let ok <- isTrue c X.env (eval c X.env);pure (ForInStep.yield ok)else pure (ForInStep.yield r)) (TP X pins σ Q) X.xe s
noncomputable def tAll:TT:=λ_ H Q=>Q true H
section
variable{X:Cx}
theorem zoo:PF X [] tAll:=λ_ s σ H Q I h=>wpAny_tests_nil ⟨H,I,h⟩
noncomputable def zop(p:Addr)(te:TE):TM:=λσ H Q=>te σ H λv H1=>∃ys,H1 p=some (.lst ys)/\ys.length<qH/\Q σ (upd H1 p (.lst (ys++[v])))
theorem zmh(h:PE X elt te):PM X (do let _ <- call (.builtin "list.append") [.ref p,<- eval elt X.env]) (zop p te):=by
 intro pins s σ H Q I q
 refine qS (thn (h pins s σ H _ I q) λu s1 ⟨v,H1,I1,r,ys,hp,hz,q1⟩=>?_)
 refine qS (thn (zht pins s1 σ H1 (.ref p) [v] (.ref p) [u] (λ_ H2=>Q σ H2) I1 rfl (.cons r .nil) ⟨p,ys,v,rfl,rfl,hp,hz,q1⟩) λ_ s2 ⟨_,H2,I2,_,q2⟩=>?_)
 exact ql ⟨σ,H2,I2,q2⟩
noncomputable def zkb(J:It)(g:TG)(tt:TT)(tm:TM):TM:=λσ H Q=>∃W:Nat->Nat->St->Hp->Prop,(∃m,W 0 m σ H)/\∀i m σ H,W i m σ H->
 (J.stop i H/\Q σ H)\/(J.go i H/\∃N:St->Hp->Prop,(∀σ' H',N σ' H'->∃m',m'<m/\W (i+1) m' σ' H')/\∀x H',J.yld i H x H'->g x σ H' λσ2 H2=>tt σ2 H2 λb H3=>if b=true then tm σ2 H3 N else N σ2 H3)
theorem zff{tn:Nat->Heap->Prop}{s:Shared}{Q:St->Hp->Prop}
  (hx:X.xe=λ_ _=>False)(hc:X.calm=true)
  (eq:compTurn (.ListComp elt0 gens scope cpos) depth (.ref it) acc X.env=(do
   standAt ip
   match <- pyNext (.ref it)with
   | none=>pure (.done .next)
   | some v=>
    letOwnedTupleGo target (.ref it) v
    assign target X.env v
    let mut ok:=true
    for c in ifs do
     if ok then ok <- isTrue c X.env (eval c X.env)
    if ok then emit
    again (.compLoop (.ListComp elt0 gens scope cpos) depth (.ref it) acc X.env)))
  (T:Turn X.prog X.w X.K target J fp it tn)(hg:PG X target g)(ht:PF X ifs tt)(hm:PM X emit tm)
  (I:Inv X pins σ H s)(st:tn 0 s.heap)(hf:∀b∈fp,FpOk X pins H b)(h:zkb J g tt tm σ H Q) :
  codeAny (model X.prog X.w) X.A (.compLoop (.ListComp elt0 gens scope cpos) depth (.ref it) acc X.env) (λr s'=>r=.ok .next/\∃σ' H',Inv X pins σ' H' s'/\Q σ' H') s:=by
 obtain⟨W,⟨m0,w0⟩,turn⟩:=h
 have stat:∀{H':Hp},(∀b∈fp,H' b=none)->∀b∈fp,FpOk X pins H' b:=λhn b hb=>⟨hn b hb,(hf b hb).2⟩
 have xe:∀{α:Type}{m:Sem α}{Q':α->Shared->Prop}{E:Value->Shared->Prop}{s:Shared},wpAny (model X.prog X.w) X.A m Q' X.xe s->wpAny (model X.prog X.w) X.A m Q' E s:=λq=>qAr q (λ_ _ z=>z) λ_ _ z=>by rw[hx]at z;exact z.elim
 refine codeAny_loop rfl (λn s'=>∃i σ' H',Inv X pins σ' H' s'/\tn i s'.heap/\(∀b∈fp,H' b=none)/\W i n σ' H') ?_ m0 ⟨0,σ,H,I,st,λb hb=>(hf b hb).1,w0⟩
 rintro n s3 ⟨i,σ3,H3,I3,st3,fr3,w3⟩
 show wpAny _ X.A ((compTurn (.ListComp elt0 gens scope cpos) depth (.ref it) acc X.env).onRaise (λx=>do noteFrame x X.env;theTreesLotGoes x)) _ _ s3
 refine wpAny_noted ?_
 rw[eq]
 refine qS (wpAny_standAt (qS ?_))
 rcases turn i n σ3 H3 w3 with⟨stop,qn⟩|⟨go,N,hN,step⟩
 ·refine thn (T.done X rfl rfl rfl hc i pins s3 σ3 H3 _ I3 (stat fr3) st3 stop) λr s4 ⟨hr,I4⟩=>?_
  subst hr
  exact ql ⟨rfl,σ3,H3,I4,qn⟩
 ·refine thn (T.item X rfl rfl rfl hc i pins s3 σ3 H3 _ I3 (stat fr3) st3 go) λr s4 ⟨u,hr,h4⟩=>?_
  subst hr
  refine qS (thn h4 λ_ s5 ⟨x,H5,I5,r5,y5,st5,fr5⟩=>?_)
  have I5':=I5.pinned (stat fr5) (T.obj _ _ st5)
  refine qS (xe (thn (hg _ s5 σ3 H5 x u _ I5' r5 (step x H5 y5)) λ_ s6 ⟨σ6,H6,I6,q6⟩=>?_))
  have again:∀{σ7:St}{H7:Hp}{s7:Shared},Inv X (pins++zed fp s5.heap) σ7 H7 s7->N σ7 H7->∃m,m<n/\∃i σ' H',Inv X pins σ' H' s7/\tn i s7.heap/\(∀b∈fp,H' b=none)/\W i m σ' H':=λ{σ7 H7 s7} I7 n7=>by
   obtain⟨m',hm,w7⟩:=hN σ7 H7 n7
   refine⟨m',hm,i+1,σ7,H7,I7.unpinned,T.keep _ _ _ st5 λb hb o e=>(I7.pin (b,o) (qL _ (qL _ (zbv hb e)))).1,λb hb=>?_,w7⟩
   obtain⟨o,e,d⟩:=T.obj _ _ st5 b hb
   exact(I7.pin (b,o) (qL _ (qL _ (zbv hb e)))).2.1
  refine qS (xe (thn (ht _ s6 σ6 H6 _ I6 q6) λok s7 ⟨H7,I7,q7⟩=>?_))
  cases ok with
  | false=>
   rw[if_neg (by decide)]at q7
   exact ql ⟨rfl,again I7 q7⟩
  | true=>
   rw[if_pos rfl]at q7
   refine qS (xe (thn (hm _ s7 σ6 H7 _ I7 q7) λ_ s8 ⟨σ8,H8,I8,q8⟩=>?_))
   exact ql ⟨rfl,again I8 q8⟩
end
section
variable{X:Cx}{pins:List (Addr×Obj)}{σ:St}{H:Hp}{s:Shared}{scope:Scope}{N' own:List Str}{fr:List Nat}
theorem zfg{elt0 target iter:Expr}{ifs:List Expr}{rest:List Comprehension}{cpos:Pos}{g:TG}{tt:TT}{tm:Addr->TM}{emit:Value->Env->Sem Unit}{it:Addr}{fp:List Addr}{tn:Nat->Heap->Prop}{J:It}{Q:VK}{E:Value->Shared->Prop}{RR:Value->Addr->Result->Shared->Prop}
  (c:CompOk X scope N' own fr)(hc:X.calm=true)
  (eq:∀it acc env,compTurn (.ListComp elt0 (⟨target,iter,ifs,0⟩::rest) scope cpos) 0 it acc env=(do
   standAt iter.pos
   match <- pyNext it with
   | none=>pure (.done .next)
   | some v=>
    letOwnedTupleGo target it v
    assign target env v
    let mut ok:=true
    for c in ifs do
     if ok then ok <- isTrue c env (eval c env)
    if ok then emit acc env
    again (.compLoop (.ListComp elt0 (⟨target,iter,ifs,0⟩::rest) scope cpos) 0 it acc env)))
  (T:Turn X.prog X.w X.K target J fp it tn)
  (hb:∀(cl:List (Str×Addr)) (C:Addr) (s:Shared) (H:Hp) (fp:List Addr) (p:Addr),Inv X pins σ H s->(∀b∈fp,FpOk X pins H b)->PG (cxComp X scope N' own cl C s H fp) target g/\PF (cxComp X scope N' own cl C s H fp) ifs tt/\PM (cxComp X scope N' own cl C s H fp) (emit (.ref p) (compEnvC scope cl C X.env)) (tm p))
  (I:Inv X pins σ H s)(st:tn 0 s.heap)(hf:∀b∈fp,FpOk X pins H b)
  (h:∀p,H p=none->zkb J g tt (tm p) (tau own fr σ) (upd H p (.lst [])) (λ_ H'=>Q (.ref p) H'))
  (hRR:∀(p C:Addr) (m:Str->Option Value) (H':Hp) (s':Shared),Inv X pins σ H' s'->s'.heap.Ns C m->FpOk X pins H' C->Q (.ref p) H'->RR (.ref p) C (.ok .next) s') :
  wpAny (model X.prog X.w) X.A (newList []) (λacc s₃=>wpAny (model X.prog X.w) X.A (newFunctionEnv scope X.env.globals (clos X.env.cells scope.names []) [] X.env.qual none .none (some X.env)) (λcenv s₄=>
   codeAny (model X.prog X.w) X.A (.compStart (.ListComp elt0 (⟨target,iter,ifs,0⟩::rest) scope cpos) 0 (.ref it) acc {cenv with scope:=relabel scope X.env}) (RR acc cenv.locals) s₄) E s₃) E s:=by
 refine wpAny_newObj_type ?_
 have I3:Inv X pins σ (upd H s.heap.objs.size (.lst [])) {s with heap:=s.heap.push {cls:=.type "list",dict:=none,data:=.seq ([]:List Value).toArray}}:=I.lnew (t':=s.toks) .nil (qAQ _)
 have hn0:H s.heap.objs.size=none:=I.hok.fresh (qG _)
 generalize e3:({s with heap:=s.heap.push {cls:=.type "list",dict:=none,data:=.seq ([]:List Value).toArray}}:Shared)=s3 at I3 ⊢
 have k3:∀b o,s.heap.get? b=some o->s3.heap.get? b=some o:=λb o e=>by rw[<- e3];exact qB _ e
 have hne:∀b∈fp,b≠s.heap.objs.size:=λb hb=>by
  obtain⟨o,e,_⟩:=T.obj _ _ st b hb
  exact qj (qD e)
 have hf3:∀b∈fp,FpOk X pins (upd H s.heap.objs.size (.lst [])) b:=λb hb=>⟨by rw[zah (hne b hb)];exact(hf b hb).1,(hf b hb).2⟩
 have st3:tn 0 s3.heap:=T.keep _ _ _ st λb _ o e=>k3 b o e
 refine zgw λh' keep ns cells apart=>?_
 have I4:=zka c I3 hf3 (T.obj _ _ st3) keep ns cells apart
 have st4:tn 0 h':=T.keep _ _ _ st3 λb _ o e=>keep b o e
 obtain⟨hg,ht,hm⟩:=hb (cellsFrom (s3.heap.objs.size+1) scope.names []++clos X.env.cells scope.names []) s3.heap.objs.size s3 (upd H s.heap.objs.size (.lst [])) fp s.heap.objs.size I3 hf3
 have hf4:∀b∈fp,FpOk (cxComp X scope N' own (cellsFrom (s3.heap.objs.size+1) scope.names []++clos X.env.cells scope.names []) s3.heap.objs.size s3 (upd H s.heap.objs.size (.lst [])) fp) [] (upd H s.heap.objs.size (.lst [])) b:=λb hb=>
  ⟨(hf3 b hb).1,(I4.ok.exf b hb).1,I4.ok.exfs b hb,.inl hb,(I4.ok.exf b hb).2,λp hp=>absurd (show p∈([]:List (Addr×Obj))from hp) (by simp)⟩
 have loop:codeAny (model X.prog X.w) X.A (.compLoop (.ListComp elt0 (⟨target,iter,ifs,0⟩::rest) scope cpos) 0 (.ref it) (.ref s.heap.objs.size) (compEnvC scope (cellsFrom (s3.heap.objs.size+1) scope.names []++clos X.env.cells scope.names []) s3.heap.objs.size X.env)) (RR (.ref s.heap.objs.size) s3.heap.objs.size) {s3 with heap:=h'}:=by
  refine qAc (zff (X:=cxComp X scope N' own (cellsFrom (s3.heap.objs.size+1) scope.names []++clos X.env.cells scope.names []) s3.heap.objs.size s3 (upd H s.heap.objs.size (.lst [])) fp) (pins:=[]) rfl hc (eq _ _ _) T hg ht hm I4 st4 hf4 (h _ hn0)) λr s5 hr=>?_
  obtain⟨rfl,σ5,H5,I5,q5⟩:=hr
  obtain⟨m,hn,_⟩:=id I5.loc
  have u5:Un (frs X.stack) fp (upd H s.heap.objs.size (.lst [])) H5 s3.heap s5.heap:=I5.base
  have hok5:HOk X.prog X.w H5 s5.heap:=I5.hok
  have os5:s5.os=s3.os:=I5.os
  have bare5:=I5.bare
  have free5:H5 s3.heap.objs.size=none:=I5.free
  have hn:s5.heap.Ns s3.heap.objs.size m:=hn
  clear I5
  obtain⟨hh,gg,dd,tk,os'⟩:=s5
  obtain rfl:os'=s3.os:=os5
  have I6:Inv X pins σ H5 {s3 with heap:=hh,gens:=gg,drawn:=dd,toks:=tk}:=I3.call (ch:=fp) u5 hok5 bare5 λb hb=>⟨(hf3 b hb).2.2.2.1,(hf3 b hb).2.1,(hf3 b hb).2.2.2.2.1,(hf3 b hb).2.2.2.2.2⟩
  exact hRR _ _ m H5 _ I6 hn (I3.fpOk (qG _) free5) q5
 exact codeAny_compStart_list loop (T.self _ 0 _ _ _ st4 loop)
theorem zgx{elt0 target iter:Expr}{ifs:List Expr}{rest:List Comprehension}{cpos:Pos}{g:TG}{tt:TT}{tm:Addr->TM}{emit:Value->Env->Sem Unit}{it:Addr}{fp:List Addr}{tn:Nat->Heap->Prop}{J:It}{Q:VK}{E:Value->Shared->Prop}{RR:Value->Addr->Result->Shared->Prop}
  (c:CompOk X scope N' own fr)(hc:X.calm=true)
  (eq:∀it acc env,compTurn (.ListComp elt0 (⟨target,iter,ifs,0⟩::rest) scope cpos) 0 it acc env=(do
   standAt iter.pos
   match <- pyNext it with
   | none=>pure (.done .next)
   | some v=>
    letOwnedTupleGo target it v
    assign target env v
    let mut ok:=true
    for c in ifs do
     if ok then ok <- isTrue c env (eval c env)
    if ok then emit acc env
    again (.compLoop (.ListComp elt0 (⟨target,iter,ifs,0⟩::rest) scope cpos) 0 it acc env)))
  (T:Turn X.prog X.w X.K target J fp it tn)
  (hb:∀(cl:List (Str×Addr)) (C:Addr) (s:Shared) (H:Hp) (fp:List Addr) (p:Addr),PG (cxComp X scope N' own cl C s H fp) target g/\PF (cxComp X scope N' own cl C s H fp) ifs tt/\PM (cxComp X scope N' own cl C s H fp) (emit (.ref p) (compEnvC scope cl C X.env)) (tm p))
  (I:Inv X pins σ H s)(st:tn 0 s.heap)(hf:∀b∈fp,FpOk X pins H b)
  (h:∀p,H p=none->zkb J g tt (tm p) (tau own fr σ) (upd H p (.lst [])) (λ_ H'=>Q (.ref p) H'))
  (hRR:∀(p C:Addr) (m:Str->Option Value) (H':Hp) (s':Shared),Inv X pins σ H' s'->s'.heap.Ns C m->FpOk X pins H' C->Q (.ref p) H'->RR (.ref p) C (.ok .next) s') :
  wpAny (model X.prog X.w) X.A (newList []) (λacc s₃=>wpAny (model X.prog X.w) X.A (newFunctionEnv scope X.env.globals (clos X.env.cells scope.names []) [] X.env.qual none .none (some X.env)) (λcenv s₄=>
   codeAny (model X.prog X.w) X.A (.compStart (.ListComp elt0 (⟨target,iter,ifs,0⟩::rest) scope cpos) 0 (.ref it) acc {cenv with scope:=relabel scope X.env}) (RR acc cenv.locals) s₄) E s₃) E s:=zfg c hc eq T (λcl C s H fp p _ _=>hb cl C s H fp p) I st hf h hRR
noncomputable def zoq(wi:TI)(g:TG)(tt:TT)(tm:Addr->TM)(own:List Str)(fr:List Nat):TE:=λσ H Q=>wi σ H λJ H1=>∀p,H1 p=none->zkb J g tt (tm p) (tau own fr σ) (upd H1 p (.lst [])) (λ_ H'=>Q (.ref p) H')
theorem zkc{elt0 target iter:Expr}{ifs:List Expr}{rest:List Comprehension}{cpos:Pos}{wi:TI}{g:TG}{tt:TT}{tm:Addr->TM}{emit:Value->Env->Sem Unit}(c:CompOk X scope N' own fr)(hc:X.calm=true)
  (eq:∀it acc env,compTurn (.ListComp elt0 (⟨target,iter,ifs,0⟩::rest) scope cpos) 0 it acc env=(do
   standAt iter.pos
   match <- pyNext it with
   | none=>pure (.done .next)
   | some v=>
    letOwnedTupleGo target it v
    assign target env v
    let mut ok:=true
    for c in ifs do
     if ok then ok <- isTrue c env (eval c env)
    if ok then emit acc env
    again (.compLoop (.ListComp elt0 (⟨target,iter,ifs,0⟩::rest) scope cpos) 0 it acc env)))
  (hi:PI X target iter wi)
  (hb:∀(cl:List (Str×Addr)) (C:Addr) (s:Shared) (H:Hp) (fp:List Addr) (p:Addr),PG (cxComp X scope N' own cl C s H fp) target g/\PF (cxComp X scope N' own cl C s H fp) ifs tt/\PM (cxComp X scope N' own cl C s H fp) (emit (.ref p) (compEnvC scope cl C X.env)) (tm p))
  (hs:∀x,foldedSetIterable iter X.env x=pure x:=by intro _;rfl) :
  PE X (.ListComp elt0 (⟨target,iter,ifs,0⟩::rest) scope cpos) (zoq wi g tt tm own fr):=by
 intro pins s σ H Q I h
 rw[eval_ListComp]
 refine wpAny_comprehension_free (use:=none) rfl hs (zdw (zdi c I.ok)) c.kind (λy hy e=>(c.names y hy).trans (by rw[e])) ?_
 refine thn (hi pins s σ H _ I h) λv s1 h1=>thn h1 λitv s2 h2=>?_
 obtain⟨it,fp,tn,J,H2,e,I2,T,st2,f2,q⟩:=h2
 subst e
 refine zgx (Q:=Q) c hc eq T hb I2 st2 f2 q λp C m H' s' I' hn hC q'=>?_
 exact⟨m,hn,λh' sb=>⟨.ref p,H',I'.turned (t':=s'.toks) (λb o hb e=>(sb.2 b hb).trans e) hC.1 hC.2.1 hC.2.2.2.1 hC.2.2.2.2.1 hC.2.2.2.2.2,rfl,q'⟩⟩
end
section
variable{X:Cx}
section
variable{scope:Scope}{N' own:List Str}{fr:List Nat}{elt target iter:Expr}{ifs:List Expr}{cpos:Pos}{wi:TI}{g:TG}{tt:TT}{te:TE}
noncomputable def tComp1(wi:TI)(g:TG)(tt:TT)(te:TE)(own:List Str)(fr:List Nat):TE:=zoq wi g tt (λp=>zop p te) own fr
theorem zkd(c:CompOk X scope N' own fr)(hc:X.calm=true)(hi:PI X target iter wi)
  (hb:∀(cl:List (Str×Addr)) (C:Addr) (s:Shared) (H:Hp) (fp:List Addr),PG (cxComp X scope N' own cl C s H fp) target g/\PF (cxComp X scope N' own cl C s H fp) ifs tt/\PE (cxComp X scope N' own cl C s H fp) elt te)
  (hs:∀x,foldedSetIterable iter X.env x=pure x:=by intro _;rfl):PE X (.ListComp elt [⟨target,iter,ifs,0⟩] scope cpos) (tComp1 wi g tt te own fr):=
 zkc (emit:=λacc env=>do let _ <- call (.builtin "list.append") [acc,<- eval elt env]) c hc (λ_ _ _=>rfl) hi
  (λcl C s H fp p=>⟨(hb cl C s H fp).1,(hb cl C s H fp).2.1,zmh (hb cl C s H fp).2.2⟩) hs
end
noncomputable def zqf:R2:=λx y H Q=>∃z n,x=.str z/\y=.int n/\z.length<=1000/\-1000<=n/\n<=1000/\Q (.str (Txt.mul z n)) H
theorem zmi:OpR X (binaryOp .Mult) zqf:=by
 intro pins s σ H x y v u Q I rx ry h
 obtain⟨z,n,rfl,rfl,h1,h2,h3,q⟩:=h
 obtain⟨t,rfl⟩:=rx
 obtain⟨t',rfl⟩:=ry
 exact SB.mul (mulOk_of 1000 1000 h1 (by omega) (by omega) (by decide) (by decide)) λt' k=>⟨.str (Txt.mul z n),H,I.tok _,⟨_,rfl⟩,q⟩
end
mutual
def Rep(K:qA)(H:Hp):PyData->V->Prop
 | .none,v=>v=.non
 | .bool b,v=>v=.bl b
 | .int i,v=>v=.int i
 | .str x,v=>v=.str x
 | .list ds,v=>∃a xs,v=.ref a/\SqL K H a xs/\Reps K H ds xs
 | .tuple ds,v=>∃a xs,v=.ref a/\SqT K H a xs/\Reps K H ds xs
 | .dict _,_=>False
def Reps(K:qA)(H:Hp):List PyData->List V->Prop
 | [],xs=>xs=[]
 | d::ds,xs=>∃v vs,xs=v::vs/\Rep K H d v/\Reps K H ds vs
end
mutual
theorem zbo{X:Cx}{s:Shared}(I:Inv X pins σ H s):∀(d:PyData){v:V}{u:Value},Rep X.K H d v->RelV v u->∃as,Reads s.heap u d as
 | .none,v,u,h,r=>by unfold Rep at h;subst h;cases r;exact⟨_,.none⟩
 | .bool b,v,u,h,r=>by unfold Rep at h;subst h;cases r;exact⟨_,.bool b⟩
 | .int i,v,u,h,r=>by unfold Rep at h;subst h;obtain⟨t,rfl⟩:=r;exact⟨_,.int i t⟩
 | .str x,v,u,h,r=>by unfold Rep at h;subst h;obtain⟨t,rfl⟩:=r;exact⟨_,.str x t⟩
 | .list ds,v,u,h,r=>by
  unfold Rep at h
  obtain⟨a,xs,rfl,hq,hr⟩:=h
  cases r
  obtain⟨its,rv,p,hz⟩:=I.list hq
  obtain⟨as,q⟩:=reps_reads I ds hr rv
  obtain⟨o,h1,h2,n,h3⟩:=p.isList
  exact⟨_,reads_list_at h1 h2 h3 (by simpa using q)⟩
 | .tuple ds,v,u,h,r=>by
  unfold Rep at h
  obtain⟨a,xs,rfl,hq,hr⟩:=h
  cases r
  obtain⟨its,rv,p,hz⟩:=I.tuple hq
  obtain⟨as,q⟩:=reps_reads I ds hr rv
  obtain⟨o,h1,h2,n,h3⟩:=p
  exact⟨_,reads_tuple_at h1 h2 h3 (by simpa using q)⟩
 | .dict _,_,_,h,_=>by unfold Rep at h;exact h.elim
theorem reps_reads{X:Cx}{s:Shared}(I:Inv X pins σ H s):∀(ds:List PyData){vs:List V}{us:List Value},Reps X.K H ds vs->Vals vs us->∃as,ReadsAll s.heap us ds as
 | [],vs,us,h,r=>by unfold Reps at h;subst h;cases r;exact⟨_,.nil⟩
 | d::ds,vs,us,h,r=>by
  unfold Reps at h
  obtain⟨v,vs',rfl,h1,h2⟩:=h
  cases r with
  | cons r rr=>
   obtain⟨as,q1⟩:=zbo I d h1 r
   obtain⟨bs,q2⟩:=reps_reads I ds h2 rr
   exact⟨_,.cons q1 q2⟩
end
theorem SqT.same{K:qA}{H H':Hp}{a:Addr}{xs:List V}(h:Same H H')(q:SqT K H a xs):SqT K H' a xs:=by
 rcases q with(q|⟨o,q⟩)|q
 ·exact .inl (.inl (h _ _ q))
 ·exact .inl (.inr ⟨o,h _ _ q⟩)
 ·exact .inr q
mutual
theorem Rep.same{K:qA}{H H':Hp}(h:Same H H'):∀(d:PyData){v:V},Rep K H d v->Rep K H' d v
 | .none,v,q=>by unfold Rep at q ⊢;exact q
 | .bool b,v,q=>by unfold Rep at q ⊢;exact q
 | .int i,v,q=>by unfold Rep at q ⊢;exact q
 | .str x,v,q=>by unfold Rep at q ⊢;exact q
 | .list ds,v,q=>by
  unfold Rep at q ⊢
  obtain⟨a,xs,e,hq,hr⟩:=q
  exact⟨a,xs,e,h.seq hq,Reps.same h ds hr⟩
 | .tuple ds,v,q=>by
  unfold Rep at q ⊢
  obtain⟨a,xs,e,hq,hr⟩:=q
  exact⟨a,xs,e,SqT.same h hq,Reps.same h ds hr⟩
 | .dict _,v,q=>by unfold Rep at q;exact q.elim
theorem Reps.same{K:qA}{H H':Hp}(h:Same H H'):∀(ds:List PyData){vs:List V},Reps K H ds vs->Reps K H' ds vs
 | [],vs,q=>by unfold Reps at q ⊢;exact q
 | d::ds,vs,q=>by
  unfold Reps at q ⊢
  obtain⟨v,vs',e,h1,h2⟩:=q
  exact⟨v,vs',e,Rep.same h d h1,Reps.same h ds h2⟩
end
section
variable{X:Cx}
noncomputable def rEqD(K:qA)(neg:Bool):R2:=λx y H Q=>∃d e,Rep K H d x/\Rep K H e y/\qs d=true/\qs e=true/\Q (.bl (if neg then !PyData.eqv d e else qx d e)) H
theorem zor(hu:X.A.units+64<cLine):OpR X (compareOp .Eq) (rEqD X.K false):=by
 intro pins s σ H x y v u Q I rx ry h
 obtain⟨d,e,hd,he,sd,se,q⟩:=h
 obtain⟨as,r1⟩:=zbo I d hd rx
 obtain⟨bs,r2⟩:=zbo I e he ry
 exact eq_dataH r1 r2 sd se hu ⟨.bl (qx d e),H,I,rfl,q⟩
theorem zos(hu:X.A.units+64<cLine):OpR X (compareOp .NotEq) (rEqD X.K true):=by
 intro pins s σ H x y v u Q I rx ry h
 obtain⟨d,e,hd,he,sd,se,q⟩:=h
 obtain⟨as,r1⟩:=zbo I d hd rx
 obtain⟨bs,r2⟩:=zbo I e he ry
 exact ne_dataH r1 r2 sd se hu ⟨.bl (!PyData.eqv d e),H,I,rfl,q⟩
theorem zmj{bs:List Bool}:∀{its:List Value},Vals (bs.map V.bl) its->its=bs.map Value.bool:=by
 induction bs with
 | nil=>intro its r;cases r;rfl
 | cons b bs ih=>
  intro its r
  cases r with
  | cons r rr=>cases r;rw[ih rr];rfl
theorem zhw(bs:List Bool):(List.range bs.length).any (λi=>bs.getD i false)=bs.any id:=by
 rw[qAO,List.any_eq_true,List.any_eq_true]
 constructor
 ·rintro⟨i,hi,h⟩
  have hi:=qAv.mp hi
  rw[qb,qe hi]at h
  exact⟨_,List.getElem_mem hi,h⟩
 ·rintro⟨b,hb,h⟩
  obtain⟨i,hi,e⟩:=List.getElem_of_mem hb
  exact⟨i,qAv.mpr hi,by rw[qb,qe hi,e];exact h⟩
noncomputable def rAny(K:qA)(f:List Bool->Bool):List V->Hp->VK->Prop:=λxs H Q=>∃p bs,xs=[.ref p]/\SqL K H p (bs.map V.bl)/\Q (.bl (f bs)) H
theorem zke(hc:X.calm=true):CallR X (.builtin "any") (rAny X.K λbs=>bs.any id):=by
 intro pins s σ H xs us Q I r h
 obtain⟨p,bs,rfl,hq,q⟩:=h
 obtain⟨u,rfl,ru⟩:=zof r
 cases ru
 obtain⟨its,rv,pl,hz⟩:=I.list hq
 cases zmj rv
 have hne:p≠s.heap.objs.size:=by obtain⟨o,e,_⟩:=pl.isList;exact qj (qD e)
 refine call_any_walk (wpAny_pyIter_list pl.isList ⟨s.heap.objs.size,_,_,_,_,_,λi=>bs.getD i false,rfl,Walks.list (A:=X.A.in1) (show X.A.in1.handled=none from I.ok.hd hc) _ p hne (bs.map Value.bool).toArray,⟨⟨_,qAH _ rfl,rfl,rfl⟩,?_⟩,?_,?_⟩)
 ·obtain⟨o,e,z⟩:=pl.isList
  exact⟨o,qB _ e,z⟩
 ·intro i v s' Q' E' hv hQ
  have hv:(bs.map Value.bool)[i]?=some v:=by simpa using hv
  rw[qX]at hv
  cases e:bs[i]? with
  | none=>rw[e]at hv;cases hv
  | some b=>
   rw[e]at hv
   cases hv
   have z:bs.getD i false=b:=by rw[qb,e];rfl
   have hQ:Q' (bs.getD i false) s':=hQ
   rw[z]at hQ
   exact qAq hQ
 ·intro h' tk hk
  refine⟨.bl (bs.any id),H,?_,by rw[<- zhw bs];simp;rfl,q⟩
  exact I.kept (t':=tk) λb o e=>hk b o (by have:=qD e;simp;exact qj this) (qB _ e)
end
noncomputable def zhx(o:Option NameKind):Bool:=o==some .cell||o==some .free
noncomputable def zhy(sc:Scope)(N:List Str)(scope:Scope)(N' own:List Str)(fr:List Nat):Bool:=
 (scope.kind==.function)&&(scope.names.all λy=>scope.names.lookup y.1==some y.2)&&(scope.names.all λy=>!(y.2==.free)||zhx (sc.names.lookup y.1))&&
 (N'==own++fr.map λj=>N.getD j Str.empty)&&(fr.all λj=>decide (j<N.length)&&(scope.names.lookup (N.getD j Str.empty)==some .free))&&
 (own.all λx=>scope.names.lookup x==some .local||scope.names.lookup x==some .cell)
section
variable{X:Cx}
theorem zhz(h:zhy X.env.scope X.N scope N' own fr=true):CompOk X scope N' own fr:=by
 unfold zhy at h
 simp only[qW]at h
 obtain⟨⟨⟨⟨⟨h1,h2⟩,h3⟩,h4⟩,h5⟩,h6⟩:=h
 refine⟨eq_of_beq h1,λy hy=>eq_of_beq (qAK.mp h2 y hy),λy hy e=>?_,eq_of_beq h4,λj hj=>?_,λx hx=>?_⟩
 ·have q:=qAK.mp h3 y hy
  rw[e]at q
  have q:zhx (X.env.scope.names.lookup y.1)=true:=by simpa using q
  unfold zhx at q
  rcases qAb.mp q with z|z
  ·exact .inl (eq_of_beq z)
  ·exact .inr (eq_of_beq z)
 ·have q:=qAK.mp h5 j hj
  rw[qW]at q
  exact⟨of_decide_eq_true q.1,eq_of_beq q.2⟩
 ·have q:=qAK.mp h6 x hx
  rcases qAb.mp q with z|z
  ·exact .inl (eq_of_beq z)
  ·exact .inr (eq_of_beq z)
noncomputable def zcw(K:qA):R2:=λx y H Q=>match x,y with
 | .int i,.int j=>Q (.int (i+j)) H
 | .str a,.str b=>a.length+b.length<=qH/\Q (.str (a++b)) H
 | .ref _,.ref _=>rCat x y H Q\/zoj K x y H Q
 | _,_=>False
theorem zmk:OpR X (binaryOp .Add) (zcw X.K):=by
 intro pins s σ H x y v u Q I rx ry h
 cases x<;>cases y<;>first
  | exact h.elim
  | exact zob pins s σ H _ _ v u Q I rx ry ⟨_,_,rfl,rfl,h⟩
  | exact zgt pins s σ H _ _ v u Q I rx ry ⟨_,_,rfl,rfl,h.1,h.2⟩
  | exact(zon.or zmb) pins s σ H _ _ v u Q I rx ry h
noncomputable def zot:R2:=λx y H Q=>match x,y with
 | .int i,.int j=>CMul i j/\Q (.int (i * j)) H
 | .str z,.int n=>z.length<=1000/\-1000<=n/\n<=1000/\Q (.str (Txt.mul z n)) H
 | _,_=>False
theorem zia:OpR X (binaryOp .Mult) zot:=by
 intro pins s σ H x y v u Q I rx ry h
 cases x<;>cases y<;>first
  | exact h.elim
  | exact zod pins s σ H _ _ v u Q I rx ry ⟨_,_,rfl,rfl,h.1,h.2⟩
  | exact zmi pins s σ H _ _ v u Q I rx ry ⟨_,_,rfl,rfl,h.1,h.2.1,h.2.2.1,h.2.2.2⟩
noncomputable def rIxU(K:qA):R2:=λx y H Q=>match x,y with
 | .str z,.int i=>z.length<=qH/\∃c,atI z.cps.toList i=some c/\Q (.str ⟨#[c]⟩) H
 | .ref p,.int i=>∃xs v,(SqL K H p xs\/SqT K H p xs)/\atI xs i=some v/\Q v H
 | _,_=>False
theorem ix_U:IxR X (rIxU X.K):=by
 intro value slice pins s σ H x y v u Q I rx ry h hs
 cases x<;>cases y<;>first
  | exact h.elim
  | (obtain⟨h1,c,h2,h3⟩:=h;exact zol value slice pins s σ H _ _ v u Q I rx ry ⟨_,_,c,rfl,rfl,h1,h2,h3⟩ hs)
  | (obtain⟨xs,w,h1,h2,h3⟩:=h
     rcases h1 with h1|h1
     ·exact zmd value slice pins s σ H _ _ v u Q I rx ry ⟨_,xs,_,w,rfl,rfl,h1,h2,h3⟩ hs
     ·exact zok value slice pins s σ H _ _ v u Q I rx ry ⟨_,xs,_,w,rfl,rfl,h1,h2,h3⟩ hs)
noncomputable def Dn(P:Program)(w:World)(K:qA)(mg:Str->Option Value)(base:Heap)(x:Str)(ps:List Str)(k:Nat)(sp:Sp):Prop:=
 ∃f fd,FnOk P w K mg base CX0 k f fd ps sp/\mg x=some (.ref f)/\q9 K (.ref f)=true/\zcr K fd ps []
theorem zqg(D:Dn X.prog X.w X.K X.mg X.base x ps k sp)(hr:Room k X.A)(hg:Gl X x)(ha:PA X (e::es) t)
  (hdb:(x==("__debug__":Str))=false:=by decide)(he:starEach (e::es) X.env=(false,eval e X.env)::starEach es X.env:=by rfl)(hpl:(backTo pos (starEach es X.env)).any (·.1)=false:=by rfl) :
  PE X (.Call (.Name x p) (e::es) [] pos) (tCall sp [] E0 t):=by
 obtain⟨f,fd,F,hm,hk,hb⟩:=D
 exact zma F hr hg hm hk hb .nil zqe ha hdb he hpl
end
theorem Same.upd(h:Same H H')(hp:H p=none):Same H (upd H' p o):=λb u e=>by rw[zah (zau e hp)];exact h b u e
theorem Same.new(hp:H p=none):Same H (L2.upd H p o):=(Same.refl H).upd hp
end L2
namespace Bc
open PySem L2
end Bc
namespace L2
open PySem PySem.Spec PyProof.Rows
section
variable{X:Cx}{K:qA}(hK:X.K=K)
include hK
theorem zel:IxR X (rIxU K):=by subst hK;exact ix_U
theorem zbi:OpR X (binaryOp .Add) (zcw K):=by subst hK;exact zmk
theorem zib(hc:X.calm=true):CallR X (.builtin "any") (rAny K λbs=>bs.any id):=by subst hK;exact zke hc
end
noncomputable def keyD:PyData->Option Key
 | .int i=>some (Sum.inl i)
 | .str s=>some (Sum.inr s)
 | _=>none
mutual
def Rp(H:Hp):PyData->V->Prop
 | .none,v=>v=.non
 | .bool b,v=>v=.bl b
 | .int i,v=>v=.int i
 | .str x,v=>v=.str x
 | .list ds,v=>∃a xs,v=.ref a/\H a=some (.lst xs)/\Rps H ds xs
 | .tuple ds,v=>∃a xs,v=.ref a/\H a=some (.tup xs)/\Rps H ds xs
 | .dict kvs,v=>∃a ps,v=.ref a/\H a=some (.dK ps)/\Rpd H kvs ps
def Rps(H:Hp):List PyData->List V->Prop
 | [],xs=>xs=[]
 | d::ds,xs=>∃v vs,xs=v::vs/\Rp H d v/\Rps H ds vs
def Rpd(H:Hp):List (PyData×PyData)->List (Key×V)->Prop
 | [],ps=>ps=[]
 | (k,d)::r,ps=>∃k' v vs,ps=(k',v)::vs/\keyD k=some k'/\Rp H d v/\Rpd H r vs
end
mutual
theorem Rp.same(h:Same H H'):∀(d:PyData){v:V},Rp H d v->Rp H' d v
 | .none,v,q=>by unfold Rp at q ⊢;exact q
 | .bool b,v,q=>by unfold Rp at q ⊢;exact q
 | .int i,v,q=>by unfold Rp at q ⊢;exact q
 | .str x,v,q=>by unfold Rp at q ⊢;exact q
 | .list ds,v,q=>by
  unfold Rp at q ⊢
  obtain⟨a,xs,e,hq,hr⟩:=q
  exact⟨a,xs,e,h _ _ hq,Rps.same h ds hr⟩
 | .tuple ds,v,q=>by
  unfold Rp at q ⊢
  obtain⟨a,xs,e,hq,hr⟩:=q
  exact⟨a,xs,e,h _ _ hq,Rps.same h ds hr⟩
 | .dict kvs,v,q=>by
  unfold Rp at q ⊢
  obtain⟨a,xs,e,hq,hr⟩:=q
  exact⟨a,xs,e,h _ _ hq,Rpd.same h kvs hr⟩
theorem Rps.same(h:Same H H'):∀(ds:List PyData){vs:List V},Rps H ds vs->Rps H' ds vs
 | [],vs,q=>by unfold Rps at q ⊢;exact q
 | d::ds,vs,q=>by
  unfold Rps at q ⊢
  obtain⟨v,vs',e,h1,h2⟩:=q
  exact⟨v,vs',e,Rp.same h d h1,Rps.same h ds h2⟩
theorem Rpd.same(h:Same H H'):∀(ds:List (PyData×PyData)){vs:List (Key×V)},Rpd H ds vs->Rpd H' ds vs
 | [],vs,q=>by unfold Rpd at q ⊢;exact q
 | (k,d)::ds,vs,q=>by
  unfold Rpd at q ⊢
  obtain⟨k',v,vs',e,h0,h1,h2⟩:=q
  exact⟨k',v,vs',e,h0,Rp.same h d h1,Rpd.same h ds h2⟩
end
theorem zav:∀{ds:List PyData}{xs:List V},Rps H ds xs↔Paired (Rp H) ds xs
 | [],xs=>by
  constructor
  ·intro h;unfold Rps at h;subst h;exact .nil
  ·intro h;cases h;unfold Rps;rfl
 | d::ds,xs=>by
  constructor
  ·intro h
   unfold Rps at h
   obtain⟨v,vs,rfl,h1,h2⟩:=h
   exact .cons h1 (zav.mp h2)
  ·intro h
   cases h with
   | cons h1 h2=>unfold Rps;exact⟨_,_,rfl,h1,zav.mpr h2⟩
theorem Rps.length{ds:List PyData}{xs:List V}(h:Rps H ds xs):ds.length=xs.length:=(zav.mp h).length
theorem zdx(h:Rp H (.list ds) v):∃a xs,v=.ref a/\H a=some (.lst xs)/\Rps H ds xs:=by unfold Rp at h;exact h
theorem zcj(h:Rp H (.tuple ds) v):∃a xs,v=.ref a/\H a=some (.tup xs)/\Rps H ds xs:=by unfold Rp at h;exact h
theorem zbm(h:Rp H (.int i) v):v=.int i:=by unfold Rp at h;exact h
theorem zem(h:Rp H (.str i) v):v=.str i:=by unfold Rp at h;exact h
theorem zfh(h:Rp H (.bool i) v):v=.bl i:=by unfold Rp at h;exact h
theorem zml(h:Rp H .none v):v=.non:=by unfold Rp at h;exact h
theorem zaf:Rp H (.int i) (.int i):=by unfold Rp;rfl
theorem zck:Rp H (.str i) (.str i):=by unfold Rp;rfl
theorem zbp:Rp H (.bool i) (.bl i):=by unfold Rp;rfl
theorem zdj:Rp H .none .non:=by unfold Rp;rfl
theorem zbx(h:H a=some (.lst xs))(r:Rps H ds xs):Rp H (.list ds) (.ref a):=by unfold Rp;exact⟨a,xs,rfl,h,r⟩
theorem zfi(h:H a=some (.tup xs))(r:Rps H ds xs):Rp H (.tuple ds) (.ref a):=by unfold Rp;exact⟨a,xs,rfl,h,r⟩
theorem zgy(h:H a=some (.dK xs))(r:Rpd H ds xs):Rp H (.dict ds) (.ref a):=by unfold Rp;exact⟨a,xs,rfl,h,r⟩
theorem zcx:Rps H [] []:=by unfold Rps;rfl
theorem zcs(h:Rp H d v)(r:Rps H ds vs):Rps H (d::ds) (v::vs):=by
 show Rps H (d::ds) _
 unfold Rps;exact⟨v,vs,rfl,h,r⟩
theorem Rps.append(h:Rps H ds vs)(r:Rps H es ws):Rps H (ds++es) (vs++ws):=by
 replace h:=zav.mp h
 refine zav.mpr ?_
 induction h with
 | nil=>exact zav.mp r
 | cons h _ ih=>exact .cons h ih
theorem Rps.get2{H:Hp}{ds:List PyData}{vs:List V}(h:Rps H ds vs){i:Nat}{d:PyData}(e:ds[i]?=some d):∃v,vs[i]?=some v/\Rp H d v:=by
 replace h:=zav.mp h
 induction h generalizing i with
 | nil=>simp at e
 | cons h _ ih=>
  cases i with
  | zero=>simp at e;subst e;exact⟨_,rfl,h⟩
  | succ i=>simpa using ih (by simpa using e)
open Classical in
noncomputable def Offs(A:Addr->Prop)(H:Hp):Hp:=λb=>if A b then none else H b
theorem Offs.get{A:Addr->Prop}(h:¬A b):Offs A H b=H b:=if_neg h
theorem Offs.out{A:Addr->Prop}(h:A b):Offs A H b=none:=if_pos h
theorem Offs.of{A:Addr->Prop}(h:Offs A H b=some o):¬A b/\H b=some o:=by
 by_cases hb:A b
 ·rw[Offs.out hb]at h;cases h
 ·rw[Offs.get hb]at h;exact⟨hb,h⟩
theorem Offs.mono{A B:Addr->Prop}(s:Same H H')(h:∀b o,H b=some o->¬A b->¬B b):Same (Offs A H) (Offs B H'):=λb o e=>by
 obtain⟨h1,h2⟩:=Offs.of e
 rw[Offs.get (h b o h2 h1)]
 exact s b o h2
theorem Offs.same(A:Addr->Prop)(H:Hp):Same (Offs A H) H:=λb o e=>(Offs.of e).2
theorem Offs.sub{A B:Addr->Prop}(h:∀b,B b->A b):Same (Offs A H) (Offs B H):=Offs.mono (Same.refl _) λb _ _ n z=>n (h b z)
theorem Offs.grow{A:Addr->Prop}(s:Same H H'):Same (Offs A H) (Offs A H'):=Offs.mono s λ_ _ _ z=>z
theorem Offs.upd{A:Addr->Prop}(h:A a):Offs A (upd H a o)=Offs A H:=by
 funext b
 by_cases hb:A b
 ·rw[Offs.out hb,Offs.out hb]
 ·rw[Offs.get hb,Offs.get hb,zah (λe=>hb (by rw[e];exact h))]
inductive Sl where
 | no
  | pl (d:PyData)
  | ac (d:PyData)
noncomputable abbrev DEnv:=List Sl
noncomputable def own(env:DEnv)(σ:St)(a:Addr):Prop:=∃(i:Nat)(d:PyData),env[i]?=some (.ac d)/\σ[i]?=some (some (.ref a))
noncomputable def zcb(Ho H:Hp)(a:Addr):PyData->Prop
 | .list ds=>∃xs,H a=some (.lst xs)/\Rps Ho ds xs
 | .dict kvs=>∃ps,H a=some (.dK ps)/\Rpd Ho kvs ps
 | _=>False
theorem zcb.rp(h:zcb Ho H a d)(s:Same Ho H')(e:∀o,H a=some o->H' a=some o):Rp H' d (.ref a):=by
 cases d with
 | list ds=>
  obtain⟨xs,h1,h2⟩:=h
  exact zbx (e _ h1) (Rps.same s _ h2)
 | dict ds=>
  obtain⟨xs,h1,h2⟩:=h
  exact zgy (e _ h1) (Rpd.same s _ h2)
 | _=>exact h.elim
theorem zcb.same(h:zcb Ho H a d)(s:Same Ho Ho')(e:∀o,H a=some o->H' a=some o):zcb Ho' H' a d:=by
 cases d with
 | list ds=>
  obtain⟨xs,h1,h2⟩:=h
  exact⟨xs,e _ h1,Rps.same s _ h2⟩
 | dict ds=>
  obtain⟨xs,h1,h2⟩:=h
  exact⟨xs,e _ h1,Rpd.same s _ h2⟩
 | _=>exact h.elim
theorem zcb.ex(h:zcb Ho H a d):∃o,H a=some o:=by
 cases d with
 | list ds=>obtain⟨xs,h1,h2⟩:=h;exact⟨_,h1⟩
 | dict ds=>obtain⟨xs,h1,h2⟩:=h;exact⟨_,h1⟩
 | _=>exact h.elim
structure EnvOk(fx:Addr->Prop)(H0:Hp)(env:DEnv)(σ:St)(H:Hp):Prop where
 len:env.length=σ.length
 pl:∀(i:Nat)(d:PyData),env[i]?=some (.pl d)->∃v,σ[i]?=some (some v)/\Rp (Offs (λa=>fx a\/own env σ a) H) d v
 ac:∀(i:Nat)(d:PyData),env[i]?=some (.ac d)->∃a,σ[i]?=some (some (.ref a))/\H0 a=none/\¬fx a/\zcb (Offs (λa=>fx a\/own env σ a) H) H a d
 inj:∀(i j:Nat)(d e:PyData)(a:Addr),env[i]?=some (.ac d)->env[j]?=some (.ac e)->σ[i]?=some (some (.ref a))->σ[j]?=some (some (.ref a))->i=j
 base:Same H0 H
 fxs:∀b,fx b->∃o,H b=some o
theorem EnvOk.grow{fx fx':Addr->Prop}(h:EnvOk fx H0 env σ H)(s:Same H H')(f:∀b o,H b=some o->¬fx b->¬fx' b)(g:∀b,fx' b->∃o,H' b=some o):EnvOk fx' H0 env σ H':=by
 have so:Same (Offs (λa=>fx a\/own env σ a) H) (Offs (λa=>fx' a\/own env σ a) H'):=Offs.mono s λb o e n=>λz=>z.elim (f b o e λy=>n (.inl y)) λy=>n (.inr y)
 refine⟨h.len,λi d e=>?_,λi d e=>?_,h.inj,h.base.trans s,g⟩
 ·obtain⟨v,h1,h2⟩:=h.pl i d e
  exact⟨v,h1,Rp.same so d h2⟩
 ·obtain⟨a,h1,h2,h3,h4⟩:=h.ac i d e
  obtain⟨o,ho⟩:=h4.ex
  exact⟨a,h1,h2,f a o ho h3,h4.same so λo=>s a o⟩
theorem EnvOk.up{fx:Addr->Prop}(h:EnvOk fx H0 env σ H)(s:Same H H'):EnvOk fx H0 env σ H':=
 h.grow s (λ_ _ _ z=>z) λb z=>let⟨o,e⟩:=h.fxs b z;⟨o,s b o e⟩
structure Val where
 d:PyData
 fr:Bool
 bs:List Nat
noncomputable def lim(fx:Addr->Prop)(env:DEnv)(σ:St)(bs:List Nat)(a:Addr):Prop:=fx a\/∃(i:Nat)(d:PyData),i∉bs/\env[i]?=some (.ac d)/\σ[i]?=some (some (.ref a))
structure ValOk(A:Addr->Prop)(H H':Hp)(r:Val)(v:V):Prop where
 rp:Rp (Offs A H') r.d v
 fr:r.fr=true->∃a,v=.ref a/\H a=none/\zcb (Offs (λb=>A b\/b=a) H') H' a r.d
theorem zfj{fx:Addr->Prop}(h:∀i∈bs,i∈cs):∀a,lim fx env σ cs a->lim fx env σ bs a:=by
 rintro a (z|⟨i,d,h1,h2,h3⟩)
 ·exact .inl z
 ·exact .inr ⟨i,d,λq=>h1 (h i q),h2,h3⟩
theorem zfk{fx:Addr->Prop}:∀a,lim fx env σ bs a->fx a\/own env σ a:=by
 rintro a (z|⟨i,d,h1,h2,h3⟩)
 ·exact .inl z
 ·exact .inr ⟨i,d,h2,h3⟩
theorem EnvOk.lims{fx:Addr->Prop}(h:EnvOk fx H0 env σ H)(bs:List Nat):∀b,lim fx env σ bs b->∃o,H b=some o:=by
 rintro b (z|⟨i,d,h1,h2,h3⟩)
 ·exact h.fxs b z
 ·obtain⟨a,g1,g2,g3,g4⟩:=h.ac i d h2
  rw[h3]at g1
  cases g1
  exact g4.ex
theorem ValOk.later{A B:Addr->Prop}(h:ValOk A H H' r v)(s0:Same H0 H)(s:Same H' H'')(hB:∀b,B b->A b):ValOk B H0 H'' r v:=by
 refine⟨Rp.same (Offs.mono s λb _ _ n z=>n (hB b z)) _ h.rp,λe=>?_⟩
 obtain⟨a,h1,h2,h3⟩:=h.fr e
 exact⟨a,h1,s0.free h2,h3.same (Offs.mono s λb _ _ n z=>n (z.elim (λy=>.inl (hB b y)) .inr)) λo=>s a o⟩
noncomputable def zdf:PyData->Bool
 | .list _=>false
 | .tuple _=>false
 | .dict _=>false
 | _=>true
theorem zic(f:zdf d=true)(h:Rp H d v):Rp H' d v:=by
 cases d<;>first
  | (unfold Rp at h ⊢;exact h)
  | cases f
noncomputable def bsOf(d:PyData)(bs:List Nat):List Nat:=if zdf d=true then[]else bs
theorem zmm{fx:Addr->Prop}(h:Rp (Offs (lim fx env σ bs) H) d v):Rp (Offs (lim fx env σ (bsOf d bs)) H) d v:=by
 unfold bsOf
 split
 ·rename_i e;exact zic e h
 ·exact h
noncomputable abbrev EF:=DEnv->Option Val
noncomputable def SE(te:TE)(f:EF):Prop:=∀(fx:Addr->Prop)(H0:Hp)(env:DEnv)(σ:St)(H:Hp),EnvOk fx H0 env σ H->∀r,f env=some r->∀Q:VK,(∀v H',Same H H'->ValOk (lim fx env σ r.bs) H H' r v->Q v H')->te σ H Q
noncomputable abbrev TF:=DEnv->Option Bool
noncomputable def ST(tt:TT)(f:TF):Prop:=∀(fx:Addr->Prop)(H0:Hp)(env:DEnv)(σ:St)(H:Hp),EnvOk fx H0 env σ H->∀b,f env=some b->∀Q:Bool->Hp->Prop,(∀H',Same H H'->Q b H')->tt σ H Q
noncomputable abbrev AF:=DEnv->Option (List Val)
noncomputable def SA(ta:TA)(f:AF):Prop:=∀(fx:Addr->Prop)(H0:Hp)(env:DEnv)(σ:St)(H:Hp),EnvOk fx H0 env σ H->∀rs,f env=some rs->∀Q:List V->Hp->Prop,
 (∀vs H',Same H H'->Paired (λr v=>ValOk (lim fx env σ r.bs) H H' r v) rs vs->Q vs H')->ta σ H Q
section
variable{X:Cx}
noncomputable def eVar(i:Nat):EF:=λenv=>match env[i]? with
 | some (.pl d)=>some ⟨d,false,[]⟩
 | some (.ac d)=>some ⟨d,false,[i]⟩
 | _=>none
theorem zbq(i:Nat):SE (tVar i) (eVar i):=by
 intro fx H0 env σ H h r hr Q q
 unfold eVar at hr
 cases e:env[i]? with
 | none=>rw[e]at hr;cases hr
 | some sl=>
  rw[e]at hr
  cases sl with
  | no=>cases hr
  | pl d=>
   cases hr
   obtain⟨v,h1,h2⟩:=h.pl i d e
   exact⟨v,h1,q v H (Same.refl _) ⟨Rp.same (Offs.sub zfk) _ h2,λz=>by cases z⟩⟩
  | ac d=>
   cases hr
   obtain⟨a,h1,h2,h3,h4⟩:=h.ac i d e
   have hna:¬lim fx env σ [i] a:=by
    rintro(z|⟨j,d',g1,g2,g3⟩)
    ·exact h3 z
    ·exact g1 (qAd.mpr (h.inj j i d' d a g2 e g3 h1))
   exact⟨_,h1,q _ H (Same.refl _) ⟨h4.rp (Offs.sub zfk) λo z=>by rw[Offs.get hna];exact z,λz=>by cases z⟩⟩
noncomputable def eC(d:PyData):EF:=λ_=>some ⟨d,false,[]⟩
theorem se_c(h:∀H,Rp H d v):SE (tC v) (eC d):=by
 intro fx H0 env σ H _ r hr Q q
 cases hr
 exact q v H (Same.refl _) ⟨h _,λz=>by cases z⟩
noncomputable abbrev OF:=PyData->PyData->Option (PyData×Bool)
noncomputable def SO(r:R2)(f:OF):Prop:=∀(A:Addr->Prop)(H:Hp)(x y:V)(dx dy:PyData),(∀b,A b->∃o,H b=some o)->Rp (Offs A H) dx x->Rp (Offs A H) dy y->∀d fr,f dx dy=some (d,fr)->∀Q:VK,
 (∀v H',Same H H'->Rp (Offs A H') d v->(fr=true->∃a,v=.ref a/\H a=none/\zcb (Offs (λb=>A b\/b=a) H') H' a d)->Q v H')->r x y H Q
noncomputable def eOp(f:OF)(a b:EF):EF:=λenv=>(a env).bind λx=>(b env).bind λy=>(f x.d y.d).bind λz=>some ⟨z.1,z.2,bsOf z.1 (x.bs++y.bs)⟩
theorem zcc(ho:SO r f)(ha:SE ta fa)(hb:SE tb fb):SE (tOp r ta tb) (eOp f fa fb):=by
 intro fx H0 env σ H h rr hr Q q
 unfold eOp at hr
 obtain⟨x,ex,hr⟩:=qK.mp hr
 obtain⟨y,ey,hr⟩:=qK.mp hr
 obtain⟨⟨d,fr⟩,ez,hr⟩:=qK.mp hr
 cases hr
 refine ha fx H0 env σ H h x ex _ λv H1 s1 v1=>hb fx H0 env σ H1 (h.up s1) y ey _ λu H2 s2 v2=>?_
 have l1:∀b,lim fx env σ (x.bs++y.bs) b->lim fx env σ x.bs b:=zfj λi hi=>qy _ hi
 have l2:∀b,lim fx env σ (x.bs++y.bs) b->lim fx env σ y.bs b:=zfj λi hi=>qL _ hi
 refine ho (lim fx env σ (x.bs++y.bs)) H2 v u x.d y.d ((h.up (s1.trans s2)).lims _) (v1.later (Same.refl _) s2 l1).rp (v2.later (Same.refl _) (Same.refl _) l2).rp d fr ez _ λw H3 s3 rp fr3=>q w H3 ((s1.trans s2).trans s3) ⟨zmm rp,λe=>?_⟩
 obtain⟨a,g1,g2,g3⟩:=fr3 e
 refine⟨a,g1,(s1.trans s2).free g2,?_⟩
 have nf:zdf d=false:=by cases d<;>first|rfl|exact g3.elim
 show zcb (Offs (λb=>lim fx env σ (bsOf d (x.bs++y.bs)) b\/b=a) H3) H3 a d
 rw[show bsOf d (x.bs++y.bs)=x.bs++y.bs by unfold bsOf;rw[if_neg (by rw[nf];decide)]]
 exact g3
end
theorem zcn(h:n<=100000):n<=qH:=qP h (by decide)
theorem zmn(h:n<100000):n<qH:=Nat.lt_trans h (by decide)
theorem zcy{A:Addr->Prop}{H:Hp}(hA:∀b,A b->∃o,H b=some o){p:Addr}(hp:H p=none):¬A p:=λz=>by
 obtain⟨o,e⟩:=hA p z
 rw[hp]at e;cases e
theorem zid{A:Addr->Prop}(hp:H p=none)(r:Rps (Offs A H) ds xs):zcb (Offs (λb=>A b\/b=p) (upd H p (.lst xs))) (upd H p (.lst xs)) p (.list ds):=by
 refine⟨xs,zae,Rps.same (Offs.mono (Same.new hp) λb o e n z=>?_) _ r⟩
 rcases z with z|z
 ·exact n z
 ·rw[z,hp]at e;cases e
theorem zld{A:Addr->Prop}(hp:H p=none)(hA:¬A p)(r:Rps (Offs A H) ds xs):Rp (Offs A (upd H p (.lst xs))) (.list ds) (.ref p):=
 zbx (by rw[Offs.get hA];exact zae) (Rps.same (Offs.grow (Same.new hp)) _ r)
theorem zie{A:Addr->Prop}(hp:H p=none)(hA:¬A p)(r:Rps (Offs A H) ds xs):Rp (Offs A (upd H p (.tup xs))) (.tuple ds) (.ref p):=
 zfi (by rw[Offs.get hA];exact zae) (Rps.same (Offs.grow (Same.new hp)) _ r)
theorem zdk{A:Addr->Prop}(h:Offs A H a=some o):H a=some o:=(Offs.of h).2
noncomputable def addD:OF
 | .int i,.int j=>some (.int (i+j),false)
 | .str a,.str b=>if a.length+b.length<=100000 then some (.str (a++b),false)else none
 | .list a,.list b=>if a.length+b.length<=100000 then some (.list (a++b),true)else none
 | .tuple a,.tuple b=>if a.isEmpty=false/\a.length+b.length<=100000 then some (.tuple (a++b),false)else none
 | _,_=>none
theorem zou{K:qA}:SO (zcw K) addD:=by
 intro A H x y dx dy hA rx ry d fr e Q q
 unfold addD at e
 split at e
 ·cases e
  cases zbm rx;cases zbm ry
  exact q _ H (Same.refl _) zaf (λz=>by cases z)
 ·split at e
  ·rename_i hl
   cases e
   cases zem rx;cases zem ry
   exact⟨zcn hl,q _ H (Same.refl _) zck (λz=>by cases z)⟩
  ·cases e
 ·split at e
  ·rename_i hl
   cases e
   obtain⟨p,xs,rfl,hp,r1⟩:=zdx rx
   obtain⟨p',ys,rfl,hp',r2⟩:=zdx ry
   refine .inl ⟨p,p',xs,ys,rfl,rfl,zdk hp,zdk hp',zcn (by rw[<- r1.length,<- r2.length];exact hl),λb hb=>?_⟩
   exact q _ _ (Same.new hb) (zld hb (zcy hA hb) (r1.append r2)) λ_=>⟨b,rfl,hb,zid hb (r1.append r2)⟩
  ·cases e
 ·split at e
  ·rename_i hl
   cases e
   obtain⟨p,xs,rfl,hp,r1⟩:=zcj rx
   obtain⟨p',ys,rfl,hp',r2⟩:=zcj ry
   refine .inr ⟨p,p',xs,ys,rfl,rfl,SqT.of (zdk hp),SqT.of (zdk hp'),λz=>?_,zcn (by rw[<- r1.length,<- r2.length];exact hl.2),λz=>?_,λ_ b hb=>?_⟩
   ·have h1:=r1.length
    have h0:=hl.1
    rw[z]at h1
    rw[List.isEmpty_eq_false_iff]at h0
    exact h0 (qAx.mp h1)
   ·have h2:=r2.length
    rw[z]at h2
    have:=qAx.mp h2
    subst this
    rw[qAW]at q
    exact q _ H (Same.refl _) rx (λz=>by cases z)
   ·exact q _ _ (Same.new hb) (zie hb (zcy hA hb) (r1.append r2)) (λz=>by cases z)
  ·cases e
 ·cases e
noncomputable def intD(c:Int->Int->Bool)(f:Int->Int->PyData):OF
 | .int i,.int j=>if c i j=true then some (f i j,false)else none
 | _,_=>none
theorem zif{C:Int->Int->Prop}{g:Int->Int->V}{c:Int->Int->Bool}{f:Int->Int->PyData}(hc:∀i j,c i j=true->C i j)(hf:∀H i j,Rp H (f i j) (g i j)):SO (rI C g) (intD c f):=by
 intro A H x y dx dy hA rx ry d fr e Q q
 unfold intD at e
 split at e
 ·split at e
  ·rename_i h
   cases e
   cases zbm rx;cases zbm ry
   exact⟨_,_,rfl,rfl,hc _ _ h,q _ H (Same.refl _) (hf _ _ _) (λz=>by cases z)⟩
  ·cases e
 ·cases e
theorem zmo{g:Int->Int->V}{f:Int->Int->PyData}(hf:∀H i j,Rp H (f i j) (g i j)):SO (rI0 g) (intD (λ_ _=>true) f):=by
 intro A H x y dx dy hA rx ry d fr e Q q
 unfold intD at e
 split at e
 ·split at e
  ·cases e
   cases zbm rx;cases zbm ry
   exact⟨_,_,rfl,rfl,q _ H (Same.refl _) (hf _ _ _) (λz=>by cases z)⟩
  ·cases e
 ·cases e
noncomputable def subD:OF:=intD (λ_ _=>true) λi j=>.int (i - j)
theorem zov:SO (rI0 λi j=>.int (i - j)) subD:=zmo λ_ _ _=>zaf
noncomputable def modD:OF:=intD (λ_ j=>decide (0<j)) λi j=>.int (i % j)
theorem zge:SO (rI (λ_ j=>0<j) λi j=>.int (i % j)) modD:=zif (λ_ _ h=>of_decide_eq_true h) λ_ _ _=>zaf
noncomputable def zfl:OF:=intD (λ_ j=>decide (0<j/\j<1073741824)) λi j=>.int (i / j)
theorem zig:SO (rI CDiv λi j=>.int (i / j)) zfl:=zif (λi j h=>(of_decide_eq_true h:0<j/\j<1073741824)) λ_ _ _=>zaf
noncomputable def powD:OF:=intD (λi j=>decide (0<=j/\j<=1000000/\i.natAbs<2 ^ 64)) λi j=>.int (i ^ j.toNat)
theorem zle:SO (rI CPow λi j=>.int (i ^ j.toNat)) powD:=zif (λi j h=>(of_decide_eq_true h:0<=j/\j<=1000000/\i.natAbs<2 ^ 64)) λ_ _ _=>zaf
noncomputable def mulD:OF
 | .int i,.int j=>if(-(2 ^ 64)<i/\i<2 ^ 64)\/(-(2 ^ 64)<j/\j<2 ^ 64)then some (.int (i * j),false)else none
 | .str z,.int n=>if z.length<=1000/\-1000<=n/\n<=1000 then some (.str (Txt.mul z n),false)else none
 | _,_=>none
theorem zlf:SO zot mulD:=by
 intro A H x y dx dy hA rx ry d fr e Q q
 unfold mulD at e
 split at e
 ·split at e
  ·rename_i h
   cases e
   cases zbm rx;cases zbm ry
   exact⟨h,q _ H (Same.refl _) zaf (λz=>by cases z)⟩
  ·cases e
 ·split at e
  ·rename_i h
   cases e
   cases zem rx;cases zbm ry
   exact⟨h.1,h.2.1,h.2.2,q _ H (Same.refl _) zck (λz=>by cases z)⟩
  ·cases e
 ·cases e
mutual
theorem zdl{K:qA}{H:Hp}:∀{d:PyData}{v:V},d.canLay0=true->Rp H d v->Rep K H d v
 | .none,v,_,h=>by unfold Rp at h;unfold Rep;exact h
 | .bool b,v,_,h=>by unfold Rp at h;unfold Rep;exact h
 | .int i,v,_,h=>by unfold Rp at h;unfold Rep;exact h
 | .str x,v,_,h=>by unfold Rp at h;unfold Rep;exact h
 | .list ds,v,c,h=>by
  obtain⟨a,xs,e,h1,h2⟩:=zdx h
  unfold Rep
  exact⟨a,xs,e,SqL.of h1,rps_reps (by simpa [PyData.canLay0]using c) h2⟩
 | .tuple ds,v,c,h=>by
  obtain⟨a,xs,e,h1,h2⟩:=zcj h
  unfold Rep
  exact⟨a,xs,e,SqT.of h1,rps_reps (by simpa [PyData.canLay0]using c) h2⟩
 | .dict _,v,c,h=>by simp[PyData.canLay0]at c
theorem rps_reps{K:qA}{H:Hp}:∀{ds:List PyData}{vs:List V},qd ds=true->Rps H ds vs->Reps K H ds vs
 | [],vs,_,h=>by unfold Rps at h;unfold Reps;exact h
 | d::ds,vs,c,h=>by
  unfold Rps at h
  obtain⟨v,ws,e,h1,h2⟩:=h
  have c:d.canLay0=true/\qd ds=true:=by simpa [qd]using c
  unfold Reps
  exact⟨v,ws,e,zdl c.1 h1,rps_reps c.2 h2⟩
end
noncomputable def zkf:PyData->PyData->Bool
 | .none,.none=>true|.none,.int _=>true|.int _,.none=>true|.none,.bool _=>true|.bool _,.none=>true|.none,.str _=>true|.str _,.none=>true
 | .int _,.int _=>true|.bool _,.bool _=>true|.str _,.str _=>true
 | .int _,.str _=>true|.str _,.int _=>true|.bool _,.str _=>true|.str _,.bool _=>true
 | _,_=>false
noncomputable def eqOk(dx dy:PyData):Bool:=zkf dx dy||(qs dx&&qs dy)
noncomputable def eqD:OF:=λdx dy=>if eqOk dx dy=true then some (.bool (qx dx dy),false)else none
noncomputable def neD:OF:=λdx dy=>if eqOk dx dy=true then some (.bool (!PyData.eqv dx dy),false)else none
theorem zih(s:zkf dx dy=true)(rx:Rp H dx x)(ry:Rp H dy y):scal x y=true/\decide (x=y)=qx dx dy:=by
 cases dx<;>cases dy<;>first
  | (exact absurd (show false=true from s) qI)
  | (unfold Rp at rx ry;subst rx;subst ry;refine⟨rfl,?_⟩;first|rfl|exact zfc|exact zhn|exact zfd|simp[qx])
theorem zow{K:qA}:SO (λx y H Q=>rEq x y H Q\/rEqD K false x y H Q) eqD:=by
 intro A H x y dx dy hA rx ry d fr e Q q
 unfold eqD at e
 split at e
 ·rename_i h
  cases e
  cases hs:zkf dx dy with
  | true=>
   obtain⟨h1,h2⟩:=zih hs rx ry
   exact .inl ⟨h1,by rw[h2];exact q _ H (Same.refl _) zbp (λz=>by cases z)⟩
  | false=>
   unfold eqOk at h
   rw[hs,Bool.false_or,qW]at h
   have rx:=Rp.same (Offs.same A H) _ rx
   have ry:=Rp.same (Offs.same A H) _ ry
   exact .inr ⟨dx,dy,zdl (qt h.1) rx,zdl (qt h.2) ry,h.1,h.2,q _ H (Same.refl _) zbp (λz=>by cases z)⟩
 ·cases e
theorem zox{K:qA}:SO (λx y H Q=>rNe x y H Q\/rEqD K true x y H Q) neD:=by
 intro A H x y dx dy hA rx ry d fr e Q q
 unfold neD at e
 split at e
 ·rename_i h
  cases e
  cases hs:zkf dx dy with
  | true=>
   obtain⟨h1,h2⟩:=zih hs rx ry
   exact .inl ⟨h1,by rw[h2];exact q _ H (Same.refl _) zbp (λz=>by cases z)⟩
  | false=>
   unfold eqOk at h
   rw[hs,Bool.false_or,qW]at h
   have rx:=Rp.same (Offs.same A H) _ rx
   have ry:=Rp.same (Offs.same A H) _ ry
   exact .inr ⟨dx,dy,zdl (qt h.1) rx,zdl (qt h.2) ry,h.1,h.2,q _ H (Same.refl _) zbp (λz=>by cases z)⟩
 ·cases e
noncomputable def zen(ds:List PyData):Bool:=ds.all zdf
noncomputable def ixD:OF
 | .str z,.int i=>if z.length<=100000 then(atI z.cps.toList i).map λc=>(.str ⟨#[c]⟩,false)else none
 | .list ds,.int i=>(atI ds i).map λd=>(d,false)
 | .tuple ds,.int i=>(atI ds i).map λd=>(d,false)
 | _,_=>none
theorem Rps.atI(h:Rps H ds vs)(e:atI ds i=some d):∃v,L2.atI vs i=some v/\Rp H d v:=by
 unfold L2.atI at e ⊢
 rw[<- h.length]
 cases g:ixN ds.length i with
 | none=>rw[g]at e;cases e
 | some j=>
  rw[g]at e
  exact h.get2 e
theorem zoy{K:qA}:SO (rIxU K) ixD:=by
 intro A H x y dx dy hA rx ry d fr e Q q
 unfold ixD at e
 split at e
 ·split at e
  ·rename_i z i hl
   obtain⟨c,hc,e⟩:=qc.mp e
   cases e
   cases zem rx;cases zbm ry
   exact⟨zcn hl,c,hc,q _ H (Same.refl _) zck (λz=>by cases z)⟩
  ·cases e
 ·obtain⟨c,hc,e⟩:=qc.mp e
  cases e
  obtain⟨p,xs,rfl,hp,r⟩:=zdx rx
  cases zbm ry
  obtain⟨v,hv,rv⟩:=r.atI hc
  exact⟨xs,v,.inl (SqL.of (zdk hp)),hv,q _ H (Same.refl _) rv (λz=>by cases z)⟩
 ·obtain⟨c,hc,e⟩:=qc.mp e
  cases e
  obtain⟨p,xs,rfl,hp,r⟩:=zcj rx
  cases zbm ry
  obtain⟨v,hv,rv⟩:=r.atI hc
  exact⟨xs,v,.inr (SqT.of (zdk hp)),hv,q _ H (Same.refl _) rv (λz=>by cases z)⟩
 ·cases e
noncomputable def aNil:AF:=λ_=>some []
noncomputable def zaz(a:EF)(r:AF):AF:=λenv=>(a env).bind λx=>(r env).map λxs=>x::xs
theorem zdm:SA tNil aNil:=by
 intro fx H0 env σ H h rs hr Q q
 cases hr
 exact q [] H (Same.refl _) .nil
theorem zba(h1:SE te f)(h2:SA ta g):SA (tCons te ta) (zaz f g):=by
 intro fx H0 env σ H h rs hr Q q
 unfold zaz at hr
 obtain⟨x,ex,hr⟩:=qK.mp hr
 obtain⟨xs,exs,rfl⟩:=qc.mp hr
 exact h1 fx H0 env σ H h x ex _ λv H1 s1 v1=>h2 fx H0 env σ H1 (h.up s1) xs exs _ λvs H2 s2 vs2=>q (v::vs) H2 (s1.trans s2)
  (.cons (v1.later (Same.refl _) s2 λ_ z=>z) (Paired.mapP vs2 λ_ _ z=>z.later s1 (Same.refl _) λ_ y=>y))
noncomputable def zii(rs:List Val):List PyData:=rs.map (·.d)
noncomputable def bss(rs:List Val):List Nat:=rs.flatMap (·.bs)
theorem zdy{fx:Addr->Prop}:∀{rs:List Val}{vs:List V}{cs:List Nat},(∀i∈bss rs,i∈cs)->Paired (λr v=>ValOk (lim fx env σ r.bs) H H' r v) rs vs->Rps (Offs (lim fx env σ cs) H') (zii rs) vs
 | _,_,_,_,.nil=>zcx
 | r::rs,v::vs,cs,hc,.cons h t=>zcs (Rp.same (Offs.sub (zfj λi hi=>hc i (qAi.mpr ⟨r,qf,hi⟩))) _ h.rp)
   (zdy (λi hi=>hc i (by obtain⟨x,h1,h2⟩:=qAi.mp hi;exact qAi.mpr ⟨x,qC _ h1,h2⟩)) t)
noncomputable def eTup(f:AF):EF:=λenv=>(f env).bind λrs=>if rs.length<=100000 then some ⟨.tuple (zii rs),false,bss rs⟩else none
noncomputable def eLst(f:AF):EF:=λenv=>(f env).bind λrs=>if rs.length<=100000 then some ⟨.list (zii rs),true,bss rs⟩else none
theorem zeo(rs:List Val):(zii rs).length=rs.length:=by unfold zii;rw[qT]
theorem zij(ha:SA ta f):SE (tTup ta) (eTup f):=by
 intro fx H0 env σ H h rr hr Q q
 unfold eTup at hr
 obtain⟨rs,er,hr⟩:=qK.mp hr
 split at hr
 ·rename_i hl
  cases hr
  refine ha fx H0 env σ H h rs er _ λvs H1 s1 v1=>?_
  have r:=zdy (λi hi=>hi) v1
  have hA:=(h.up s1).lims (bss rs)
  refine⟨zcn (by rw[<- r.length,zeo];exact hl),λp hp=>q _ _ (s1.trans (Same.new hp)) ⟨zie hp (zcy hA hp) r,λz=>by cases z⟩⟩
 ·cases hr
theorem zlg(ha:SA ta f):SE (tLst ta) (eLst f):=by
 intro fx H0 env σ H h rr hr Q q
 unfold eLst at hr
 obtain⟨rs,er,hr⟩:=qK.mp hr
 split at hr
 ·rename_i hl
  cases hr
  refine ha fx H0 env σ H h rs er _ λvs H1 s1 v1=>?_
  have r:=zdy (λi hi=>hi) v1
  have hA:=(h.up s1).lims (bss rs)
  refine⟨zcn (by rw[<- r.length,zeo];exact hl),λp hp=>q _ _ (s1.trans (Same.new hp)) ⟨zld hp (zcy hA hp) r,λ_=>⟨p,rfl,s1.free hp,zid hp r⟩⟩⟩
 ·cases hr
noncomputable def zqh(fx:Addr->Prop)(H0:Hp)(d:PyData)(fr:Bool)(v:V)(H:Hp):Prop:=Rp (Offs fx H) d v/\(fr=true->∃a,v=.ref a/\H0 a=none/\zcb (Offs (λb=>fx b\/b=a) H) H a d)
inductive Out where
 | nx (env:DEnv)
 | bk (env:DEnv)
 | ct (env:DEnv)
 | rt (d:PyData) (fr:Bool)
noncomputable def Sat(fx:Addr->Prop)(H0:Hp)(D:Ends):Out->Prop
 | .nx env=>∀σ H,EnvOk fx H0 env σ H->D.nx σ H
 | .bk env=>∀σ H,EnvOk fx H0 env σ H->D.bk σ H
 | .ct env=>∀σ H,EnvOk fx H0 env σ H->D.ct σ H
 | .rt d fr=>∀v H,Same H0 H->zqh fx H0 d fr v H->D.rt v H
noncomputable abbrev SF:=DEnv->Option Out
noncomputable def SS(ts:TS)(F:SF):Prop:=∀(fx:Addr->Prop)(H0:Hp)(env:DEnv)(σ:St)(H:Hp)(D:Ends),EnvOk fx H0 env σ H->∀o,F env=some o->Sat fx H0 D o->ts D σ H
noncomputable def frz1(env:DEnv)(i:Nat):DEnv:=match env[i]? with
 | some (.ac d)=>env.set i (.pl d)
 | _=>env
noncomputable def frzs(env:DEnv)(bs:List Nat):DEnv:=bs.foldl frz1 env
theorem zkg(env:DEnv)(i:Nat):(frz1 env i).length=env.length:=by
 unfold frz1;split
 ·rw[qh]
 ·rfl
theorem zbb{l:List α}(h:(l.set i x)[j]?=some y):(j=i/\y=x)\/(j≠i/\l[j]?=some y):=by
 rw[List.getElem?_set]at h
 by_cases e:i=j
 ·subst e
  rw[if_pos rfl]at h
  split at h
  ·exact .inl ⟨rfl,(qN h).symm⟩
  ·cases h
 ·rw[if_neg e]at h
  exact .inr ⟨λz=>e z.symm,h⟩
theorem zco(h:(frz1 env i)[j]?=some (.ac d)):env[j]?=some (.ac d)/\j≠i:=by
 unfold frz1 at h
 split at h
 ·rcases zbb h with⟨_,e⟩|⟨e,h⟩
  ·cases e
  ·exact⟨h,e⟩
 ·rename_i hn
  refine⟨h,λe=>?_⟩
  subst e
  exact hn d h
theorem zmp(h:(frz1 env i)[j]?=some (.pl d)):env[j]?=some (.pl d)\/(j=i/\env[i]?=some (.ac d)):=by
 unfold frz1 at h
 split at h
 ·rename_i d' hd
  rcases zbb h with⟨e1,e⟩|⟨e,h⟩
  ·cases e;exact .inr ⟨e1,hd⟩
  ·exact .inl h
 ·exact .inl h
theorem zkh:∀a,own (frz1 env i) σ a->own env σ a:=by
 rintro a ⟨j,d,h1,h2⟩
 exact⟨j,d,(zco h1).1,h2⟩
theorem EnvOk.frz1{fx:Addr->Prop}(h:EnvOk fx H0 env σ H)(i:Nat):EnvOk fx H0 (frz1 env i) σ H:=by
 have so:Same (Offs (λa=>fx a\/own env σ a) H) (Offs (λa=>fx a\/own (L2.frz1 env i) σ a) H):=Offs.sub λb z=>z.imp (λy=>y) (zkh b)
 refine⟨by rw[zkg];exact h.len,λj d e=>?_,λj d e=>?_,λj k d d' a h1 h2 h3 h4=>h.inj j k d d' a (zco h1).1 (zco h2).1 h3 h4,h.base,h.fxs⟩
 ·rcases zmp e with e|⟨rfl,e⟩
  ·obtain⟨v,h1,h2⟩:=h.pl j d e
   exact⟨v,h1,Rp.same so _ h2⟩
  ·obtain⟨a,h1,h2,h3,h4⟩:=h.ac j d e
   refine⟨_,h1,h4.rp so λo eo=>?_⟩
   rw[Offs.get]
   ·exact eo
   ·rintro(z|⟨k,d',z1,z2⟩)
    ·exact h3 z
    ·obtain⟨z1,z3⟩:=zco z1
     exact z3 (h.inj k j d' d a z1 e z2 h1)
 ·obtain⟨a,h1,h2,h3,h4⟩:=h.ac j d (zco e).1
  exact⟨a,h1,h2,h3,h4.same so λo z=>z⟩
theorem EnvOk.frzs{fx:Addr->Prop}:∀(bs:List Nat){env:DEnv},EnvOk fx H0 env σ H->EnvOk fx H0 (frzs env bs) σ H
 | [],_,h=>h
 | i::bs,_,h=>EnvOk.frzs bs (h.frz1 i)
theorem zik:∀{bs:List Nat}{env:DEnv}{j:Nat}{d:PyData},(frzs env bs)[j]?=some (.ac d)->env[j]?=some (.ac d)/\j∉bs
 | [],_,_,_,h=>⟨h,by simp⟩
 | i::bs,env,j,d,h=>by
  obtain⟨h1,h2⟩:=zik (bs:=bs) h
  obtain⟨h3,h4⟩:=zco h1
  exact⟨h3,by simp[h4,h2]⟩
theorem zgf{fx:Addr->Prop}:∀a,fx a\/own (frzs env bs) σ a->lim fx env σ bs a:=by
 rintro a (z|⟨i,d,h1,h2⟩)
 ·exact .inl z
 ·obtain⟨h3,h4⟩:=zik h1
  exact .inr ⟨i,d,h4,h3,h2⟩
theorem zmq{env:DEnv}{σ:St}:∀a,own (env.set i (.pl d)) (σ.set i (some v)) a->own env σ a:=by
 rintro a ⟨j,e,h1,h2⟩
 rcases zbb h1 with⟨_,z⟩|⟨ne,h1⟩
 ·cases z
 ·rcases zbb h2 with⟨z,_⟩|⟨_,h2⟩
  ·exact absurd z ne
  ·exact⟨j,e,h1,h2⟩
theorem EnvOk.setPl{fx:Addr->Prop}{env:DEnv}{σ:St}(h:EnvOk fx H0 env σ H)(i:Nat)(r:Rp (Offs (λa=>fx a\/own env σ a) H) d v):EnvOk fx H0 (env.set i (.pl d)) (σ.set i (some v)) H:=by
 have so:Same (Offs (λa=>fx a\/own env σ a) H) (Offs (λa=>fx a\/own (env.set i (.pl d)) (σ.set i (some v)) a) H):=Offs.sub λb z=>z.imp (λy=>y) (zmq b)
 have kept:∀{j:Nat},j≠i->(σ.set i (some v))[j]?=σ[j]?:=λ{j} n=>qz λz=>n z.symm
 refine⟨by rw[qh,qh];exact h.len,λj e hj=>?_,λj e hj=>?_,λj k d1 d2 a h1 h2 h3 h4=>?_,h.base,h.fxs⟩
 ·rcases zbb hj with⟨rfl,z⟩|⟨ne,hj'⟩
  ·cases z
   have hl:j<env.length:=by have:=(qR.mp hj).1;rwa [qh]at this
   exact⟨v,by rw[qm (by rw[<- h.len];exact hl)],Rp.same so _ r⟩
  ·obtain⟨u,h1,h2⟩:=h.pl j e hj'
   exact⟨u,by rw[kept ne];exact h1,Rp.same so _ h2⟩
 ·rcases zbb hj with⟨_,z⟩|⟨ne,hj'⟩
  ·cases z
  ·obtain⟨a,h1,h2,h3,h4⟩:=h.ac j e hj'
   exact⟨a,by rw[kept ne];exact h1,h2,h3,h4.same so λo z=>z⟩
 ·rcases zbb h1 with⟨_,z⟩|⟨n1,h1⟩
  ·cases z
  rcases zbb h2 with⟨_,z⟩|⟨n2,h2⟩
  ·cases z
  rw[kept n1]at h3
  rw[kept n2]at h4
  exact h.inj j k d1 d2 a h1 h2 h3 h4
theorem EnvOk.setAc {fx:Addr->Prop} {env:DEnv} {σ:St} (h:EnvOk (λb=>fx b\/b=a) H0 env σ H) (i:Nat) (r:zcb (Offs (λb=>(fx b\/own env σ b)\/b=a) H) H a d) (h0:H0 a=none) (hf:¬fx a) :
  EnvOk fx H0 (env.set i (.ac d)) (σ.set i (some (.ref a))) H:=by
 have kept:∀{j:Nat},j≠i->(σ.set i (some (V.ref a)))[j]?=σ[j]?:=λ{j} n=>qz λz=>n z.symm
 have sub:∀b,fx b\/own (env.set i (.ac d)) (σ.set i (some (.ref a))) b->(fx b\/b=a)\/own env σ b:=by
  rintro b (z|⟨j,e,h1,h2⟩)
  ·exact .inl (.inl z)
  ·rcases zbb h1 with⟨rfl,z⟩|⟨ne,h1⟩
   ·have hl:j<env.length:=by have:=(qR.mp ‹(env.set j (.ac d))[j]?=_›).1;rwa [qh]at this
    rw[qm (by rw[<- h.len];exact hl)]at h2
    cases h2
    exact .inl (.inr rfl)
   ·rw[kept ne]at h2
    exact .inr ⟨j,e,h1,h2⟩
 have so:Same (Offs (λb=>(fx b\/b=a)\/own env σ b) H) (Offs (λb=>fx b\/own (env.set i (.ac d)) (σ.set i (some (.ref a))) b) H):=Offs.sub sub
 have so2:Same (Offs (λb=>(fx b\/own env σ b)\/b=a) H) (Offs (λb=>fx b\/own (env.set i (.ac d)) (σ.set i (some (.ref a))) b) H):=Offs.sub λb z=>by
  rcases sub b z with(y|y)|y
  ·exact .inl (.inl y)
  ·exact .inr y
  ·exact .inl (.inr y)
 refine⟨by rw[qh,qh];exact h.len,λj e hj=>?_,λj e hj=>?_,λj k d1 d2 b h1 h2 h3 h4=>?_,h.base,λb z=>h.fxs b (.inl z)⟩
 ·rcases zbb hj with⟨_,z⟩|⟨ne,hj'⟩
  ·cases z
  ·obtain⟨u,h1,h2⟩:=h.pl j e hj'
   exact⟨u,by rw[kept ne];exact h1,Rp.same so _ h2⟩
 ·rcases zbb hj with⟨rfl,z⟩|⟨ne,hj'⟩
  ·cases z
   have hl:j<env.length:=by have:=(qR.mp hj).1;rwa [qh]at this
   exact⟨a,by rw[qm (by rw[<- h.len];exact hl)],h0,hf,r.same so2 λo z=>z⟩
  ·obtain⟨b,h1,h2,h3,h4⟩:=h.ac j e hj'
   exact⟨b,by rw[kept ne];exact h1,h2,λz=>h3 (.inl z),h4.same so λo z=>z⟩
 ·rcases zbb h1 with⟨e1,z1⟩|⟨n1,h1'⟩<;>rcases zbb h2 with⟨e2,z2⟩|⟨n2,h2'⟩
  ·rw[e1,e2]
  ·subst e1
   have hl:j<env.length:=by have:=(qR.mp h1).1;rwa [qh]at this
   rw[qm (by rw[<- h.len];exact hl)]at h3
   rw[kept n2]at h4
   cases h3
   obtain⟨b,g1,g2,g3,g4⟩:=h.ac k d2 h2'
   rw[h4]at g1
   cases g1
   exact absurd (.inr rfl) g3
  ·subst e2
   have hl:k<env.length:=by have:=(qR.mp h2).1;rwa [qh]at this
   rw[qm (by rw[<- h.len];exact hl)]at h4
   rw[kept n1]at h3
   cases h4
   obtain⟨b,g1,g2,g3,g4⟩:=h.ac j d1 h1'
   rw[h3]at g1
   cases g1
   exact absurd (.inr rfl) g3
  ·rw[kept n1]at h3
   rw[kept n2]at h4
   exact h.inj j k d1 d2 b h1' h2' h3 h4
noncomputable def slOf(r:Val):Sl:=if r.fr=true then .ac r.d else .pl r.d
noncomputable def putV(env:DEnv)(i:Nat)(r:Val):DEnv:=(frzs env r.bs).set i (slOf r)
theorem EnvOk.put{fx:Addr->Prop}{σ:St}(h:EnvOk fx H0 env σ H)(s:Same H H'){r:Val}(hv:ValOk (lim fx env σ r.bs) H H' r v)(i:Nat):EnvOk fx H0 (putV env i r) (σ.set i (some v)) H':=by
 unfold putV slOf
 cases e:r.fr with
 | false=>
  rw[if_neg qI]
  exact((h.up s).frzs r.bs).setPl i (Rp.same (Offs.sub zgf) _ hv.rp)
 | true=>
  rw[if_pos rfl]
  obtain⟨a,rfl,ha,hacc⟩:=hv.fr e
  have nfx:¬fx a:=zcy h.fxs ha
  have g:EnvOk (λb=>fx b\/b=a) H0 env σ H':=h.grow s (λb o eo n z=>z.elim n λy=>by rw[y,ha]at eo;cases eo) λb z=>by
   rcases z with z|z
   ·obtain⟨o,eo⟩:=h.fxs b z;exact⟨o,s b o eo⟩
   ·rw[z];exact hacc.ex
  refine(g.frzs r.bs).setAc i (hacc.same (Offs.sub λb z=>?_) λo z=>z) (h.base.free ha) nfx
  rcases z with z|z
  ·exact .inl (zgf b z)
  ·exact .inr z
noncomputable def sSeq(f g:SF):SF:=λenv=>(f env).bind λo=>match o with
 | .nx env'=>g env'
 | o=>some o
theorem zlh(h1:SS t f)(h2:SS u g):SS (tSeq t u) (sSeq f g):=by
 intro fx H0 env σ H D h o e q
 unfold sSeq at e
 obtain⟨o1,e1,e⟩:=qK.mp e
 refine h1 fx H0 env σ H _ h o1 e1 ?_
 cases o1 with
 | nx env'=>exact λσ' H' h'=>h2 fx H0 env' σ' H' D h' o e q
 | bk env'=>cases e;exact q
 | ct env'=>cases e;exact q
 | rt d fr=>cases e;exact q
noncomputable def sRet(f:EF):SF:=λenv=>(f env).map λr=>.rt r.d r.fr
theorem zoz(h1:SE te f):SS (tRet te) (sRet f):=by
 intro fx H0 env σ H D h o e q
 unfold sRet at e
 obtain⟨r,er,rfl⟩:=qc.mp e
 refine h1 fx H0 env σ H h r er _ λv H' s hv=>q v H' (h.base.trans s) ⟨Rp.same (Offs.sub λb z=>.inl z) _ hv.rp,λz=>?_⟩
 obtain⟨a,g1,g2,g3⟩:=hv.fr z
 exact⟨a,g1,h.base.free g2,g3.same (Offs.sub λb y=>y.imp .inl id) λo z=>z⟩
noncomputable def sSet(i:Nat)(f:EF):SF:=λenv=>(f env).map λr=>.nx (putV env i r)
theorem zli(h1:SE te f):SS (tAsg te (gName i)) (sSet i f):=by
 intro fx H0 env σ H D h o e q
 unfold sSet at e
 obtain⟨r,er,rfl⟩:=qc.mp e
 exact h1 fx H0 env σ H h r er _ λv H' s hv=>q _ H' (h.put s hv i)
noncomputable abbrev GT:=PyData->DEnv->Option DEnv
noncomputable def SG(g:TG)(f:GT):Prop:=∀(fx:Addr->Prop)(H0:Hp)(env:DEnv)(σ:St)(H:Hp)(d:PyData)(v:V),EnvOk fx H0 env σ H->Rp (Offs (λa=>fx a\/own env σ a) H) d v->∀env',f d env=some env'->∀Q:St->Hp->Prop,
 (∀σ',EnvOk fx H0 env' σ' H->Q σ' H)->g v σ H Q
noncomputable def gN(i:Nat):GT:=λd env=>some (env.set i (.pl d))
theorem zmr:SG (gName i) (gN i):=by
 intro fx H0 env σ H d v h r env' e Q q
 cases e
 exact q _ (h.setPl i r)
theorem zki:∀{bs:List Nat},i∉bs->env[i]?=some (.ac d)->(frzs env bs)[i]?=some (.ac d):=by
 intro bs
 induction bs generalizing env with
 | nil=>intro _ e;exact e
 | cons j bs ih=>
  intro hn e
  have hj:i≠j:=λz=>hn (by simp[z])
  refine ih (λz=>hn (qC _ z)) ?_
  unfold frz1
  split
  ·rw[qz λz=>hj z.symm];exact e
  ·exact e
noncomputable def Yl(A0:Addr->Prop)(H1:Hp)(J:It)(ds:List PyData):Prop:=∀(A:Addr->Prop)(H':Hp),(∀b,A b->∃o,H' b=some o)->Same (Offs A0 H1) (Offs A H')->
 (∀i d,ds[i]?=some d->J.go i H'/\∀x H'',J.yld i H' x H''->Same H' H''/\Rp (Offs A H'') d x)/\J.stop ds.length H'
noncomputable abbrev IF':=DEnv->Option (List PyData×List Nat)
noncomputable def SI(wi:TI)(f:IF'):Prop:=∀(fx:Addr->Prop)(H0:Hp)(env:DEnv)(σ:St)(H:Hp),EnvOk fx H0 env σ H->∀ds bs,f env=some (ds,bs)->∀R:It->Hp->Prop,
 (∀J H1,Same H H1->Yl (λb=>fx b\/own (frzs env bs) σ b) H1 J ds->R J H1)->wi σ H R
noncomputable def zqi(ds:List PyData):List PyData:=ds.zipIdx.map λp=>.tuple [.int p.2,p.1]
noncomputable def zqr(f:AF):IF':=λenv=>(f env).bind λrs=>match rs with
 | [r]=>match r.d with
  | .list ds=>some (zqi ds,r.bs)
  | _=>none
 | _=>none
noncomputable def zep(lo:Int)(n:Nat):List PyData:=(List.range n).map λ(k:Nat)=>.int (lo+(k:Int))
theorem zkj{A0:Addr->Prop}{H1:Hp}{lo:Int}{n:Nat}:Yl A0 H1 (Itr lo n) (zep lo n):=by
 intro A H' hA s
 have hl:(zep lo n).length=n:=by unfold zep;simp
 refine⟨λi d e=>?_,by rw[hl];exact qG _⟩
 unfold zep at e
 rw[qX]at e
 by_cases hi:i<n
 ·rw[List.getElem?_range hi]at e
  cases e
  exact⟨hi,λx H'' ⟨e1,e2⟩=>by subst e1;subst e2;exact⟨Same.refl _,zaf⟩⟩
 ·rw[List.getElem?_eq_none (by simpa using hi)]at e
  cases e
noncomputable def zfm(f:AF):IF':=λenv=>(f env).bind λrs=>match rs with
 | [⟨.int j,_,_⟩]=>if -(2 ^ 62)<=j/\j<2 ^ 62 then some (zep 0 j.toNat,[])else none
 | _=>none
theorem zil(h1:SA ta f):SI (iRng1 ta) (zfm f):=by
 intro fx H0 env σ H h ds bs e R q
 unfold zfm at e
 obtain⟨rs,er,e⟩:=qK.mp e
 split at e
 ·split at e
  ·rename_i hj
   cases e
   refine h1 fx H0 env σ H h _ er _ λvs H1 s hv=>?_
   cases hv with
   | cons hv t=>
    cases t
    cases zbm hv.rp
    exact⟨_,rfl,hj.1,hj.2,q _ H1 s zkj⟩
  ·cases e
 ·cases e
noncomputable def zms:Sl->Sl
 | .ac d=>.pl d
 | s=>s
noncomputable def envB(own:List Str)(fr:List Nat)(env:DEnv):DEnv:=own.map (λ_=>Sl.no)++fr.map (λj=>zms (env.getD j .no))
noncomputable def isAc:Option Sl->Bool
 | some (.ac _)=>true
 | _=>false
noncomputable def capA(fr:List Nat)(env:DEnv):List Nat:=fr.filter λj=>isAc env[j]?
theorem zgg{own:List Str}(e:(envB own fr env)[i]?=some (.pl d)):∃j k,i=own.length+k/\fr[k]?=some j/\(env[j]?=some (.pl d)\/env[j]?=some (.ac d)):=by
 unfold envB at e
 by_cases hi:i<own.length
 ·rw[qw (by simpa using hi),qX,qe hi]at e
  cases e
 ·rw[qa (by simpa using hi),qT,qX]at e
  cases ej:fr[i - own.length]? with
  | none=>rw[ej]at e;cases e
  | some j=>
   rw[ej]at e
   refine⟨j,i - own.length,by omega,ej,?_⟩
   have e:zms (env.getD j .no)=.pl d:=qN e
   rw[qb]at e
   cases ev:env[j]? with
   | none=>rw[ev]at e;cases e
   | some s=>
    rw[ev]at e
    cases s with
    | no=>cases e
    | pl d'=>cases e;exact .inl rfl
    | ac d'=>cases e;exact .inr rfl
theorem zcp{own:List Str}{fr:List Nat}{env:DEnv}{i:Nat}{d:PyData}:(envB own fr env)[i]?≠some (.ac d):=by
 intro e
 unfold envB at e
 by_cases hi:i<own.length
 ·rw[qw (by simpa using hi),qX,qe hi]at e
  cases e
 ·rw[qa (by simpa using hi),qT,qX]at e
  cases ej:fr[i - own.length]? with
  | none=>rw[ej]at e;cases e
  | some j=>
   rw[ej]at e
   have e:zms (env.getD j .no)=.ac d:=qN e
   cases ev:env.getD j .no with
   | no=>rw[ev]at e;cases e
   | pl d'=>rw[ev]at e;cases e
   | ac d'=>rw[ev]at e;cases e
theorem zim{own:List Str}(hk:fr[k]?=some j)(hv:σ[j]?=some (some v)):(tau own fr σ)[own.length+k]?=some (some v):=by
 unfold tau
 rw[qa (by simp),qT,Nat.add_sub_cancel_left,qX,hk]
 show some (σ.getD j none)=_
 rw[qb,hv];rfl
theorem zin{fx:Addr->Prop}{H0:Hp}{env:DEnv}{σ:St}{H H1:Hp}{p:Addr}(h:EnvOk fx H0 env σ H)(s:Same H H1)(hp:H1 p=none)(own:List Str)(fr:List Nat)(bs:List Nat) :
  EnvOk (λb=>lim fx env σ (bs++capA fr env) b\/b=p) H1 (envB own fr env) (tau own fr σ) (upd H1 p (.lst [])):=by
 have h1:=h.up s
 have sp:Same H1 (upd H1 p (.lst [])):=Same.new hp
 have so:Same (Offs (λb=>fx b\/L2.own env σ b) H1) (Offs (λb=>(lim fx env σ (bs++capA fr env) b\/b=p)\/L2.own (envB own fr env) (tau own fr σ) b) (upd H1 p (.lst []))):=Offs.mono sp λb o e n z=>by
  rcases z with(z|z)|⟨i,d,z,_⟩
  ·exact n (zfk b z)
  ·rw[z,hp]at e;cases e
  ·exact absurd z zcp
 refine⟨?_,λi d e=>?_,λi d e=>absurd e zcp,λi j d e a z=>absurd z zcp,sp,λb z=>?_⟩
 ·unfold envB tau;simp
 ·obtain⟨j,k,rfl,hk,hj⟩:=zgg e
  rcases hj with hj|hj
  ·obtain⟨v,h2,h3⟩:=h1.pl j d hj
   exact⟨v,zim hk h2,Rp.same so _ h3⟩
  ·obtain⟨a,h2,h3,h4,h5⟩:=h1.ac j d hj
   refine⟨_,zim hk h2,h5.rp so λo eo=>?_⟩
   rw[Offs.get]
   ·exact sp _ _ eo
   ·rintro((z|⟨i',d',z1,z2,z3⟩)|⟨i',d',z,_⟩)
    ·rcases z with z|⟨i',d',z1,z2,z3⟩
     ·exact h4 z
     ·have e2:=h1.inj i' j d' d a z2 hj z3 h2
      subst e2
      refine z1 (qL _ (qAn.mpr ⟨qi hk,?_⟩))
      rw[hj];rfl
    ·rw[hp]at eo;cases eo
    ·exact absurd z zcp
 ·rcases z with z|z
  ·obtain⟨o,e⟩:=h1.lims _ b z;exact⟨o,sp b o e⟩
  ·rw[z];exact⟨_,zae⟩
theorem EnvOk.weaken{fx:Addr->Prop}{env e1:DEnv}(h:EnvOk fx H0 e1 σ H)(hl:env.length=e1.length)(hp:∀(i:Nat) (d:PyData),env[i]?=some (.pl d)->e1[i]?=some (.pl d))(ha:∀(i:Nat) (d:PyData),env[i]?≠some (.ac d)):EnvOk fx H0 env σ H:=by
 refine⟨hl.trans h.len,λi d e=>?_,λi d e=>absurd e (ha i d),λi j d e a z=>absurd z (ha i d),h.base,h.fxs⟩
 obtain⟨v,h1,h2⟩:=h.pl i d (hp i d e)
 exact⟨v,h1,Rp.same (Offs.sub λb z=>z.imp (λy=>y) λ⟨j,d',z,_⟩=>absurd z (ha j d')) _ h2⟩
theorem EnvOk.updFx{fx:Addr->Prop}(h:EnvOk fx H0 env σ H)(hp:fx p)(h0:H0 p=none):EnvOk fx H0 env σ (upd H p o):=by
 have so:Offs (λb=>fx b\/own env σ b) (upd H p o)=Offs (λb=>fx b\/own env σ b) H:=Offs.upd (.inl hp)
 refine⟨h.len,λi d e=>?_,λi d e=>?_,h.inj,λb u e=>by rw[zah (zau e h0)];exact h.base b u e,λb z=>?_⟩
 ·rw[so];exact h.pl i d e
 ·obtain⟨a,h1,h2,h3,h4⟩:=h.ac i d e
  rw[so]
  exact⟨a,h1,h2,h3,h4.same (Same.refl _) λu z=>by rw[zah λy=>h3 (by rw[y];exact hp)];exact z⟩
 ·by_cases e:b=p
  ·rw[e];exact⟨_,zae⟩
  ·obtain⟨u,hu⟩:=h.fxs b z
   exact⟨u,by rw[zah e];exact hu⟩
noncomputable def GX(n:Nat)(g:GT):Prop:=∀d env e1,g d env=some e1->e1.length=env.length/\∀i,n<=i->e1[i]?=env[i]?
theorem zmt(h:i<n):GX n (gN i):=by
 intro d env e1 e
 cases e
 exact⟨qh,λj hj=>qz (by omega)⟩
noncomputable def zfn(g:GT)(t:TF)(e:EF)(env:DEnv):List PyData->Option (List PyData)
 | []=>some []
 | d::ds=>(g d env).bind λe1=>(t e1).bind λb=>if b=true then(e e1).bind λr=>(zfn g t e env ds).map λrs=>r.d::rs else zfn g t e env ds
noncomputable def zmu(own:List Str)(fr:List Nat)(fi:IF')(g:GT)(t:TF)(e:EF):EF:=λenv=>(fi env).bind λz=>if z.1.length<100000 then
 (zfn g t e (envB own fr env) z.1).map λrs=>⟨.list rs,true,if zen rs=true then[]else z.2++capA fr env⟩else none
theorem zeq(f:zen ds=true)(h:Rps H ds vs):Rps H' ds vs:=by
 replace h:=zav.mp h
 induction h with
 | nil=>exact zcx
 | cons h _ ih=>
  unfold zen at f
  rw[List.all_cons,qW]at f
  exact zcs (zic f.1 h) (ih f.2)
theorem zmv{own:List Str}{fr:List Nat}{wi:TI}{g:TG}{tt:TT}{te:TE}{fi:IF'}{gf:GT}{t:TF}{e:EF}(h1:SI wi fi)(h2:SG g gf)(hx:GX own.length gf)(h3:ST tt t)(h4:SE te e) :
  SE (tComp1 wi g tt te own fr) (zmu own fr fi gf t e):=by
 intro fx H0 env σ H h rr hr Q q
 unfold zmu at hr
 obtain⟨⟨ds,bs⟩,ei,hr⟩:=qK.mp hr
 split at hr
 ·rename_i hlen
  have hlen:ds.length<100000:=hlen
  obtain⟨rs,ers,rfl⟩:=qc.mp hr
  refine h1 fx H0 env σ H h ds bs ei _ λJ H1 s yl=>λp hp=>?_
  have hB:=zin h s hp own fr bs
  generalize hA:(λb=>lim fx env σ (bs++capA fr env) b)=A
  have hA':∀b,lim fx env σ (bs++capA fr env) b↔A b:=λb=>by rw[<- hA]
  have eA:(λb=>lim fx env σ (bs++capA fr env) b\/b=p)=λb=>A b\/b=p:=by rw[<- hA]
  rw[eA]at hB
  have nA:¬A p:=λz=>by
   obtain⟨o,eo⟩:=(h.up s).lims _ p ((hA' p).mpr z)
   rw[hp]at eo;cases eo
  have seen:∀{σ':St}{H':Hp},EnvOk (λb=>A b\/b=p) H1 (envB own fr env) σ' H'->Same (Offs (λb=>fx b\/L2.own (frzs env bs) σ b) H1) (Offs (λb=>A b\/b=p) H'):=λ{σ' H'} hE=>Offs.mono hE.base λb o eo n z=>by
   rcases z with z|z
   ·rcases(hA' b).mpr z with z|⟨i,d,z1,z2,z3⟩
    ·exact n (.inl z)
    ·exact n (.inr ⟨i,d,zki (λy=>z1 (qy _ y)) z2,z3⟩)
   ·rw[z,hp]at eo;cases eo
  refine⟨λi m σ' H'=>m=ds.length - i/\i<=ds.length/\∃vs done rest,H' p=some (.lst vs)/\Rps (Offs (λb=>A b\/b=p) H') done vs/\done.length<=i/\zfn gf t e (envB own fr env) (ds.drop i)=some rest/\done++rest=rs/\EnvOk (λb=>A b\/b=p) H1 (envB own fr env) σ' H',
   ⟨ds.length,rfl,qAQ _,[],[],rs,zae,zcx,qAQ _,ers,rfl,hB⟩,?_⟩
  rintro i m σ' H' ⟨rfl,hi,vs,done,rest,ep,rd,dl,ec,edr,hE⟩
  obtain⟨yi,ys⟩:=yl _ H' hE.fxs (seen hE)
  by_cases hlt:i<ds.length
  ·obtain⟨yg,yy⟩:=yi i ds[i] (qe hlt)
   refine .inr ⟨yg,λσ'' H''=>i+1<=ds.length/\∃vs done rest,H'' p=some (.lst vs)/\Rps (Offs (λb=>A b\/b=p) H'') done vs/\done.length<=i+1/\zfn gf t e (envB own fr env) (ds.drop (i+1))=some rest/\done++rest=rs/\EnvOk (λb=>A b\/b=p) H1 (envB own fr env) σ'' H'',?_,?_⟩
   ·rintro σ'' H'' ⟨hle,hh⟩
    exact⟨ds.length - (i+1),by omega,rfl,hle,hh⟩
   ·intro x H'' hy
    obtain⟨sy,ry⟩:=yy x H'' hy
    rw[List.drop_eq_getElem_cons hlt]at ec
    obtain⟨e1,ee1,ec⟩:=qK.mp ec
    obtain⟨b,eb,ec⟩:=qK.mp ec
    have ry':Rp (Offs (λa=>(A a\/a=p)\/L2.own (envB own fr env) σ' a) H'') ds[i] x:=Rp.same (Offs.sub λb z=>z.elim (λy=>y) λ⟨j,d',z,_⟩=>absurd z zcp) _ ry
    refine h2 _ H1 (envB own fr env) σ' H'' _ x (hE.up sy) ry' e1 ee1 _ λσ2 hE2=>?_
    refine h3 _ H1 e1 σ2 H'' hE2 b eb _ λH3 s3=>?_
    have hE3:=hE2.up s3
    obtain⟨gl,gk⟩:=hx _ _ _ ee1
    have back:∀{H4:Hp},EnvOk (λb=>A b\/b=p) H1 e1 σ2 H4->EnvOk (λb=>A b\/b=p) H1 (envB own fr env) σ2 H4:=λ{H4} hh=>hh.weaken gl.symm (λj d' ej=>by
     by_cases hj:own.length<=j
     ·rw[gk j hj];exact ej
     ·obtain⟨_,k,rfl,_⟩:=zgg ej;omega) λj d'=>zcp
    cases b with
    | false=>
     have ec:zfn gf t e (envB own fr env) (ds.drop (i+1))=some rest:=ec
     exact iteF ⟨hlt,vs,done,rest,s3 _ _ (sy _ _ ep),Rps.same (Offs.grow (sy.trans s3)) _ rd,Nat.le_succ_of_le dl,ec,edr,back hE3⟩
    | true=>
     have ec:((e e1).bind λr=>(zfn gf t e (envB own fr env) (ds.drop (i+1))).map λrs=>r.d::rs)=some rest:=ec
     obtain⟨r,er,ec⟩:=qK.mp ec
     obtain⟨rest',er',rfl⟩:=qc.mp ec
     refine iteT (h4 _ H1 e1 σ2 H3 hE3 r er _ λv H4 s4 hv=>?_)
     have t4:=(sy.trans s3).trans s4
     refine⟨vs,t4 _ _ ep,zmn (by rw[<- rd.length];omega),hlt,vs++[v],done++[r.d],rest',zae,?_,by rw[qO];simp;omega,er',by rw[<- edr];simp,(back (hE3.up s4)).updFx (.inr rfl) hp⟩
     rw[Offs.upd (.inr rfl)]
     exact(Rps.same (Offs.grow t4) _ rd).append (zcs (Rp.same (Offs.sub λb z=>.inl z) _ hv.rp) zcx)
  ·have hi':i=ds.length:=by omega
   subst hi'
   rw[List.drop_length]at ec
   cases ec
   rw[qAW]at edr
   subst edr
   refine .inl ⟨ys,q _ H' (s.trans hE.base) ⟨?_,λ_=>⟨p,rfl,s.free hp,?_⟩⟩⟩
   ·show Rp (Offs (lim fx env σ (if zen done=true then[]else bs++capA fr env)) H') (.list done) (.ref p)
    have nl:∀cs,¬lim fx env σ cs p:=λcs z=>by
     obtain⟨o,eo⟩:=(h.up s).lims _ p z
     rw[hp]at eo;cases eo
    refine zbx (by rw[Offs.get (nl _)];exact ep) ?_
    split
    ·rename_i f;exact zeq f rd
    ·exact Rps.same (Offs.sub λb z=>.inl ((hA' b).mp z)) _ rd
   ·show zcb (Offs (λb=>lim fx env σ (if zen done=true then[]else bs++capA fr env) b\/b=p) H') H' p (.list done)
    refine⟨vs,ep,?_⟩
    split
    ·rename_i f;exact zeq f rd
    ·exact Rps.same (Offs.sub λb z=>z.imp (hA' b).mp id) _ rd
 ·cases hr
section
variable{X:Cx}{K:qA}
theorem zio(hK:X.K=K){a:Expr}(ha:PE X a ta)(he:∀whole,isTrue a X.env whole=(do let v <- whole;standAt a.pos;holding [v] (truthy v))) :
  PT X a (λσ H Q=>ta σ H λx H'=>∃k,TruV K x H' k/\Q k H'):=by subst hK;exact zju ha he
theorem zlj(hK:X.K=K)(hu:X.A.units+64<cLine):OpR X (compareOp .Eq) (λx y H Q=>rEq x y H Q\/rEqD K false x y H Q):=by subst hK;exact zqa.or (zor hu)
theorem ziq(hK:X.K=K)(hu:X.A.units+64<cLine):OpR X (compareOp .NotEq) (λx y H Q=>rNe x y H Q\/rEqD K true x y H Q):=by subst hK;exact zqb.or (zos hu)
noncomputable def zpa:TF:=λ_=>some true
theorem zpb:ST tAll zpa:=by
 intro fx H0 env σ H hE b hb Q q
 cases hb
 exact q H (Same.refl _)
end
end L2
namespace PySem
open Sem (wp)
end PySem
namespace L2
open PySem PySem.Spec PyProof.Rows
end L2
namespace PySem
open Sem (wp)
end PySem
namespace L2
open PySem PySem.Spec PyProof.Rows
end L2
namespace PySem
open Sem (wp)
end PySem
namespace L2
open PySem PySem.Spec PyProof.Rows
end L2
namespace PySem
open Sem (wp)
end PySem
namespace L2
open PySem PySem.Spec PyProof.Rows
end L2
namespace PySem
open Sem (wp)
open AutoSeq1 (wpAny_loadPart')
end PySem
namespace L2
open PySem PySem.Spec PyProof.Rows
noncomputable def isStar:Expr->Bool
 | .Starred ..=>true
 | _=>false
theorem zcz(h:isStar e=false):starEach (e::es) env=(false,eval e env)::starEach es env:=by
 cases e<;>first
  | rfl
  | cases h
theorem zkk(ha:PE X e te)(hr:PA X es t)(hs:isStar e=false:=by rfl):PA X (e::es) (tCons te t):=zdr ha hr (zcz hs)
end L2
namespace PySem.SeqAt
open AutoSeq1 (wpAny_loadPart')
open MeetsSeq PyProof.Rows
end PySem.SeqAt
namespace L2
open PySem PySem.Spec PyProof.Rows
structure Bx(p:Prop):Prop where
 out:p
theorem Bx.pt(h:Bx (PW X e t)):Bx (PT X e t):=⟨h.out.pt⟩
theorem zat:Bx (PE X (qAC.Constant (PySem.Const.int i) j pos) (tC (L2.V.int i))):=⟨zns⟩
theorem zab:Bx (PA X [] tNil):=⟨zhq⟩
theorem zam(ha:Bx (PE X e te))(hr:Bx (PA X es t))(hs:L2.isStar e=Bool.false):Bx (PA X (e::es) (tCons te t)):=⟨zkk ha.out hr.out hs⟩
theorem zaw{a b:qAC}(ho:OpR X (PySem.binaryOp op) r)(ha:Bx (PE X a ta))(hb:Bx (PE X b tb)):Bx (PE X (a.BinOp op b pos) (tOp r ta tb)):=⟨zpz ho ha.out hb.out⟩
theorem zbj{X:Cx}{st:Stmt}{t:TS}(h1:Bx (PS X st t)):Bx (PSs X [st] t):=⟨zhj h1.out⟩
theorem zak{X:Cx}{st:Stmt}{rest:List Stmt}{t u:TS}(h1:Bx (PS X st t))(h2:Bx (PSs X rest u)):Bx (PSs X (st::rest) (L2.tSeq t u)):=⟨zgb h1.out h2.out⟩
theorem zpc {X:Cx} {x:Str} (D:L2.Dn X.prog X.w X.K X.mg X.base x ps k sp) (hr:L2.Room k X.A) (hg:Gl X x) (ha:Bx (PA X (e::es) t)) (hdb:(x==qo "__debug__")=Bool.false) (he:qAE (e::es) X.env=(Bool.false,PySem.eval e X.env)::qAE es X.env) (hpl:((PySem.backTo pos (qAE es X.env)).any λ(x:Bool×PySem.Sem Value)=>x.fst)=Bool.false):Bx (PE X ((qAC.Name x p).Call (e::es) [] pos) (L2.tCall sp [] L2.E0 t)):=⟨zqg D hr hg ha.out hdb he hpl⟩
theorem zcd(he:Bx (PE X e te)):Bx (PS X (PySem.Stmt.Return (Option.some e) pos) (L2.tRet te)):=⟨zny he.out⟩
theorem zda{X:Cx}{pos:qAz}(hN:X.N.Nodup)(hi:X.N[i]?=Option.some x)(hx:L2.Loc X.env.scope x)(he:Bx (PE X e te))(hs:PySem.swapsWith e (Option.some (qAC.Name x pos')) pos.line X.env=Pure.pure Bool.false)(hf:X.fn x=Bool.true\/List.lookup x X.env.scope.names=Option.some PySem.NameKind.local):Bx (PS X (PySem.Stmt.Assign [qAC.Name x pos'] e pos) (L2.tAsg te (L2.gName i))):=⟨znz hN hi hx he.out hs hf⟩
theorem zir {X:Cx} {x:Str} {p pos:qAz} {e:qAC} {es:List qAC} {t:TA} {id:String} {r:List L2.V->Hp->VK->Prop} (hc:CallR X (PySem.Value.builtin id) r) (hg:Gl X x) (hm:X.mg x=Option.none) (hv:PySem.bootBuiltins x=Option.some (PySem.Value.builtin id)) (ha:Bx (PA X (e::es) t)) (hn:x≠qo "__name__") (hdb:(x==qo "__debug__")=Bool.false) (he:qAE (e::es) X.env=(Bool.false,PySem.eval e X.env)::qAE es X.env) (hpl:((PySem.backTo pos (qAE es X.env)).any λ(x:Bool×PySem.Sem Value)=>x.fst)=Bool.false):Bx (PE X ((qAC.Name x p).Call (e::es) [] pos) (L2.tCB r t)):=⟨zjw hc hg hm hv ha.out hn hdb he hpl⟩
theorem zis:Bx (PE X (qAC.Constant (PySem.Const.bool b) j pos) (tC (L2.V.bl b))):=⟨zpv⟩
theorem zgh{a b:qAC}(hr:IxR X r)(ha:Bx (PE X a ta))(hb:Bx (PE X b tb))(hs:L2.PlainIx b):Bx (PE X (a.Subscript b pos) (tOp r ta tb)):=⟨zqd hr ha.out hb.out hs⟩
theorem zgi(hc:Bx (PT X c tc))(ha:Bx (PSs X a t))(hb:Bx (PSs X b u)):Bx (PS X (PySem.Stmt.If c a b pos) (L2.tIfS tc t u)):=⟨zpx hc.out ha.out hb.out⟩
theorem zct:Bx (PSs X [] L2.tNext):=⟨zlu⟩
theorem zfo(ha:Bx (PT X a tA)):Bx (PT X (qAC.UnaryOp PySem.UnaryOp.Not a pos) (L2.tNot tA)):=⟨znw ha.out⟩
theorem zby:∀{X:Cx}{K:qA},
 X.K=K->
  ∀{a:qAC}{ta:TE},
   Bx (PE X a ta)->
    (∀(whole:PySem.Sem Value),
      PySem.isTrue a X.env whole=do
       let v <- whole
       PySem.standAt a.pos
       PySem.holding [v] (PySem.truthy v))->
     Bx (PT X a λ(σ:L2.St)(H:Hp)(Q:Bool->Hp->Prop)=>ta σ H λ(x:L2.V)(H':Hp)=>∃(k:Bool),L2.TruV K x H' k/\Q k H'):=by
 intro X K hK a ta ha he
 exact⟨zio hK ha.out he⟩
theorem zkl{X:Cx}(hN:X.N.Nodup)(hi:X.N[i]?=Option.some x)(hx:L2.Loc X.env.scope x)(hf:X.fn x=Bool.true\/List.lookup x X.env.scope.names=Option.some PySem.NameKind.local):Bx (PG X (qAC.Name x pos) (L2.gName i)):=⟨zlw hN hi hx hf⟩
theorem zbf(h:Bx (PA X es t)):Bx (PE X (qAC.List es pos) (tLst t)):=⟨zoh h.out⟩
theorem zmw{X:Cx}(hp:PySem.PassesOwn (PySem.model X.prog X.w) X.A X.env X.xe)(hc:X.calm=Bool.true)(hi:Bx (PI X tg iter wi))(hg:Bx (PG X tg g))(hb:Bx (PSs X body tb))(hs:(∀(x:Value),PySem.foldedSetIterable iter X.env x=Pure.pure x)):Bx (PS X (PySem.Stmt.For tg iter body [] pos) (L2.tFor wi g tb)):=⟨zoa hp hc hi.out hg.out hb.out hs⟩
theorem zdz{a b:qAC}(ho:OpR X (PySem.compareOp op) r)(ha:Bx (PE X a ta))(hb:Bx (PE X b tb))(hm:PySem.behindInMarks op b=Bool.false):Bx (PT X (a.Compare [op] [b] pos) (L2.tTest (tOp r ta tb))):=⟨zly ho ha.out hb.out hm⟩
theorem zmx:Bx (PE X (qAC.Constant (PySem.Const.str x) j pos) (tC (L2.V.str x))):=⟨znu⟩
theorem zfp(h:Bx (PA X es t)):Bx (PE X (qAC.Tuple es x1 pos) (tTup t)):=⟨zog h.out⟩
theorem zgj{a b:qAC}(ho:OpR X (PySem.compareOp op) r)(ha:Bx (PE X a ta))(hb:Bx (PE X b tb))(hm:PySem.behindInMarks op b=Bool.false):Bx (PE X (a.Compare [op] [b] pos) (tOp r ta tb)):=⟨zlx ho ha.out hb.out hm⟩
theorem zgk{X:Cx}(hg:Gl X x)(hm:X.mg x=Option.none)(hv:PySem.bootBuiltins x=Option.some u)(r:L2.RelV v u)(hn:x≠qo "__name__")(hd:(x==qo "__debug__")=Bool.false):Bx (PE X (qAC.Name x pos) (tC v)):=⟨zlt hg hm hv r hn hd⟩
theorem zit(ha:Bx (PT X a tA)):Bx (PW X (qAC.BoolOp PySem.BoolOp.Or [a] pos) tA):=⟨znv ha.out⟩
theorem ziu {X:Cx} {a b:qAC} {pos:qAz} {tA tB':TT} {rest:List qAC} (ha:Bx (PT X a tA)) (hb:Bx (PW X (qAC.BoolOp PySem.BoolOp.Or (b::rest) pos) tB')):Bx (PW X (qAC.BoolOp PySem.BoolOp.Or (a::b::rest) pos) (L2.tOr tA tB')):=⟨zpw ha.out hb.out⟩
theorem ziv {X:Cx} {scope:Scope} {N' own:List Str} {fr:List Nat} {elt target iter:qAC} {ifs:List qAC} {cpos:qAz} {wi:TI} {g:TG} {tt:TT} {te:TE} (c:L2.CompOk X scope N' own fr) (hc:X.calm=Bool.true) (hi:Bx (PI X target iter wi)) (hb:(∀(cl:List (Str×Addr))(C:Addr)(s:Shared)(H:Hp)(fp:List Addr),PG (cxComp X scope N' own cl C s H fp) target g/\PF (cxComp X scope N' own cl C s H fp) ifs tt/\PE (cxComp X scope N' own cl C s H fp) elt te)) (hs:(∀(x:Value),PySem.foldedSetIterable iter X.env x=Pure.pure x)):Bx (PE X (elt.ListComp [{target:=target,iter:=iter,ifs:=ifs,is_async:=0}] scope cpos) (L2.tComp1 wi g tt te own fr)):=⟨zkd c hc hi.out hb hs⟩
theorem zdn{X:Cx}(hg:Gl X (qo "range"))(hm:X.mg (qo "range")=Option.none)(ha:Bx (PA X [a] ta))(hs:qAE [a] X.env=[(Bool.false,PySem.eval a X.env)]):Bx (PI X tg ((qAC.Name (qo "range") p).Call [a] [] pos) (L2.iRng1 ta)):=⟨zhk hg hm ha.out hs⟩
theorem zmy:Bx (PF X [] L2.tAll):=⟨zoo⟩
theorem ziw:Bx (PE X (qAC.Constant PySem.Const.none j pos) (tC L2.V.non)):=⟨znt⟩
theorem bv{X:Cx}(i:Nat)(hN:X.N[i]?=some x:=by rfl)(hv:visB X.env.scope x=true:=by rfl)(hd:(x==("__debug__":Str))=false:=by decide)
  (hcd:(x==("__classdict__":Str))=false:=by decide):Bx (PE X (.Name x pos) (tVar i)):=⟨zla hN (visB.of hv) hd hcd⟩
end L2
namespace HT
open PySem PySem.Spec PyProof.Rows L2
end HT
namespace L2
open PySem PySem.Spec PyProof.Rows
end L2
namespace PySem
open Sem (wp)
end PySem
namespace L2
open PySem PySem.Spec PyProof.Rows
end L2
namespace PySem
open Sem (wp)
end PySem
namespace L2
open PySem PySem.Spec PyProof.Rows
section
variable{X:Cx}
theorem bpaC(h1:Bx (PE X e te))(h2:Bx (PA X es t))(h3:isStar e=false:=by rfl):Bx (PA X (e::es) (tCons te t)):=zam h1 h2 h3
theorem bpeD{x:Str}(D:Dn X.prog X.w X.K X.mg X.base x ps k sp)(hr:Room m X.A)(ha:Bx (PA X (e::es) t))(hm:k<=m:=by decide)(hg:Gl X x:=by rfl)(hd:(x==("__debug__":Str))=false:=by decide)
  (hs:isStar e=false:=by rfl) (hp:((backTo pos (starEach es X.env)).any λx=>x.1)=false:=by rfl):Bx (PE X (.Call (.Name x p) (e::es) [] pos) (tCall sp [] E0 t)):=zpc D (hr.mono hm) hg ha hd (zcz hs) hp
theorem bpeB{x:Str}{p pos:Pos}{e:Expr}{es:List Expr}{t:TA}{id:String}{r:List V->Hp->VK->Prop}(hc:CallR X (.builtin id) r)(hm:X.mg x=none)(hb:bootBuiltins x=some (.builtin id))(ha:Bx (PA X (e::es) t))(hg:Gl X x:=by rfl)(h1:x≠("__name__":Str):=by decide)(h2:(x==("__debug__":Str))=false:=by decide)
  (hs:isStar e=false:=by rfl) (hp:((backTo pos (starEach es X.env)).any λx=>x.1)=false:=by rfl):Bx (PE X (.Call (.Name x p) (e::es) [] pos) (tCB r t)):=zir hc hg hm hb ha h1 h2 (zcz hs) hp
theorem bpsS{pos:Pos}(hN:X.N.Nodup)(hi:X.N[i]?=some x)(hl:Loc X.env.scope x)(he:Bx (PE X e te))(hs:swapsWith e (some (.Name x pos')) pos.line X.env=pure false:=by rfl)(hf:X.fn x=true\/X.env.scope.names.lookup x=some .local:=by exact .inl rfl):Bx (PS X (.Assign [.Name x pos'] e pos) (tAsg te (gName i))):=zda hN hi hl he hs hf
theorem bpeX(hr:IxR X r)(h1:Bx (PE X a ta))(h2:Bx (PE X b tb))(hp:PlainIx b:=by exact λ_ _=>rfl):Bx (PE X (.Subscript a b pos) (tOp r ta tb)):=zgh hr h1 h2 hp
theorem bpgN(hN:X.N.Nodup)(hi:X.N[i]?=some x)(hl:Loc X.env.scope x)(hf:X.fn x=true\/X.env.scope.names.lookup x=some .local:=by first|exact .inl rfl|exact .inr rfl|assumption):Bx (PG X (.Name x pos) (gName i)):=zkl hN hi hl hf
end
noncomputable def xcIn(K:qA)(C:Addr):Bool:=match K.lookup C with
 | some ⟨.type "type",_,.cls cd,sl⟩=>(match cd.mro,sl.toList with
  | .ref C'::bm,[_,_,_,_,some (.builtin n),_]=>C'==C&&!cd.hasDel&&cd.hasDict&&n=="ValueError.__new__"&&bm.contains (.type "ValueError")&&bm.contains (.type "BaseException")&&!bm.contains (.type "AttributeError")&&!bm.contains (.type "NameError")
  | _,_=>false)
 | _=>false
theorem zpd{K:qA}{h:Heap}(X:K.In h)(q:xcIn K C=true):∃nm qn N bs bm sn sub ab col dd k0 k1 k2 k3 k5,
  h.get? C=some (excClassObj nm qn C N bs bm true sn sub ab col dd k0 k1 k2 k3 k5 "ValueError.__new__")/\(Value.ref C::bm).contains (.type "ValueError")=true/\(Value.ref C::bm).contains (.type "BaseException")=true/\(Value.ref C::bm).contains (.type "AttributeError")=false/\(Value.ref C::bm).contains (.type "NameError")=false:=by
 unfold xcIn at q
 split at q
 ·rename_i dd cd sl ho
  split at q
  ·rename_i C' bm k0 k1 k2 k3 n k5 hm hs
   simp only[qW,beq_iff_eq,Bool.not_eq_true']at q
   obtain⟨⟨⟨⟨⟨⟨⟨rfl,hdel⟩,hdc⟩,rfl⟩,hv⟩,hb⟩,ha⟩,hn⟩:=q
   obtain⟨nm,bs,mro,ns,qn,hd,sn,sub,ab,col,del⟩:=cd
   dsimp only at hm hdel hdc
   subst hm hdel hdc
   have hsl:sl=#[k0,k1,k2,k3,some (.builtin "ValueError.__new__"),k5]:=by
    obtain⟨l⟩:=sl
    simp only at hs
    rw[hs]
   subst hsl
   refine⟨nm,qn,ns,bs,bm,sn,sub,ab,col,dd,k0,k1,k2,k3,k5,X _ _ ho,?_,?_,?_,?_⟩
   ·rw[qU,hv,q0]
   ·rw[qU,hb,q0]
   ·rw[qU,ha];rfl
   ·rw[qU,hn];rfl
  ·cases q
 ·cases q
end L2
namespace PySem
open Sem (wp)
section
variable{prog:Program}{w:World}{A:Around}{E:Value->Shared->Prop}{h:Heap}{g:Array GenState}{d:Drawn}{t:Nat}{os:OsState}
variable{nm q:Str}{C N:Addr}{bs bm:List Value}{sn:List Str}{sub:List Value}{ab:Bool}{col:Option Bool}{dd:Option Addr}{k0 k1 k2 k3 k5:Option Value}
theorem zgz{Q:Unit->Shared->Prop}(hC:h.get? C=some (excClassObj nm q C N bs bm true sn sub ab col dd k0 k1 k2 k3 k5 "ValueError.__new__"))(hv:(Value.ref C::bm).contains (.type "ValueError")=true)
  (hq:Q () ⟨h,g,d,t,os⟩):wpAny M A (checkBuiltinCall "ValueError.__new__" ⟨.ref C::rest,[]⟩) Q E ⟨h,g,d,t,os⟩:=by
 have F:=qAN
 have f0:=F.noStar
 simp only[checkBuiltinCall,F.newKind,F.newSplit,F.newRow]
 repeat (first|refine qF hC ?_|(refine qp hC ?_;rw[hv])|refine wpAny_staticBase_exc hC ?_|refine wpAny_madeBy_exc hC ?_|simp only[bne_self_eq_false,qAR,if_false]|wp_step)
 exact hq
theorem zix{rest:List Value}{R:Result->Shared->Prop}(hC:h.get? C=some (excClassObj nm q C N bs bm true sn sub ab col dd k0 k1 k2 k3 k5 "ValueError.__new__"))(hv:(Value.ref C::bm).contains (.type "ValueError")=true)(ha:(Value.ref C::bm).contains (.type "AttributeError")=false)(hn:(Value.ref C::bm).contains (.type "NameError")=false)
  (hq:R (.ok (.ret (.ref (h.objs.size+1)))) ⟨(h.push {cls:=.type "tuple",data:=.seq rest.toArray}).push {cls:=.ref C,data:=.fields #[.ref h.objs.size,.none,.none,.none,.bool false,.none]},g,d,t,os⟩) (hr:rest.length<=qH) :
  codeAny (model prog w) A (.builtin "ValueError.__new__" ⟨.ref C::rest,[]⟩) R ⟨h,g,d,t,os⟩:=by
 have F:=qAN
 have f0:=F.ends
 refine codeAny_builtinAt F.entry ?_
 unfold Builtin.«BaseException.__new__»
 refine wpAt_bind ?_
 show wpAt _ _ _ (stack >>=_) _ _ _
 refine wpAt_bind (wpAt_stack λp below=>wpAt_of_wpAny ?_)
 wp_walk
 refine wpAt_of_wpAny ?_
 rw[F.owner]
 repeat (first|with_reducible refine wpAny_madeHere_exc F.canon hC ?_|with_reducible refine qF hC ?_|(with_reducible refine qp hC ?_;first|rw[hv]|rw[ha]|rw[hn])|wp_step)
 show R _ _
 rw[qAY]
 exact hq
theorem zqj{rest:List Value}{oI:Obj}{Q:Value->Shared->Prop}(hC:h.get? C=some (excClassObj nm q C N bs bm true sn sub ab col dd k0 k1 k2 k3 k5 "ValueError.__new__"))(hv:(Value.ref C::bm).contains (.type "ValueError")=true)(ha:(Value.ref C::bm).contains (.type "AttributeError")=false)(hn:(Value.ref C::bm).contains (.type "NameError")=false)
  (LI:W.Looks (model prog w) h (typeLookup (.ref C) "__init__") (some (.ref fI)))(hfI:h.get? fI=some oI)(hfc:oI.cls=.type "function")(hr:rest.length<=qH)
  (hq:∀h' e,Heap.MadeExcOf h h' e (.ref C) rest->wpAny (model prog w) (A.under (.builtin "type.__call__" ⟨.ref C::rest,[]⟩)) (call (.ref fI) (.ref e::rest)) (λr s'=>r=.none/\Q (.ref e) s') E ⟨h',g,d,t,os⟩) :
  wpAny (model prog w) A (call (.ref C) rest) Q E ⟨h,g,d,t,os⟩:=by
 have F:=qAN
 have f1:=tc_lookup
 have f2:=tc_bind (.ref C)
 have hT:(⟨h,g,d,t,os⟩:Shared).TypeIs (.ref C) "type":=⟨_,hC,rfl⟩
 refine qA7 (codeAny_of_tree ?_)
 show wpAny _ _ (callAny (.ref C) _) _ _ _
 repeat (any_goals (first|assumption|with_reducible refine qF hC ?_|wp_step))
 refine⟨rfl,?_⟩
 refine codeAny_call_builtin_at (qAe _ (by decide +kernel)) entry_typeCall (wpAny_check_type_call_sub hC ?_)
 repeat (first|with_reducible refine qF hC ?_|with_reducible refine wpAny_madeBy_exc hC ?_|wp_step)
 refine codeAny_call_builtin_code (qAe _ F.quiet) (zgz hC hv ?_)
 refine zix hC hv ha hn ?_ hr
 show wpAny _ _ _ _ _ _
 have kp:∀b o,h.get? b=some o->((h.push {cls:=.type "tuple",data:=.seq rest.toArray}).push {cls:=.ref C,data:=.fields #[.ref h.objs.size,.none,.none,.none,.bool false,.none]}).get? b=some o:=λb o e=>qB _ (qB _ e)
 have hC1:=kp _ _ hC
 have he:((h.push {cls:=.type "tuple",data:=.seq rest.toArray}).push {cls:=.ref C,data:=.fields #[.ref h.objs.size,.none,.none,.none,.bool false,.none]}).get? (h.objs.size+1)=some {cls:=.ref C,data:=.fields #[.ref h.objs.size,.none,.none,.none,.bool false,.none]}:=by heap_get
 have hcC:(Value.ref C::bm).contains (.ref C)=true:=by simp
 unfold isInstance
 repeat (first|with_reducible refine qF he ?_|(refine qp hC1 ?_;rw[hcC])|wp_step)
 show wpAny _ _ (typeLookup (.ref C) _) _ _ _
 refine(LI.keeps kp).here ?_
 refine wpAny_holding (qS ?_)
 unfold bindSpecial
 refine qS (wpAny_typeOf (T:="function") ⟨_,kp _ _ hfI,hfc⟩ ?_)
 rw[if_pos (by decide)]
 refine ql (qS (qAr (hq _ (h.objs.size+1) ⟨kp,qAX (Nat.le_succ _),h.objs.size,he,qAX (qG _),?_⟩) (λr s' hh=>?_) λ_ _ x=>x))
 ·exact qB _ (Heap.get?_push_at rfl rfl)
 ·obtain⟨rfl,hQ⟩:=hh
  wp_walk
  exact hQ
end
open Builtin Builtin.ObjectAttr
noncomputable def vmro:List Value:=[.type "ValueError",.type "Exception",.type "BaseException",.type "object"]
noncomputable def zar:List Value->Bool
 | .ref _::r=>zar r
 | l=>l==vmro
theorem zcl(self:Value)(what:Str):∀{l:List Value},zar l=true->refuseLoop self what l=refuseLoop self what vmro
 | [],h=>by cases h
 | v::r,h=>by
  cases v with
  | ref a=>rw[refuseLoop_ref];exact zcl self what h
  | _=>rw[eq_of_beq (show(_==vmro)=true from h)]
theorem zaq(hT:vmro.contains T=true):∀{l:List Value},zar l=true->l.contains T=true
 | [],h=>by cases h
 | v::r,h=>by
  cases v with
  | ref a=>rw[qU,zaq hT (l:=r) h,q0]
  | _=>rw[eq_of_beq (show(_==vmro)=true from h)];exact hT
section
variable{prog:Program}{w:World}{A:Around}{E:Value->Shared->Prop}{h:Heap}{g:Array GenState}{d:Drawn}{t:Nat}{os:OsState}
variable{nm q:Str}{C N x:Addr}{bs bm:List Value}{sn:List Str}{sub:List Value}{ab:Bool}{col:Option Bool}{dd:Option Addr}{k0 k1 k2 k3 k5:Option Value}{newId:String}{name:Str}{v:Value}
theorem zer{o:Obj}{Q:Unit->Shared->Prop}(hr:zar bm=true)
  (hC:h.get? C=some (excClassObj nm q C N bs bm true sn sub ab col dd k0 k1 k2 k3 k5 newId))(hx:h.get? x=some o)(hc:o.cls=.ref C)(hq:Q () ⟨h,g,d,t,os⟩) :
  wpAny M A (checkBuiltinCall "object.__setattr__" ⟨[.ref x,nameV,v],[]⟩) Q E ⟨h,g,d,t,os⟩:=by
 have SF:=qAg
 have hcB:(Value.ref C::bm).contains (.type "object")=true:=by rw[qU,zaq (by decide) hr,q0]
 have ha:=SF.args (.ref x) nameV v
 simp only[checkBuiltinCall,SF.kind,SF.split]
 refine qS ?_
 ·unfold isInstance
  repeat (first|(with_reducible refine qF hx ?_;rw[hc])|(with_reducible refine qp hC ?_;rw[hcB])|wp_step)
  exact hq
theorem zes{Q:Fin->Shared->Prop}{o:Obj}(hr:zar bm=true)
  (hC:h.get? C=some (excClassObj nm q C N bs bm true sn sub ab col dd k0 k1 k2 k3 k5 newId))(hx:h.get? x=some o)(hc:o.cls=.ref C)(hnc:∀c,o.data≠.cls c)(hdn:o.dict=none)
  (LA:W.Looks (model prog w) h (typeLookup (.ref C) name) none)
  (hq:∀h' tk' dx,h.objs.size<=dx->h'.Ns1 dx (λy=>if y=name then some v else none)->h'.get? x=some {o with dict:=some dx}->
   (∀b o,b≠x->h.get? b=some o->h'.get? b=some o)->Q (.done (.ret .none)) ⟨h',g,d,tk',os⟩) :
  wpAny (model prog w) A (Builtin.«object.__setattr__» ⟨[.ref x,.str name tk,v],[]⟩) Q E ⟨h,g,d,t,os⟩:=by
 have SF:=qAg
 have hpass:refuseLoop (.ref x) "__setattr__" bm=pure ():=by rw[zcl _ _ hr];exact SF.passes (.ref x)
 unfold Builtin.«object.__setattr__»
 repeat (first|rw[refuse_eq]|(rw[refuseLoop_ref,hpass])|(with_reducible refine qF hx ?_;rw[hc])|with_reducible refine wpAny_mroOf_exc hC ?_|(with_reducible refine LA.here ?_)|wp_step)
 rw[hdn,if_neg (by simp[typeHasDict])]
 split
 ·rename_i hcd
  cases hcd
 split
 ·rename_i c hcd
  exact absurd hcd (hnc c)
 ·have hx₁:(h.push {cls:=.type "dict",data:=.dict #[]}).get? x=some o:=qB _ hx
  have hxs:x≠h.objs.size:=qj (qD hx)
  refine qS (wpAny_alloc' ?_)
  refine qS (wpAny_update' hx₁ ?_)
  refine ql ?_
  have hgd:((h.push {cls:=.type "dict",data:=.dict #[]}).update x λo=>{cls:=o.cls,dict:=some h.objs.size,data:=o.data,slots:=o.slots}).get? h.objs.size
    = some {cls:=.type "dict",data:=.dict #[]}:=
   (qA9 _ _ _ _ hxs.symm).trans (Heap.get?_push_at rfl rfl)
  have hnd:((h.push {cls:=.type "dict",data:=.dict #[]}).update x λo=>{cls:=o.cls,dict:=some h.objs.size,data:=o.data,slots:=o.slots}).Ns h.objs.size (λ_=>none):=
   ⟨_,#[],_,hgd,rfl,λe he=>absurd he (by simp),λ_=>rfl⟩
  show wpAny _ _ (storeInDict h.objs.size (.str name tk) name v) _ _ _
  unfold storeInDict newKeyGuard
  refine qS (ql (qS (wpAny_nsSet1EFk (Heap.Ns1.of_empty hnd) λh' hn' hs hkeepD=>?_)))
  obtain⟨oD,esD,epD,hoD,hdD,hcD⟩:=hn'.count (Within.cons name v Within.nil)
  refine qS (wpAny_lookBehind hoD (by rw[hdD];exact pastItsLine_dict (qP hcD (by rw[qAG,qAo,qY];omega))) ?_)
  wp_walk
  refine hq h' _ h.objs.size (qG _) hn' ?_ (λb ob hbx hb=>?_)
  ·refine(hs.2 x hxs).trans (qA4 _ hx₁ ?_)
   have hfr:=(Heap.get?_some_iff.mp hx).2
   obtain⟨oc,od,odt,osl⟩:=o
   cases odt<;>first|rfl|exact hfr
  ·exact(hs.2 b (qj (qD hb))).trans ((qA9 _ _ _ _ hbx).trans (qB _ hb))
theorem zpe{Q:Unit->Shared->Prop}{o:Obj}(hr:zar bm=true)
  (hC:h.get? C=some (excClassObj nm q C N bs bm true sn sub ab col dd k0 k1 k2 k3 k5 newId))(hx:h.get? x=some o)(hc:o.cls=.ref C)(hnc:∀c,o.data≠.cls c)(hdn:o.dict=none)
  (LS:W.Looks (model prog w) h (typeLookup (.ref C) "__setattr__") (some (.builtin "object.__setattr__")))(LA:W.Looks (model prog w) h (typeLookup (.ref C) name) none)
  (hq:∀h' tk' dx,h.objs.size<=dx->h'.Ns1 dx (λy=>if y=name then some v else none)->h'.get? x=some {o with dict:=some dx}->
   (∀b o,b≠x->h.get? b=some o->h'.get? b=some o)->Q () ⟨h',g,d,tk',os⟩) :
  wpAny (model prog w) A (setAttr (.ref x) name v) Q E ⟨h,g,d,t,os⟩:=by
 have SF:=qAg
 have f3:=SF.slot.bind (.ref x)
 unfold setAttr callSpecial? specialOf
 repeat (any_goals (first|assumption|(with_reducible refine qF hx ?_;rw[hc])|(with_reducible refine LS.here ?_)|wp_step))
 refine qAI SF.slot.plain SF.entry (zer hr hC hx hc (zes hr hC hx hc hnc hdn LA λh' tk' dx a1 a2 a3 a4=>?_))
 repeat (any_goals (first|assumption|wp_step))
 exact hq h' tk' dx a1 a2 a3 a4
theorem zqk{Q:Value->Shared->Prop}{o:Obj}{mA:Str->Option Value}(hr:zar bm=true)
  (hC:h.get? C=some (excClassObj nm q C N bs bm true sn sub ab col dd k0 k1 k2 k3 k5 newId))(hx:h.get? x=some o)(hc:o.cls=.ref C)(hd:o.data=.fields vs)(hdd:o.dict=some dx)
  (hns:h.Ns dx mA)(hv:mA name=some v)
  (LG:W.Looks (model prog w) h (typeLookup (.ref C) "__getattribute__") (some (.builtin "BaseException.__getattribute__")))(LH:W.Looks (model prog w) h (typeLookup (.ref C) "__getattr__") none)(LA:W.Looks (model prog w) h (typeLookup (.ref C) name) none)
  (hh:W.handedIn v=true)(hq:∀tk',Q v ⟨h,g,d,tk',os⟩) :
  wpAny (model prog w) A (getAttr (.ref x) name expr) Q E ⟨h,g,d,t,os⟩:=by
 have hk:builtinKind "BaseException.__getattribute__"=some .slot:=by decide +kernel
 have hsplit:splitId "BaseException.__getattribute__"=some ("BaseException","__getattribute__"):=by decide +kernel
 have hcB:(Value.ref C::bm).contains (.type "BaseException")=true:=by rw[qU,zaq (by decide) hr,q0]
 have hx0:(expr&&onTheHeap (Value.builtin "BaseException.__getattribute__"))=false:=by cases expr<;>rfl
 have hx2:(Value.builtin "BaseException.__getattribute__"==Value.builtin "object.__getattribute__")=false:=by decide +kernel
 have hx1:(onTheHeap (Value.ref C)&&Value.builtin "BaseException.__getattribute__"==Value.builtin "object.__getattribute__")=false:=by rw[hx2];rfl
 have FB:=F.attr_ValueError
 have f3:=FB.ga.bind (.ref x)
 have ha:=F.args_bexc_ga (.ref x)
 unfold getAttr getAttrBy
 repeat (any_goals (first|assumption|(with_reducible refine qF hx ?_;rw[hc])|(with_reducible refine LG.here ?_)|(with_reducible refine LH.here ?_)|wp_step))
 refine qAI FB.ga.plain F.entry_bexc_ga ?_
 simp only[checkBuiltinCall,hk,hsplit]
 refine qS ?_
 unfold isInstance
 repeat (first|(with_reducible refine qF hx ?_;rw[hc])|(with_reducible refine qp hC ?_;rw[hcB])|wp_step)
 repeat (any_goals (first|assumption|(with_reducible refine qF hx ?_;rw[hc])|(with_reducible refine LA.here ?_)|wp_step))
 rw[hd]
 dsimp only
 unfold instanceDict
 repeat (any_goals (first|assumption|(with_reducible refine qF hx ?_;rw[hc])|(with_reducible refine qF hC ?_)|wp_step))
 rw[hdd]
 dsimp only
 refine ql ?_
 unfold inDict
 refine wpAny_nsGet hns ?_
 rw[hv]
 dsimp only
 repeat (any_goals (first|assumption|wp_step))
 show wpAny _ _ (handedOut v) _ _ _
 rw[W.handedOut_of hh]
 exact ql (hq _)
theorem zql{Q:Value->Shared->Prop}{o:Obj}{vs:Array Value}{rest:List Value}(hr:zar bm=true)(hl:rest.length<=qH)
  (hC:h.get? C=some (excClassObj nm q C N bs bm true sn sub ab col dd k0 k1 k2 k3 k5 newId))(hx:h.get? x=some o)(hc:o.cls=.ref C)(hd:o.data=.fields vs)(hs:0<vs.size)
  (hq:∀h' p,h'.get? x=some {o with data:=.fields (vs.setIfInBounds 0 (.ref p))}->(∀b o,b≠x->h.get? b=some o->h'.get? b=some o)->Q .none ⟨h',g,d,t,os⟩) :
  wpAny (model prog w) A (call (.builtin "ValueError.__init__") (.ref x::rest)) Q E ⟨h,g,d,t,os⟩:=by
 have F:=qAN
 have hcB:(Value.ref C::bm).contains (.type "ValueError")=true:=by rw[qU,zaq (by decide) hr,q0]
 have hshort:=F.noStar
 refine qA7 (qAI F.init.plain F.initEntry ?_)
 simp only[checkBuiltinCall,F.initKind,F.initSplit,F.initRow]
 repeat (first|(with_reducible refine qF hx ?_;rw[hc])|with_reducible refine qF hC ?_|(with_reducible refine qp hC ?_;rw[hcB])|wp_step)
 refine wpAny_onRaise ?_
 rw[show ∀(a b:String)(n:Nat),Bind.check ⟨.positional,"*","ValueError",.self,[⟨"args",.varPos,false⟩]⟩ a b n (List.map (λx=>x.fst) ({pos:=Value.ref x::rest}:Args).kw)=pure ()from
  λa b n=>check_star_args _ _ _ _ _ _]
 refine ql ?_
 unfold Builtin.«BaseException.__init__»
 repeat (any_goals (first|assumption|wp_step))
 rw[hd]
 dsimp only
 refine ql ?_
 rw[Array.getElem?_eq_getElem hs]
 dsimp only
 refine ql (qS ?_)
 have hx':(h.push {cls:=.type "tuple",data:=.seq rest.toArray}).get? x=some o:=qB _ hx
 refine wpAny_setField hx' hd hs ?_
 have fin:Q .none ⟨(h.push {cls:=.type "tuple",data:=.seq rest.toArray}).update x (Obj.mapFields (·.setIfInBounds 0 (Value.ref h.objs.size))),g,d,t,os⟩:=by
  refine hq _ h.objs.size ?_ λb ob hb e=>by rw[qA0 _ _ (qA2 hb)];exact qB _ e
  have hd₃:=Obj.data_mapFields hd (·.setIfInBounds 0 (Value.ref h.objs.size))
  rw[qA4 _ hx' (Obj.isFreed_of_fields hd₃)]
  unfold Obj.mapFields
  obtain⟨oc,od,odt,osl⟩:=o
  cases hd
  rfl
 cases vs[0]<;>(repeat (any_goals (first|exact fin|assumption|wp_step)))
end
end PySem
namespace L2
open PySem PySem.Spec PyProof.Rows
noncomputable def xeD(e C dx:Addr)(tv:Value)(h:Heap):Prop:=∃vs sl,h.get? e=some {cls:=.ref C,dict:=some dx,data:=.fields vs,slots:=sl}/\vs[1]?=some tv
theorem xeD.stay(h1 h2:Heap)(h:xeD e C dx tv h1)(k:∀o,h1.get? e=some o->h2.get? e=some o):xeD e C dx tv h2:=
 let⟨vs,sl,a,b⟩:=h;⟨vs,sl,k _ a,b⟩
theorem zpf(q:xeD e C dx tv h):zbr P w H h e (.ext (xeD e C dx tv)):=
 ⟨q,let⟨_,_,a,_⟩:=q;⟨_,a⟩,λh1 h2=>xeD.stay h1 h2⟩
theorem zbr.there{h:Heap}(x:zbr P w H h a o):∃ob,h.get? a=some ob:=by
 cases o with
 | lst xs=>obtain⟨_,_,_,_,e⟩:=x;exact⟨_,e⟩
 | tup xs=>obtain⟨_,_,_,ob,e,_⟩:=x;exact⟨_,e⟩
 | dK kvs=>obtain⟨_,_,_,_,o,_,_,e,_⟩:=x;exact⟨_,e⟩
 | dT kvs=>obtain⟨_,_,_,_,o,_,_,e,_⟩:=x;exact⟨_,e⟩
 | set S n=>obtain⟨o,_,_,_,e,_⟩:=x;exact⟨_,e⟩
 | ins C dx fs=>obtain⟨_,_,_,e,_⟩:=x;exact⟨_,e⟩
 | own y=>exact x
 | xd fs=>obtain⟨_,⟨_,_,_,e,_⟩,_⟩:=x;exact⟨_,e⟩
 | rng lo hi=>obtain⟨_,_,_,e⟩:=x;exact⟨_,e⟩
 | frz ob u=>obtain⟨e,_⟩:=x;exact⟨_,e⟩
 | tbl ps=>exact⟨_,x⟩
 | tabO q=>obtain⟨_,e,_⟩:=x;exact⟨_,e⟩
 | met f y=>exact⟨_,x⟩
 | ext φ=>exact x.2.1
theorem HOk.no{h:Heap}(x:HOk P w H h)(n:h.get? a=none):H a=none:=by
 cases q:H a with
 | none=>rfl
 | some u=>obtain⟨ob,z⟩:=(x a u q).there;rw[n]at z;cases z
noncomputable def xcR(K:qA)(C:Addr):Bool:=match K.lookup C with
 | some ⟨_,_,.cls cd,_⟩=>(match cd.mro with|_::bm=>zar bm|_=>false)
 | _=>false
theorem zce{K:qA}{h:Heap}(X:K.In h)(q:xcIn K C=true)(q2:xcR K C=true):∃nm qn N bs bm sn sub ab col dd k0 k1 k2 k3 k5,
  h.get? C=some (excClassObj nm qn C N bs bm true sn sub ab col dd k0 k1 k2 k3 k5 "ValueError.__new__")/\zar bm=true/\(Value.ref C::bm).contains (.type "AttributeError")=false/\(Value.ref C::bm).contains (.type "NameError")=false:=by
 obtain⟨nm,qn,N,bs,bm,sn,sub,ab,col,dd,k0,k1,k2,k3,k5,hC,_,_,ha,hn⟩:=zpd X q
 refine⟨nm,qn,N,bs,bm,sn,sub,ab,col,dd,k0,k1,k2,k3,k5,hC,?_,ha,hn⟩
 unfold xcR at q2
 split at q2
 ·rename_i a b cd sl ho
  have:=X _ _ ho
  rw[hC]at this
  have e:=qN this
  unfold excClassObj at e
  injection e with _ _ e _
  injection e with e
  subst e
  exact q2
 ·cases q2
structure XMk(K:qA)(C f:Addr):Prop where
 cls:xcIn K C=true
 tail:xcR K C=true
 init:PySem.W.findIn K (.ref C) "__init__"=some (some (.ref f))
 fn:PySem.W.isFn K (.ref f)=true
 kp:q9 K (.ref C)=true
 sa:PySem.W.findIn K (.ref C) "__setattr__"=some (some (.builtin "object.__setattr__"))
 at_:PySem.W.findIn K (.ref C) "at"=some none
 ga:PySem.W.findIn K (.ref C) "__getattribute__"=some (some (.builtin "BaseException.__getattribute__"))
 gh:PySem.W.findIn K (.ref C) "__getattr__"=some none
noncomputable def atV:V->Prop
 | .non=>True
 | .str x=>(PySem.reprText x).length<=1000
 | .int n=>0<=n/\n<100
 | _=>False
noncomputable def xe0(e C:Addr)(h:Heap):Prop:=∃vs sl,h.get? e=some {cls:=.ref C,dict:=none,data:=.fields vs,slots:=sl}/\vs[1]?=some .none
theorem ziy(q:xe0 e C h):zbr P w H h e (.ext (xe0 e C)):=
 ⟨q,(let⟨_,_,a,_⟩:=q;⟨_,a⟩),λh1 h2 ⟨vs,sl,a,b⟩ k=>⟨vs,sl,k _ a,b⟩⟩
section
variable{X:Cx}{pins:List (Addr×Obj)}{σ:St}{H:Hp}{s:Shared}{C f:Addr}{k:Nat}{fd:qk}
theorem Inv.new{h':Heap}(I:Inv X pins σ H s)(k:∀b u,s.heap.get? b=some u->h'.get? b=some u)(hn:s.heap.get? a=none)(new:zbr X.prog X.w (upd H a o) h' a o):Inv X pins σ (upd H a o) {s with heap:=h',toks:=t'}:=by
 have hH:=HOk.no I.hok hn
 have ne:∀b u,s.heap.get? b=some u->b≠a:=λb u q z=>by rw[z,hn]at q;cases q
 have neH:∀b u,H b=some u->b≠a:=λb u q z=>by rw[z,hH]at q;cases q
 refine I.un (h':=h') ⟨λb o q _ _ _=>k b o q,λb o q _ _ _=>⟨o.slots,k b o q⟩,λb o q n _=>by rw[zah (ne b o q)];exact n,λb o q _=>⟨o,k b o q⟩,λb xs q=>by rw[zah (neH b _ q)];exact q,λb o u q=>by rw[zah (neH b _ q)];exact q,λb ps q=>⟨#[],by rw[zah (neH b _ q),q];simp⟩⟩ λb u q=>?_
 by_cases hb:b=a
 ·subst hb;rw[zae]at q;cases q;exact new
 ·rw[zah hb]at q
  exact(I.hok b u q).stay (λc v _ q=>k c v q) (λc q=>by rw[zah (neH c _ q)];exact q) λc xs q=>by rw[zah (neH c _ q)];exact q
end
section
variable{X:Cx}{pins:List (Addr×Obj)}{σ:St}{H:Hp}{s:Shared}{C f:Addr}{k:Nat}{fd:qk}
theorem ziz:∀m<100,Nat.log2 m<1920:=by decide +kernel
theorem zdo:∀m<100,(Str.ofString (toString ((m:Nat):Int))).length<=10:=by decide +kernel
theorem zmz {E:Value->Shared->Prop} {Q:Value->Shared->Prop} (r:RelV v u) (av:atV v) (q:∀(m:Str) t,m.length<=1000->Q (.str m s.toks) {s with toks:=t}) :
  wpAny (model X.prog X.w) A (pyReprObj u) Q E s:=by
 cases v with
 | non=>
  cases r
  exact qAL (T:="NoneType") rfl F.slot_NoneType_repr F.entry_NoneType_repr (by unfold argsOk;kernel_rfl) gives_none_repr (q "None" _ (by decide)) (hx:=by decide)
 | str x=>
  obtain⟨t,rfl⟩:=r
  exact qAL (T:="str") rfl PyProof.Rows.slot_str_repr PyProof.Rows.entry_str_repr (PyProof.Rows.args_str_repr _) (gives_str_repr x t) (q _ _ av) (hx:=qP av (by rw[qY];omega))
 | int n=>
  obtain⟨t,rfl⟩:=r
  obtain⟨n0,n1⟩:=av
  obtain⟨m,rfl⟩:∃m:Nat,n=(m:Int):=⟨n.toNat,by omega⟩
  have hm:m<100:=by omega
  have hb:(m:Int).natAbs.log2<1920:=by
   rw[Int.natAbs_natCast]
   exact ziz m hm
  exact qAL (T:="int") rfl F.slot_int_repr F.entry_int_repr (F.args_int_repr_1 _) (gives_int_repr (m:Int) t hb) (q _ _ (qP (zdo m hm) (by decide))) (hx:=qP (zdo m hm) (by rw[qY];omega))
 | _=>exact av.elim
noncomputable def zlk(C:Addr)(t:TA):TE:=λσ H Q=>t σ H λvs H1=>∃e m,vs=[.ref e,m]/\H1 e=some (.ext (xe0 e C))/\Q .non H1
theorem zfq{K:qA}:PySem.W.findCls K (.type "ValueError") (.type "type") "__init__"=some (.val (.builtin "ValueError.__init__")):=by
 first|rfl|decide +kernel|kernel_rfl
theorem zbk:bootBuiltins "ValueError"=some (.type "ValueError"):=by decide +kernel
theorem zkm{p p2 pos:Pos}(M:XMk X.K C f)(hg:Gl X "ValueError")(hm:X.mg "ValueError"=none)(ha:PA X (e::es) t)
  (hst:starEach (e::es) X.env=(false,eval e X.env)::starEach es X.env:=by rfl)(hpl:(backTo pos (starEach es X.env)).any (·.1)=false:=by rfl)
  (ht:eval (.Call (.Attribute (.Name "ValueError" p) "__init__" p2) (e::es) [] pos) X.env=(do
   let ov <- eval (.Name "ValueError" p) X.env
   standAt p2.atName
   let(f,first) <- holding [ov] (getMethod ov "__init__" pl)
   callWith pos f first (backTo pos (starEach (e::es) X.env)) (backToKw pos (keywordEach [] X.env))):=by rfl) :
  PE X (.Call (.Attribute (.Name "ValueError" p) "__init__" p2) (e::es) [] pos) (zlk C t):=by
 intro pins s σ H Q I h
 refine PySem.W.methodCall_KW (pl:=pl) (zga I hg hm zbk ?_ (by decide) (by decide)) ht
 obtain⟨m,fr⟩:=I.fr
 refine PySem.W.method_type fr I.ok.mod.kin (by kernel_rfl) (by decide +kernel) zfq (by decide +kernel) ?_
 have hA:=ha pos pins _ σ H _ (I.tok (s.toks+1)) h
 rw[hst]at hA ⊢
 refine Calls.callWith_builtin (by show(false||(backTo pos (starEach es X.env)).any (·.1))=false;rw[hpl]<;>rfl) (Calls.evalArgs_plain ?_)
 refine thn hA λus s2 ⟨vs,H2,I2,r2,e',mv,ev,he,q⟩=>?_
 subst ev
 obtain⟨u1,u2,rfl,r1,r3⟩:=zjv r2
 cases r1
 obtain⟨nm,qn,N,bs,bm,sn,sub,ab,col,dd,k0,k1,k2,k3,k5,hC,hbm,_,_⟩:=zce I2.kIn M.cls M.tail
 obtain⟨⟨vs,sl,oe,h1⟩,_,_⟩:=I2.hok e' _ he
 obtain⟨hh,g,d,tk,os⟩:=s2
 refine zql hbm (by show 1<=qH;rw[qY];omega) hC oe rfl rfl (Nat.lt_of_succ_lt (Array.getElem?_eq_some_iff.mp h1).1) λh' p' a1 a2=>?_
 refine⟨.non,H2,?_,rfl,q⟩
 have hup:upd H2 e' (.ext (xe0 e' C))=H2:=by
  funext b
  by_cases hb:b=e'
  ·subst hb;rw[zae,he]
  ·rw[zah hb]
 have:=I2.write (x:=e') (e:=e') (o:=.ext (xe0 e' C)) (h':=h') (t':=tk) (by rw[he];exact True.intro) (.inl rfl) (λb u hb z=>a2 b u hb z) ⟨_,a1⟩ (ziy ⟨_,_,a1,by rw[Array.getElem?_setIfInBounds_ne (by decide)];exact h1⟩)
 rw[hup]at this
 exact this
end
section
variable{X:Cx}{pins:List (Addr×Obj)}{σ:St}{H:Hp}{s:Shared}{C f:Addr}{k:Nat}{fd:qk}
noncomputable def tSat(C:Addr)(ta tv:TE):TS:=λD σ H=>tv σ H λv H1=>ta σ H1 λx H2=>∃e,x=.ref e/\H2 e=some (.ext (xe0 e C))/\∀dx,H2 dx=none->dx≠e->D.nx σ (upd (upd H2 dx (.xd [("at",v)])) e (.ext (xeD e C dx .none)))
theorem zpg{pos' pos:Pos}(M:XMk X.K C f)(ha:PE X o ta)(hv:PE X value tv)(hs:swapsWith value (some (.Attribute o "at" pos')) pos.line X.env=pure false:=by rfl):PS X (.Assign [.Attribute o "at" pos'] value pos) (tSat C ta tv):=by
 intro pins s σ H D I h
 refine plainObj_wpAny_Assign_Attribute (thn (hv pins s σ H _ I h) λu s1 ⟨y,H1,I1,ry,q⟩=>thn (ha pins s1 σ H1 _ I1 q) λov s2 ⟨x,H2,I2,rx,e,ex,he,q2⟩=>?_) hs
 subst ex
 obtain rfl:ov=Value.ref e:=rx
 obtain⟨nm,qn,N,bs,bm,sn,sub,ab,col,dd,k0,k1,k2,k3,k5,hC,hbm,_,_⟩:=zce I2.kIn M.cls M.tail
 obtain⟨⟨vs,sl,oe,h1⟩,_,_⟩:=I2.hok e _ he
 obtain⟨hh,g,d,tk,os⟩:=s2
 refine zpe hbm hC oe rfl (λc z=>by cases z) rfl (qZ I2.kIn M.sa) (qZ I2.kIn M.at_) λh' tk' dx a1 a2 a3 a4=>?_
 have hdx:H2 dx=none:=I2.hok.fresh a1
 have ne:dx≠e:=λz=>by rw[z,he]at hdx;cases hdx
 refine⟨σ,upd (upd H2 dx (.xd [("at",y)])) e (.ext (xeD e C dx .none)),?_,q2 dx hdx ne⟩
 have n2:∀b,b≠e->b≠dx->upd (upd H2 dx (.xd [("at",y)])) e (.ext (xeD e C dx .none)) b=H2 b:=λb p q=>by rw[zah p,zah q]
 have nb:∀b o,H2 b=some o->(∀φ,o≠.ext φ)->b≠e/\b≠dx:=λb o z n=>⟨λy=>(by rw[y,he]at z;cases z;exact n _ rfl),λy=>(by rw[y,hdx]at z;cases z)⟩
 have st:∀b o,H2 b=some o->(∀φ,o≠.ext φ)->upd (upd H2 dx (.xd [("at",y)])) e (.ext (xeD e C dx .none)) b=some o:=λb o z n=>by rw[n2 b (nb b o z n).1 (nb b o z n).2];exact z
 have lt:∀b u,hh.get? b=some u->b≠dx:=λb u z y=>by rw[y]at z;exact absurd (qD z) (Nat.not_lt.mpr a1)
 refine Inv.un (s:=⟨hh,g,d,tk,os⟩) I2 (h':=h') ⟨λb o z n _ _=>a4 b o (λy=>by rw[y,he]at n;cases n) z,λb o z n _ _=>⟨o.slots,a4 b o (λy=>by rw[y,he]at n;cases n) z⟩,λb o z n _=>?_,λb o z _=>?_,λb xs z=>st b _ z (λφ y=>by cases y),λb o u z=>st b _ z (λφ y=>by cases y),λb ps z=>⟨#[],by rw[st b _ z (λφ y=>by cases y)];simp⟩⟩ λb o z=>?_
 ·rw[n2 b (λy=>by rw[y,he]at n;cases n) (lt b o z)];exact n
 ·by_cases hb:b=e
  ·exact⟨_,by rw[hb];exact a3⟩
  ·exact⟨o,a4 b o hb z⟩
 ·by_cases hb:b=e
  ·subst hb
   rw[zae]at z
   cases z
   exact zpf ⟨vs,sl,a3,h1⟩
  ·by_cases hd:b=dx
   ·subst hd
    rw[zah hb,zae]at z
    cases z
    refine⟨_,a2,λn=>?_⟩
    by_cases hn:n="at"
    ·subst hn
     exact ry
    ·have:List.lookup n [((("at":Str)),y)]=none:=by
      rw[qq]
      have:(n==("at":Str))=false:=by rw[beq_eq_false_iff_ne];exact hn
      rw[this]
      rfl
     rw[this]
     show RelO none (if n=("at":Str)then _ else _)
     rw[if_neg hn]
     trivial
   ·rw[n2 b hb hd]at z
    refine(I2.hok b o z).stay (λc u hc y=>a4 c u ?_ y) (λc y=>st c _ y (λφ x=>by cases x)) (λc xs y=>st c _ y (λφ x=>by cases x)) (λc o' y=>st c _ y (λφ x=>by cases x))
    rcases hc with rfl|hc
    ·exact hb
    ·exact λx=>by rw[x,he]at hc;cases hc
end
noncomputable def zkn(c:Str)(p1 p2 p3 p4 p5 p6 p7 p8 p9 p10 p11 p12 p13:Pos):List Stmt:=
 [.Expr (.Call (.Attribute (.Name "ValueError" p1) "__init__" p2) [.Name "self" p3,.JoinedStr [.Constant (.str c) 0 p4,.FormattedValue (.Name "at" p5) 114 none p6] p7] [] p8) p9,
  .Assign [.Attribute (.Name "self" p10) "at" p11] (.Name "at" p12) p13]
noncomputable def zko(c:Str)(p1 p2 p3 p4 p5 p6 p7 p8:Pos):Prop:=∀env:Env,∃pl:Sem Bool,eval (.Call (.Attribute (.Name "ValueError" p1) "__init__" p2) [.Name "self" p3,.JoinedStr [.Constant (.str c) 0 p4,.FormattedValue (.Name "at" p5) 114 none p6] p7] [] p8) env=(do
   let ov <- eval (.Name "ValueError" p1) env
   standAt p2.atName
   let(f,first) <- holding [ov] (getMethod ov "__init__" pl)
   callWith p8 f first (backTo p8 (starEach [.Name "self" p3,.JoinedStr [.Constant (.str c) 0 p4,.FormattedValue (.Name "at" p5) 114 none p6] p7] env)) (backToKw p8 (keywordEach [] env)))
end L2
namespace PySem
open Sem (wp)
open Builtin Builtin.ObjectAttr
section
variable{prog:Program}{w:World}{A:Around}{E:Value->Shared->Prop}{h:Heap}{g:Array GenState}{d:Drawn}{t:Nat}{os:OsState}
variable{nm q:Str}{C N x:Addr}{bs bm:List Value}{sn:List Str}{sub:List Value}{ab:Bool}{col:Option Bool}{dd:Option Addr}{k0 k1 k2 k3 k5:Option Value}{newId:String}{o:Obj}
theorem zha {R:Result->Shared->Prop} (hr:zar bm=true) (hC:h.get? C=some (excClassObj nm q C N bs bm true sn sub ab col dd k0 k1 k2 k3 k5 newId)) (hx:h.get? x=some o) (hc:o.cls=.ref C) (hq:R (.ok (.ret (.ref C))) ⟨h,g,d,t,os⟩) :
  codeAny (model prog w) A (.call (.builtin "getset_descriptor.__get__") ⟨[.builtin "object.__class__",.ref x,.ref C],[]⟩) R ⟨h,g,d,t,os⟩:=by
 have hT5:(⟨h,g,d,t,os⟩:Shared).TypeIs (.builtin "object.__class__") "getset_descriptor":=qAZ
 have hcB:(Value.ref C::bm).contains (.type (".".intercalate ("object.__class__".cutAt '.').dropLast))=true:=by
  rw[F.owner_object_class,qU,zaq (by decide) hr];rfl
 refine qAI qA5.plain F.entry_gs_get (qA5.check _ _ _ _ _ _ _ _ hT5 (F.args_gs_get _ _ _) ?_)
 repeat (any_goals (first|assumption|(with_reducible refine qF hx ?_;rw[hc])|(with_reducible refine qp hC ?_;rw[hcB])|wp_step))
 refine⟨qAe _ (by decide +kernel),codeAny_builtin F.entry_object_class ?_⟩
 repeat (any_goals (first|assumption|(with_reducible refine qF hx ?_;rw[hc])|wp_step))
theorem zph{Q:Option Value->Shared->Prop}(hr:zar bm=true)(hC:h.get? C=some (excClassObj nm q C N bs bm true sn sub ab col dd k0 k1 k2 k3 k5 newId))(hx:h.get? x=some o)(hc:o.cls=.ref C)
  (LG:W.Looks (model prog w) h (typeLookup (.ref C) "__getattribute__") (some (.builtin "BaseException.__getattribute__")))(LA:W.Looks (model prog w) h (typeLookup (.ref C) "__class__") (some (.builtin "object.__class__")))
  (LH:W.Looks (model prog w) h (typeLookup (.ref C) "__getattr__") none) (hq:Q (some (.ref C)) ⟨h,g,d,t+1,os⟩):wpAny (model prog w) A (getAttr? (.ref x) "__class__") Q E ⟨h,g,d,t,os⟩:=by
 have hk:builtinKind "BaseException.__getattribute__"=some .slot:=by decide +kernel
 have hsplit:splitId "BaseException.__getattribute__"=some ("BaseException","__getattribute__"):=by decide +kernel
 have hcB:(Value.ref C::bm).contains (.type "BaseException")=true:=by rw[qU,zaq (by decide) hr,q0]
 have hx2:(Value.builtin "BaseException.__getattribute__"==Value.builtin "object.__getattribute__")=false:=by decide +kernel
 have hx1:(onTheHeap (Value.ref C)&&Value.builtin "BaseException.__getattribute__"==Value.builtin "object.__getattribute__")=false:=by rw[hx2];rfl
 have FB:=F.attr_ValueError
 have f3:=FB.ga.bind (.ref x)
 have hT5:(⟨h,g,d,t+1,os⟩:Shared).TypeIs (.builtin "object.__class__") "getset_descriptor":=qAZ
 have f5:=qAZ
 have f6:=qA5.lookup
 have f7:=F.slot_gs_set.lookup
 unfold getAttr? getAttrBy? getAttrBy
 repeat (any_goals (first|assumption|(with_reducible refine qF hx ?_;rw[hc])|(with_reducible refine LG.here ?_)|(with_reducible refine LH.here ?_)|wp_step))
 refine qAI FB.ga.plain F.entry_bexc_ga ?_
 simp only[checkBuiltinCall,hk,hsplit]
 refine qS ?_
 unfold isInstance
 repeat (first|(with_reducible refine qF hx ?_;rw[hc])|(with_reducible refine qp hC ?_;rw[hcB])|wp_step)
 repeat (any_goals (first|assumption|(with_reducible refine qF hx ?_;rw[hc])|(with_reducible refine LA.here ?_)|wp_step))
 refine zha hr hC hx hc ?_
 repeat (any_goals (first|assumption|wp_step))
end
end PySem
namespace L2
open PySem PySem.Spec PyProof.Rows
section
variable{X:Cx}{C f:Addr}
theorem zea{K:qA}{e C dx f:Addr}(M:XMk K C f)(ha:PySem.W.findIn K (.ref C) "__class__"=some (some (.builtin "object.__class__"))):PySem.W.KitX K (.ref e) (.ref C) (λh=>∃tv,xeD e C dx tv h) where
 ty:=λ_ _ _ ⟨_,_,_,a,_⟩=>(PySem.W.Looks.ld a).andThen .now
 it:=λ_ _ X _=>by
  obtain⟨nm,qn,N,bs,bm,sn,sub,ab,col,dd,k0,k1,k2,k3,k5,hC,_⟩:=zce X M.cls M.tail
  intro A' Q' E' s' k q
  unfold isType loadHead
  exact qS (wpAny_loadPart (k _ _ hC) (ql q))
 ne:=λh tp dd its n sl X htp=>by
  obtain⟨nm,qn,N,bs,bm,sn,sub,ab,col,dd,k0,k1,k2,k3,k5,hC,_⟩:=zce X M.cls M.tail
  refine Bool.eq_false_iff.mpr λq=>?_
  have e:C=tp:=Value.ref.inj (beq_iff_eq.mp q)
  subst e
  have z:=congrArg Obj.cls (qN (hC.symm.trans htp))
  unfold excClassObj at z
  injection z with z
  exact absurd z (by decide)
 ca:=λ{prog w A E Q s} X ⟨tv,vs,sl,a,_⟩ k=>by
  obtain⟨nm,qn,N,bs,bm,sn,sub,ab,col,dd,k0,k1,k2,k3,k5,hC,hbm,_⟩:=zce X M.cls M.tail
  obtain⟨h,g,d,t,os⟩:=s
  exact zph hbm hC a rfl (qZ X M.ga) (qZ X ha) (qZ X M.gh) k
noncomputable def rIsX(K:qA)(C:Addr):List V->Hp->VK->Prop:=λxs H Q=>∃e dx tv b,H e=some (.ext (xeD e C dx tv))/\Q (.bl b) H/\
 ((∃c,xs=[.ref e,.ref c]/\PySem.W.kitOne K (.ref C) (.ref c)=some b)\/(∃n,xs=[.ref e,.ty n]/\PySem.W.kitOne K (.ref C) (.type n)=some b)\/∃p ys us,xs=[.ref e,.ref p]/\H p=some (.tup ys)/\(∀its,Vals ys its->its=us)/\PySem.W.kitAny K (.ref C) us=some b)
theorem zkp(M:XMk X.K C f)(ha:PySem.W.findIn X.K (.ref C) "__class__"=some (some (.builtin "object.__class__"))):CallR X (.builtin "isinstance") (rIsX X.K C):=by
 intro pins s σ H xs us Q I r h
 obtain⟨e,dx,tv,b,he,q,h⟩:=h
 have hx:=(I.hok e _ he).1
 rcases h with⟨c,rfl,kk⟩|⟨n,rfl,kk⟩|⟨p,ys,us',rfl,hp,hv,kk⟩
 ·obtain⟨u1,u2,rfl,r1,r2⟩:=zjv r
  cases r1
  cases r2
  exact PySem.W.kia_one (zea (dx:=dx) M ha) I.kIn ⟨tv,hx⟩ kk (λz=>nomatch z) λtk=>⟨.bl b,H,I.tok _,rfl,q⟩
 ·obtain⟨u1,u2,rfl,r1,r2⟩:=zjv r
  cases r1
  cases r2
  exact PySem.W.kia_one (zea (dx:=dx) M ha) I.kIn ⟨tv,hx⟩ kk (λz=>nomatch z) λtk=>⟨.bl b,H,I.tok _,rfl,q⟩
 ·obtain⟨u1,u2,rfl,r1,r2⟩:=zjv r
  cases r1
  cases r2
  obtain⟨_,its,vi,op,hop,ho1,n,ho2⟩:=I.hok p _ hp
  cases hv its vi
  obtain⟨oc,od,odt,osl⟩:=op
  cases ho1
  cases ho2
  exact PySem.W.kia_tup (zea (dx:=dx) M ha) I.kIn ⟨tv,hx⟩ hop kk (λz=>nomatch z) λtk=>⟨.bl b,H,I.tok _,rfl,q⟩
end
theorem zna{X:Cx}(hg:Gl X x)(hm:X.mg x=some (.ref C))(hd:(x==("__debug__":Str))=false:=by decide):PE X (.Name x pos) (tC (.ref C)):=
 λ_ _ _ H _ I h=>zfb I hg hm ⟨.ref C,H,I,rfl,h⟩ hd
noncomputable def xcB(C:Addr)(cd:ClassData)(sl:Array (Option Value)):Bool:=match cd.mro,sl.toList with
 | .ref C'::bm,[_,_,_,_,some (.builtin n),_]=>C'==C&&!cd.hasDel&&cd.hasDict&&n=="ValueError.__new__"&&bm.contains (.type "ValueError")&&bm.contains (.type "BaseException")&&!bm.contains (.type "AttributeError")&&!bm.contains (.type "NameError")&&zar bm
 | _,_=>false
theorem zpi{K:qA}(l:K.lookup C=some ⟨.type "type",dd,.cls cd,sl⟩)(h:xcB C cd sl=true):xcIn K C=true/\xcR K C=true:=by
 unfold xcB at h
 unfold xcIn xcR
 rw[l]
 split at h
 ·rename_i C' bm a0 a1 a2 a3 n a5 hm hs
  obtain⟨nm,bs,mro,ns,qn,hd,sn,sub,ab,col,del⟩:=cd
  obtain⟨sl⟩:=sl
  dsimp only at hm hs
  subst hm
  have hs:sl=[a0,a1,a2,a3,some (.builtin n),a5]:=hs
  subst hs
  rw[qW]at h
  exact h
 ·cases h
section
variable{K:qA}{C c:Addr}
theorem zja(h1:PySem.W.isClsIn K c=true)(h2:PySem.W.typeIn K (.ref c)=some (.type "type"))(h3:PySem.W.subIn K (.ref C) (.ref c)=some b):PySem.W.kitCls K (.ref C) (.ref c)=some b:=by
 unfold PySem.W.kitCls
 dsimp only
 have h1:(PySem.W.clsIn K c).isSome=true:=h1
 rw[if_pos (by rw[h1,h2];rfl)]
 exact h3
theorem zll(h1:PySem.W.isClsIn K c=true)(h2:PySem.W.typeIn K (.ref c)=some (.type "type"))(h3:PySem.W.subIn K (.ref C) (.ref c)=some true):PySem.W.kitOne K (.ref C) (.ref c)=some true:=by
 unfold PySem.W.kitOne
 split
 ·rfl
 ·exact zja h1 h2 h3
theorem zpj(h0:PySem.W.subIn K (.ref C) (.ref C)=some true)(h1:PySem.W.isClsIn K c=true)(h2:PySem.W.typeIn K (.ref c)=some (.type "type"))(h3:PySem.W.subIn K (.ref C) (.ref c)=some false):PySem.W.kitOne K (.ref C) (.ref c)=some false:=by
 unfold PySem.W.kitOne
 split
 ·rename_i e
  have e:C=c:=Value.ref.inj (beq_iff_eq.mp e)
  rw[<- e,h0]at h3
  cases h3
 ·exact zja h1 h2 h3
theorem zax(h3:PySem.W.subIn K (.ref C) (.type "ValueError")=some true):PySem.W.kitOne K (.ref C) (.type "ValueError")=some true:=by
 unfold PySem.W.kitOne
 rw[if_neg (by intro e;cases beq_iff_eq.mp e)]
 unfold PySem.W.kitCls
 dsimp only
 rw[if_pos (show PySem.W.kitMeta "ValueError"=true by decide +kernel)]
 exact h3
end
noncomputable def atH(K:qA)(H:Hp)(v:V):Prop:=atV v\/(∃n:Int,v=.int n/\n.natAbs.log2<1920/\(Str.ofString (toString n)).length<=1000)\/
 ∃a d,v=.ref a/\Rep K H d v/\d.showable=true/\d.hasDict=false/\d.depth<=40/\d.shown.length<=1000
theorem atH.same{K:qA}{H H':Hp}(s:Same H H'){v:V}(h:atH K H v):atH K H' v:=
 h.imp id λh=>h.imp id λ⟨a,d,h1,h2,h3⟩=>⟨a,d,h1,Rep.same s d h2,h3⟩
section
variable{X:Cx}{pins:List (Addr×Obj)}{σ:St}{H:Hp}{s:Shared}{C f:Addr}{k:Nat}{fd:qk}
theorem zkq{v:V}{u:Value}{A:Around}{m:Nat}{E:Value->Shared->Prop}{Q:Value->Shared->Prop}(I:Inv X pins σ H s)(hr:Room m A)(r:RelV v u)(av:atH X.K H v)
  (q:∀(m:Str) tk h' t,m.length<=1000->(∀b o,s.heap.get? b=some o->h'.get? b=some o)->Q (.str m tk) {s with heap:=h',toks:=t}) :
  wpAny (model X.prog X.w) A (pyReprObj u) Q E s:=by
 rcases av with av|⟨n,rfl,hb,hl⟩|⟨a,d,rfl,rp,h1,h2,h3,h4⟩
 ·exact zmz (X:=X) r av λm t hm=>q m _ s.heap t hm λ_ _ e=>e
 ·obtain⟨t,rfl⟩:=r
  exact qAL (T:="int") rfl F.slot_int_repr F.entry_int_repr (F.args_int_repr_1 _) (gives_int_repr n t hb) (q _ _ s.heap _ hl λ_ _ e=>e) (hx:=qP hl (by rw[qY];omega))
 ·cases r
  obtain⟨as,rd⟩:=zbo I d rp rfl
  have hu:=hr.units
  exact pyReprObj_of_reads rd h1 (PyData.noDict_hsm h2) hr.gd (by omega) (λ_ _ e=>e) (λh' u tk hk=>q _ _ h' tk h4 hk) (qP h4 (by rw[qY];omega))
noncomputable def zpk(K:qA)(te:TE):TE:=λσ H Q=>te σ H λv H1=>atH K H1 v/\∀m,Q (.str m) H1
theorem znb{c:Str}{m:Nat}{j p a p2 pos te}(hr:Room m X.A)(ha:PE X a te)(hc:c.length<=1000):PE X (.JoinedStr [.Constant (.str c) j p,.FormattedValue a 114 none p2] pos) (zpk X.K te):=by
 intro pins s σ H Q I h
 have la:∀x y:Str,(x++y).length=x.length+y.length:=λx y=>by show(x.cps++y.cps).size=x.cps.size+y.cps.size;exact Array.size_append
 have l0:(Str.empty).length=0:=rfl
 have big:(3000:Nat)<=qH:=by rw[qY];omega
 refine wpAny_JoinedStr ?_
 show wpAny _ _ (eval (.Constant (.str c) j p) X.env) (λv s₁=>∃y t,v=.str y t/\(Str.empty++y).length<=qH/\wpAny _ _ (eval (.FormattedValue a 114 none p2) X.env) (λv s₂=>∃z t,v=.str z t/\((Str.empty++y)++z).length<=qH/\(((Str.empty++y)++z).length<=qH/\EP X pins σ Q (.str ((Str.empty++y)++z) s₂.toks) {s₂ with toks:=s₂.toks+1})) _ s₁) _ _
 refine qBA ⟨c,_,rfl,by rw[la,l0];omega,?_⟩
 refine wpAny_FormattedValue_repr (thn (ha pins _ σ H _ (I.tok _) h) λu s1 ⟨v,H1,I1,r,av,q⟩=>zkq (X:=X) I1 hr r av λm tk h' t hm hk=>?_)
 have lz:((Str.empty++c)++m).length<=qH:=by rw[la,la,l0];omega
 have fin:∀tk,EP X pins σ Q (.str ((Str.empty++c)++m) tk) {s1 with heap:=h',toks:=tk+1}:=λtk=>⟨.str _,H1,I1.kept hk,⟨_,rfl⟩,q _⟩
 exact wpAny_formatField_str ⟨m,_,rfl,lz,lz,fin _⟩ ⟨m,_,rfl,lz,lz,fin _⟩ (by omega)
noncomputable def spIH(K:qA)(C:Addr):Sp:=λvs H Q _=>∃e v,vs=[.ref e,v]/\H e=some (.ext (xe0 e C))/\atH K H v/\∀dx,H dx=none->dx≠e->Q .non (upd (upd H dx (.xd [("at",v)])) e (.ext (xeD e C dx .none)))
theorem zai{P:Program}{w:World}{K:qA}{mg:Str->Option Value}{base:Heap}{C f:Addr}{qual:Str}{st:Stmt}{fd:qk}{c:Str}{p1 p2 p3 p4 p5 p6 p7 p8 p9 p10 p11 p12 p13:Pos}(F:Fun K "__init__" qual st f fd)(M:XMk K C f)(hm:mg "ValueError"=none)
  (hb:zbe st=zkn c p1 p2 p3 p4 p5 p6 p7 p8 p9 p10 p11 p12 p13) (hsc:zad st={kind:=.function,names:=[("self",.local),("at",.local),("ValueError",.globalImplicit)],isGenerator:=false,isCoroutine:=false}) (hc:c.length<=1000) (ht:zko c p1 p2 p3 p4 p5 p6 p7 p8) :
  FnOk P w K mg base CX0 1 f fd ["self","at"] (spIH K C):=by
 have nd:(["self","at"]:List Str).Nodup:=by decide +kernel
 have S:FnScope ["self","at"] ["self","at"] (zad st):=by rw[hsc];exact⟨rfl,rfl,rfl,nd,rfl,by decide +kernel,by decide +kernel⟩
 refine F.ok S (λvs H Q E h=>by obtain⟨e,v,rfl,_⟩:=h;rfl) λcdv A outer s H vs Q E hr h=>?_
 obtain⟨e,v,rfl,he,av,q⟩:=h
 have g0:visB (cxOf CX0 P w K mg base ["self","at"] qual (zad st) f cdv A outer s H E).nox.env.scope "self"=true:=by show visB (zad st) _=_;rw[hsc];decide +kernel
 have g1:visB (cxOf CX0 P w K mg base ["self","at"] qual (zad st) f cdv A outer s H E).nox.env.scope "at"=true:=by show visB (zad st) _=_;rw[hsc];decide +kernel
 have g2:Gl (cxOf CX0 P w K mg base ["self","at"] qual (zad st) f cdv A outer s H E).nox "ValueError":=by show(zad st).names.lookup _=_;rw[hsc];decide +kernel
 have e0:∀{p:Pos},PE (cxOf CX0 P w K mg base ["self","at"] qual (zad st) f cdv A outer s H E).nox (.Name "self" p) (tVar 0):=λ{p}=>pv 0 rfl g0
 have e1:∀{p:Pos},PE (cxOf CX0 P w K mg base ["self","at"] qual (zad st) f cdv A outer s H E).nox (.Name "at" p) (tVar 1):=λ{p}=>pv 1 rfl g1
 refine⟨tSeq (znx (zlk C (tCons (tVar 0) (tCons (zpk K (tVar 1)) tNil)))) (tSat C (tVar 0) (tVar 1)),?_,?_⟩
 ·rw[hb]
  obtain⟨pl,ht⟩:=ht (cxOf CX0 P w K mg base ["self","at"] qual (zad st) f cdv A outer s H E).nox.env
  exact zgb (zlv (zkm (f:=f) (pl:=pl) M g2 hm (zdr e0 (zdr (znb (X:=(cxOf CX0 P w K mg base ["self","at"] qual (zad st) f cdv A outer s H E).nox) hr e1 hc) zhq)) rfl rfl ht)) (zhj (zpg M e0 e1))
 ·exact⟨_,rfl,v,rfl,av,λm=>⟨e,_,rfl,he,v,rfl,_,rfl,e,rfl,he,q⟩⟩
theorem zhb{v:V}{u:Value}(M:XMk X.K C f)(F:FnOk X.prog X.w X.K X.mg X.base CX0 k f fd ["self","at"] (spIH X.K C))(hr:Room (k+1) X.A)(hb:zcr X.K fd ["self","at"] [])(I:Inv X pins σ H s)(rv:RelV v u)(av:atH X.K H v)
  {Q:Value->Shared->Prop}(q:∀e dx H' s',Inv X pins σ H' s'->H e=none->H dx=none->H' e=some (.ext (xeD e C dx .none))->H' dx=some (.xd [("at",v)])->Same H H'->Q (.ref e) s') :
  wpAny (model X.prog X.w) X.A (call (.ref C) [u]) Q X.xe s:=by
 obtain⟨nm,qn,N,bs,bm,sn,sub,ab,col,dd,k0,k1,k2,k3,k5,hC,hbm,ha,hn⟩:=zce I.kIn M.cls M.tail
 obtain⟨hh,g,d,tk,os⟩:=s
 obtain⟨oI,hfI,hfc⟩:∃oI,hh.get? f=some oI/\oI.cls=.type "function":=by
  have z:(X.K.lookup f).map (·.cls)=some (.type "function"):=beq_iff_eq.mp M.fn
  cases y:X.K.lookup f with
  | none=>rw[y]at z;cases z
  | some o=>rw[y]at z;exact⟨o,I.kIn _ _ y,qN z⟩
 refine zqj (C:=C) hC (by rw[qU,zaq (by decide) hbm,q0]) ha hn (qZ I.kIn M.init) hfI hfc (by show 1<=qH;rw[qY];omega) λh' e hm=>?_
 obtain⟨t,he,htn,ht⟩:=hm.there
 have I2:=Inv.new (h':=h') (a:=e) (o:=.ext (xe0 e C)) (t':=tk) I hm.keeps hm.new (ziy ⟨_,_,he,rfl⟩)
 have hHe:H e=none:=HOk.no I.hok hm.new
 have sp:spIH X.K C [.ref e,v] (upd H e (.ext (xe0 e C))) (λr H2=>r=.non/\∃dx,H dx=none/\dx≠e/\H2=upd (upd (upd H e (.ext (xe0 e C))) dx (.xd [("at",v)])) e (.ext (xeD e C dx .none))) E0:=
  ⟨e,v,rfl,zae,av.same (Same.new hHe),λdx hd ne=>⟨rfl,dx,by rw[zah ne]at hd;exact hd,ne,rfl⟩⟩
 refine qA7 (qAc (F.run _ X.stack _ _ ⟨[.ref e,u],[]⟩ [.ref e,u] _ _ E0 (hr.make C [u] []) (I2.env0.make C [u] []) (by have:=hb ⟨h',g,d,tk,os⟩ [.ref e,u] I2.kIn rfl;rw[qAW]at this;exact this) (show Vals [V.ref e,v] [Value.ref e,u]from .cons rfl (.cons rv .nil)) sp) λr s' hq=>?_)
 cases r with
 | error x=>exact hq.elim
 | ok fl=>
  cases fl with
  | ret w=>
   obtain⟨v',H2,I3,rv',rfl,dx,hd,ne,rfl⟩:=I2.after hq
   refine⟨rv',q e dx _ s' I3 hHe hd zae (by rw[zah ne,zae]) λb o z=>?_⟩
   have n1:b≠e:=λy=>by rw[y,hHe]at z;cases z
   have n2:b≠dx:=λy=>by rw[y,hd]at z;cases z
   rw[zah n1,zah n2,zah n1]
   exact z
  | next=>exact False.elim hq
  | brk=>exact False.elim hq
  | cont=>exact False.elim hq
noncomputable def zhc(K:qA)(C:Addr)(te:TE):TE:=λσ H Q=>te σ H λv H1=>atH K H1 v/\∀e dx H',Same H1 H'->H1 e=none->H1 dx=none->H' e=some (.ext (xeD e C dx .none))->H' dx=some (.xd [("at",v)])->Q (.ref e) H'
theorem zpl{x:Str}{np cpos:Pos}{a:Expr}{te:TE}(M:XMk X.K C f)(F:FnOk X.prog X.w X.K X.mg X.base CX0 k f fd ["self","at"] (spIH X.K C))(hr:Room (k+1) X.A)(hb:zcr X.K fd ["self","at"] [])
  (hg:Gl X x)(hm:X.mg x=some (.ref C))(ha:PE X a te)(hdb:(x==("__debug__":Str))=false:=by decide)(he:starEach [a] X.env=[(false,eval a X.env)]:=by rfl) :
  PE X (.Call (.Name x np) [a] [] cpos) (zhc X.K C te):=by
 intro pins s σ H Q I h
 refine qAj (zfb I hg hm ?_ hdb)
 refine qA1 (h₀:=X.base) I.ok.mod.kin M.kp (thn (zdr ha zhq he cpos pins s σ H (λvs H1=>match vs with|[v]=>atH X.K H1 v/\∀e dx H',Same H1 H'->H1 e=none->H1 dx=none->H' e=some (.ext (xeD e C dx .none))->H' dx=some (.xd [("at",v)])->Q (.ref e) H'|_=>False) I h) λus s1 ⟨vs,H1,I1,r,q⟩=>⟨I1.kIn,?_⟩) he rfl
 match vs,q,r with
 | [v],q,r=>
  obtain⟨u,rfl,rv⟩:=zof r
  exact zhb M F hr hb I1 rv q.1 λe dx H' s' I' h1 h2 he0 hd sm=>⟨.ref e,H',I',rfl,q.2 e dx H' sm h1 h2 he0 hd⟩
 | [],q,_=>exact q.elim
 | _::_::_,q,_=>exact q.elim
end
section
variable{X:Cx}
theorem zaj(hg:Gl X x)(hm:X.mg x=some (.ref C))(hd:(x==("__debug__":Str))=false):Bx (PE X (.Name x pos) (tC (.ref C))):=⟨zna hg hm hd⟩
theorem zag{K:qA}{C f:Addr}(hK:X.K=K)(M:XMk K C f)(ha:PySem.W.findIn K (.ref C) "__class__"=some (some (.builtin "object.__class__"))):CallR X (.builtin "isinstance") (rIsX K C):=by
 subst hK;exact zkp M ha
end
open Classical in
section
variable{fx:Addr->Prop}{as:List Addr}{H0:Hp}{env:DEnv}{σ:St}{H H':Hp}{st:SyT}
end
section
variable{α β:Type}{F:α->β->Prop}
theorem paired_get:∀{xs:List α}{vs:List β},Paired F xs vs->∀{j:Nat}{x:α},xs[j]?=some x->∃v,vs[j]?=some v/\F x v
 | _,_,.nil,j,x,e=>by cases e
 | _,_,.cons r t,0,x,e=>by cases e;exact⟨_,rfl,r⟩
 | _,_,.cons r t,j+1,x,e=>paired_get t (j:=j) e
theorem zbz:∀{xs:List α}{vs:List β}{ys:List α}{ws:List β},Paired F xs vs->Paired F ys ws->Paired F (xs++ys) (vs++ws)
 | _,_,_,_,.nil,h=>h
 | _,_,_,_,.cons r t,h=>.cons r (zbz t h)
theorem zhd:∀{xs:List α}{vs:List β},Paired F xs vs->Paired F xs.reverse vs.reverse
 | _,_,.nil=>.nil
 | _,_,.cons r t=>by rw[List.reverse_cons,List.reverse_cons];exact zbz (zhd t) (.cons r .nil)
theorem zas:∀{xs:List α}{vs:List β},Paired F xs vs->xs.length=vs.length
 | _,_,.nil=>rfl
 | _,_,.cons r t=>congrArg (·+1) (zas t)
end
section
variable{X:Cx}{K:qA}{cs:List Addr}
structure XOne(K:qA)(C:Addr):Prop where
 ex:∃f,XMk K C f
 cl:PySem.W.findIn K (.ref C) "__class__"=some (some (.builtin "object.__class__"))
noncomputable def rIsS(K:qA)(cs:List Addr):List V->Hp->VK->Prop:=λxs H Q=>∃C∈cs,rIsX K C xs H Q
theorem zeb(hK:X.K=K)(M:∀C∈cs,XOne K C):CallR X (.builtin "isinstance") (rIsS K cs):=by
 rintro pins s σ H xs us Q I r ⟨C,hc,h⟩
 obtain⟨⟨f,m⟩,hcl⟩:=M C hc
 exact zag hK m hcl pins s σ H xs us Q I r h
noncomputable def znc(cs:List Addr)(te:TE):TE:=λσ H Q=>te σ H λx H1=>∃C∈cs,∃e dx tv v,x=.ref e/\H1 e=some (.ext (xeD e C dx tv))/\H1 dx=some (.xd [("at",v)])/\Q v H1
theorem zgl{o:Expr}{pos:Pos}{te:TE}(hK:X.K=K)(M:∀C∈cs,XOne K C)(ho:Bx (PE X o te))(hb:attributeBase o "at" X.env (eval o X.env)=eval o X.env):Bx (PE X (.Attribute o "at" pos) (znc cs te)):=by
 refine⟨?_⟩
 subst hK
 intro pins s σ H Q I h
 refine zlz hb (thn (ho.out pins s σ H _ I h) λu s1 ⟨x,H1,I1,rx,C,hC',e,dx,tv,v,ex,he,hd,q⟩=>?_)
 obtain⟨⟨f,M⟩,_⟩:=M C hC'
 subst ex
 obtain rfl:u=Value.ref e:=rx
 obtain⟨nm,qn,N,bs,bm,sn,sub,ab,col,dd,k0,k1,k2,k3,k5,hC,hbm,_,_⟩:=zce I1.kIn M.cls M.tail
 obtain⟨⟨vs,sl,oe,h1⟩,_,_⟩:=I1.hok e _ he
 obtain⟨mA,ns,rl⟩:=I1.hok dx _ hd
 have hv:∃w,mA "at"=some w/\RelV v w:=by
  have:=rl "at"
  rw[show List.lookup ("at":Str) [(("at":Str),v)]=some v from rfl]at this
  cases y:mA "at"with
  | none=>rw[y]at this;exact this.elim
  | some w=>rw[y]at this;exact⟨w,rfl,this⟩
 obtain⟨w,hw,rw'⟩:=hv
 obtain⟨hh,g,d,tk,os⟩:=s1
 refine zqk hbm hC oe rfl rfl rfl ns.ns hw (qZ I1.kIn M.ga) (qZ I1.kIn M.gh) (qZ I1.kIn M.at_) (zhp rw') λtk'=>⟨v,H1,I1.tok _,rw',q⟩
noncomputable def XEat(H:Hp)(v:V)(C:Addr)(x:V):Prop:=∃e dx,x=.ref e/\H e=some (.ext (xeD e C dx .none))/\H dx=some (.xd [("at",v)])
theorem XEat.same{H H':Hp}{v:V}{C:Addr}{x:V}(s:Same H H')(h:XEat H v C x):XEat H' v C x:=let⟨e,dx,h1,h2,h3⟩:=h;⟨e,dx,h1,s _ _ h2,s _ _ h3⟩
noncomputable def SNx(K:qA)(ta:TA)(cs:List Addr):Prop:=∀(σ:St)(H:Hp)(v:V),σ[1]?=some (some v)->atH K H v->∀Q:List V->Hp->Prop,(∀vs H',Same H H'->Paired (XEat H' v) cs vs->Q vs H')->ta σ H Q
theorem zjb:SNx K tNil []:=λσ H v _ _ Q q=>q [] H (Same.refl _) .nil
theorem zlm{C:Addr}{σ:St}{H:Hp}{v:V}(hv:σ[1]?=some (some v))(ha:atH K H v){Q:VK}(q:∀x H',Same H H'->XEat H' v C x->Q x H'):zhc K C (tVar 1) σ H Q:=
 ⟨v,hv,ha,λe dx H' s _ _ h1 h2=>q _ H' s ⟨e,dx,rfl,h1,h2⟩⟩
theorem zao{C:Addr}{ta:TA}(h:SNx K ta cs):SNx K (tCons (zhc K C (tVar 1)) ta) (C::cs):=λσ H v hv ha Q q=>
 zlm hv ha λx H1 s1 e1=>h σ H1 v hv (ha.same s1) _ λvs H2 s2 p=>q _ H2 (s1.trans s2) (.cons (e1.same s2) p)
theorem zln{G:Hp}:∀bs:List Bool,Rps G (bs.map .bool) (bs.map V.bl)
 | []=>zcx
 | _::bs=>zcs zbp (zln bs)
theorem zqm{H:Hp}{p:Addr}{bs:List Bool}(h:H p=some (.lst (bs.map V.bl))):Rp (Offs (λ_=>False) H) (.list (bs.map .bool)) (.ref p):=
 zbx (by rw[Offs.get (λz=>z)];exact h) (zln bs)
theorem zjc{H:Hp}{p q:Addr}{as bs:List Bool}(h1:H p=some (.lst (as.map V.bl)))(h2:H q=some (.lst (bs.map V.bl)))(hl:as.length+bs.length<=100){Q:VK}
  (k:∀r H',Same H H'->H' r=some (.lst ((as++bs).map V.bl))->Q (.ref r) H'):zcw K (.ref p) (.ref q) H Q:=
 .inl ⟨p,q,_,_,rfl,rfl,h1,h2,by rw[qT,qT,qY];omega,λr hr=>k r _ (Same.new hr) (by rw[zae,List.map_append])⟩
noncomputable def SBx(K:qA)(C:Addr)(ta:TA)(bs:List Bool):Prop:=∀(σ:St)(H:Hp)(e dx:Addr)(tv:Value),σ[0]?=some (some (.ref e))->H e=some (.ext (xeD e C dx tv))->∀Q:List V->Hp->Prop,Q (bs.map V.bl) H->ta σ H Q
theorem zdp{C:Addr}:SBx K C tNil []:=λσ H e dx tv _ _ Q q=>q
theorem zap{C c:Addr}{b:Bool}{bs:List Bool}{ta:TA}(hk:PySem.W.kitOne K (.ref C) (.ref c)=some b)(h:SBx K C ta bs):SBx K C (tCons (tCB (rIsX K C) (tCons (tVar 0) (tCons (tC (.ref c)) tNil))) ta) (b::bs):=λσ H e dx tv h0 he Q q=>
 ⟨_,h0,e,dx,tv,b,he,h σ H e dx tv h0 he _ q,.inl ⟨c,rfl,hk⟩⟩
theorem zgm{C:Addr}{t1 t2 t3:TA}{b1 b2 b3:List Bool}(h1:SBx K C t1 b1)(h2:SBx K C t2 b2)(h3:SBx K C t3 b3)(hl:b1.length+b2.length+b3.length<=100){D:Ends}{H:Hp}{e dx:Addr}{tv:Value}(he:H e=some (.ext (xeD e C dx tv)))
  (k:∀p H',Same H H'->H' p=some (.lst ((b1++b2++b3).map V.bl))->D.rt (.ref p) H') :
  tSeq (tAsg (tLst t1) (gName 1)) (tSeq (tAsg (tOp (zcw K) (tVar 1) (tLst t2)) (gName 1)) (tRet (tOp (zcw K) (tVar 1) (tLst t3)))) D [some (.ref e),none] H:=by
 refine h1 _ H e dx tv rfl he _ ⟨by rw[qT,qY];omega,λp hp=>?_⟩
 have s1:=Same.new (o:=.lst (b1.map V.bl)) hp
 refine⟨_,rfl,h2 _ _ e dx tv rfl (s1 _ _ he) _ ⟨by rw[qT,qY];omega,λq hq=>?_⟩⟩
 have s2:=Same.new (o:=.lst (b2.map V.bl)) hq
 refine zjc (s2 _ _ zae) zae (by omega) λr H3 s3 h3'=>?_
 refine⟨_,rfl,h3 _ _ e dx tv rfl (s3 _ _ (s2 _ _ (s1 _ _ he))) _ ⟨by rw[qT,qY];omega,λq2 hq2=>?_⟩⟩
 have s4:=Same.new (o:=.lst (b3.map V.bl)) hq2
 refine zjc (s4 _ _ h3') zae (by rw[qO];omega) λr2 H5 s5 h5=>k r2 H5 (((s1.trans s2).trans s3).trans (s4.trans s5)) h5
noncomputable def isKx(i lo n:Nat):List Bool:=(List.range' lo n).map λj=>i==j
noncomputable def zdg(cs:List Addr)(lo n:Nat):Sp:=λvs H Q _=>∃(e:Addr)(i:Nat)(C dx:Addr)(tv:Value),vs=[.ref e]/\cs[i]?=some C/\H e=some (.ext (xeD e C dx tv))/\
 ∀p H',Same H H'->H' p=some (.lst ((isKx i lo n).map V.bl))->Q (.ref p) H'
end
section
variable{P:Program}{w:World}{K:qA}{h:Heap}{mg:Str->Option Value}{base:Heap}{x:Str}{st:Stmt}{f:Addr}{fd:qk}{ps:List Str}{k:Nat}{sp:Sp}
structure DefIn(K:qA)(x:Str)(st:Stmt)(f:Addr)(fd:qk):Prop where
 ns:qAF K qV x=some (some (.ref f))
 fn:Fun K x x st f fd
theorem def_mk{oc:Value}{od an:Option Addr}{osl:Array (Option Value)}{kV doc pm cdv ct:Value}(a:qAF K qV x=some (some (.ref f)))(l:K.lookup f=some ⟨oc,od,.func (qr x x (zbn st) (zbe st) (zad st) .none kV doc pm an cdv ct),osl⟩)
  (c:qAP K cdv x=true) (k:q9 K (.ref f)=true):DefIn K x st f (qr x x (zbn st) (zbe st) (zad st) .none kV doc pm an cdv ct):=⟨a,zlc l c k⟩
theorem DefIn.b1(d:DefIn K x st f fd)(h:∀(kV doc pm:Value) (an:Option Addr) (cdv ct a:Value),bindArgs (qr x x (zbn st) (zbe st) (zad st) .none kV doc pm an cdv ct) ⟨[a],[]⟩=pure [(p,a)]):zcr K fd [p] []:=
 d.fn.binds λkV doc pm an cdv ct us hl=>match us,hl with|[a],_=>h kV doc pm an cdv ct a
theorem DefIn.dn(d:DefIn K x st f fd)(X:K.In h)(G:h.Ns qV mg)(ok:FnOk P w K mg base CX0 k f fd ps sp)(b:zcr K fd ps []):Dn P w K mg base x ps k sp:=⟨f,fd,ok,qJ X G d.ns,d.fn.kp,b⟩
structure ClsIn(K:qA)(x:Str)(f:Addr):Prop where
 ns:qAF K qV x=some (some (.ref f))
 cl:PySem.W.isClsIn K f=true
 ty:PySem.W.typeIn K (.ref f)=some (.type "type")
theorem cls_mk(a:qAF K qV x=some (some (.ref f)))(b:PySem.W.isClsIn K f=true)(c:PySem.W.typeIn K (.ref f)=some (.type "type")):ClsIn K x f:=⟨a,b,c⟩
structure XIn(K:qA)(y fI:Addr):Prop where
 mx:XMk K y fI
 cl:PySem.W.findIn K (.ref y) "__class__"=some (some (.builtin "object.__class__"))
 be:PySem.W.subIn K (.ref y) (.type "BaseException")=some true
 ve:PySem.W.subIn K (.ref y) (.type "ValueError")=some true
 se:PySem.W.subIn K (.ref y) (.ref y)=some true
theorem xin_mk(xi:PySem.W.findIn K (.ref y) "__init__"=some (some (.ref fI)))(xf:PySem.W.isFn K (.ref fI)=true)(lk:K.lookup y=some ⟨.type "type",dd,.cls cd,sl⟩)(xb:xcB y cd sl=true)(kp:q9 K (.ref y)=true)
  (sa:PySem.W.findIn K (.ref y) "__setattr__"=some (some (.builtin "object.__setattr__")))(at_:PySem.W.findIn K (.ref y) "at"=some none)(ga:PySem.W.findIn K (.ref y) "__getattribute__"=some (some (.builtin "BaseException.__getattribute__")))(gh:PySem.W.findIn K (.ref y) "__getattr__"=some none)
  (cl:PySem.W.findIn K (.ref y) "__class__"=some (some (.builtin "object.__class__")))(be:PySem.W.subIn K (.ref y) (.type "BaseException")=some true)(ve:PySem.W.subIn K (.ref y) (.type "ValueError")=some true)(se:PySem.W.subIn K (.ref y) (.ref y)=some true):XIn K y fI:=
 ⟨⟨(zpi lk xb).1,(zpi lk xb).2,xi,xf,kp,sa,at_,ga,gh⟩,cl,be,ve,se⟩
theorem init_mk{qual:Str}{oc:Value}{od an:Option Addr}{osl:Array (Option Value)}{kV doc pm cdv ct:Value}(l:K.lookup f=some ⟨oc,od,.func (qr x qual (zbn st) (zbe st) (zad st) .none kV doc pm an cdv ct),osl⟩)
  (c:qAP K cdv qual=true) (k:q9 K (.ref f)=true):Fun K x qual st f (qr x qual (zbn st) (zbe st) (zad st) .none kV doc pm an cdv ct):=zlc l c k
universe u9
end
end L2
namespace Bc
open PySem L2
noncomputable def Low(x:Str):Prop:=∀c∈x.cps.toList,c<128
theorem zjd(h:Low x):PyData.strOk x=true:=by
 unfold PyData.strOk
 rw[<- Array.all_toList,qAK]
 intro c hc
 have:=h c hc
 exact decide_eq_true (by omega)
theorem zet(c:Nat):∀(n:Nat)(acc:Array Nat),((List.replicate n #[c]).foldl (·++·) acc).toList=acc.toList++List.replicate n c
 | 0,acc=>by simp
 | n+1,acc=>by
  rw[qA8,List.foldl_cons,zet c n,qA8]
  simp
theorem zgn{n:Int}(h:0<=n):(Txt.mul ⟨#[c]⟩ n).cps.toList=List.replicate n.toNat c:=by
 unfold Txt.mul
 split
 ·have:n.toNat=0:=by omega
  rw[this];rfl
 ·split
  ·rename_i h1 h2
   have:n=1:=by
    rcases qAb.mp h2 with z|z
    ·exact eq_of_beq z
    ·exact absurd z (by simp[Str.length])
   subst this
   rfl
  ·rw[zet];rfl
theorem Low.mul(hc:c<128)(h:0<=n):Low (Txt.mul ⟨#[c]⟩ n):=λd hd=>by
 rw[zgn h]at hd
 rw[List.eq_of_mem_replicate hd];exact hc
theorem znd{n:Int}(h:0<=n):(Txt.mul ⟨#[c]⟩ n).length=n.toNat:=by
 have:=congrArg List.length (zgn (c:=c) h)
 rw[qA3]at this
 simpa [Str.length]using this
noncomputable abbrev vi(i:Int):Val:=⟨.int i,false,[]⟩
noncomputable abbrev vs(x:Str):Val:=⟨.str x,false,[]⟩
section
variable{a b:EF}{env:DEnv}{i j:Int}
theorem zkr(ha:a env=some (vi i))(hb:b env=some (vi j))(h:0<j):eOp modD a b env=some (vi (i % j)):=by
 unfold eOp;rw[ha,hb];simp[modD,intD,h,bsOf,zdf]
theorem zlo(ha:a env=some (vi i))(hb:b env=some (vi j))(h:0<j)(h2:j<1073741824):eOp zfl a b env=some (vi (i / j)):=by
 unfold eOp;rw[ha,hb];simp[zfl,intD,h,h2,bsOf,zdf]
theorem zqn(ha:a env=some (vi i))(hb:b env=some (vi j)):eOp addD a b env=some (vi (i+j)):=by
 unfold eOp;rw[ha,hb];simp[addD,bsOf,zdf]
theorem zqo(ha:a env=some (vi i))(hb:b env=some (vi j)):eOp subD a b env=some (vi (i - j)):=by
 unfold eOp;rw[ha,hb];simp[subD,intD,bsOf,zdf]
theorem zqp(ha:a env=some (vi i))(hb:b env=some (vi j))(h:(-(2 ^ 64)<i/\i<2 ^ 64)\/(-(2 ^ 64)<j/\j<2 ^ 64)):eOp mulD a b env=some (vi (i * j)):=by
 unfold eOp;rw[ha,hb]
 simp only[qAT,mulD]
 rw[if_pos h];simp[bsOf,zdf]
theorem zpm{x:Str}(ha:a env=some (vs x))(hb:b env=some (vi j))(h:x.length<=1000/\-1000<=j/\j<=1000):eOp mulD a b env=some (vs (Txt.mul x j)):=by
 unfold eOp;rw[ha,hb]
 simp only[qAT,mulD]
 rw[if_pos h];simp[bsOf,zdf]
end
theorem zlp{α:Type}{f:α->Nat}{B:Nat}:∀{xs:List α},(∀x∈xs,f x<=B)->(xs.map f).sum<=xs.length * B
 | [],_=>by simp
 | x::xs,h=>by
  rw[qu,qAw,qAG,Nat.succ_mul]
  have:=h x (by simp)
  have:=zlp (xs:=xs) λy hy=>h y (qC _ hy)
  omega
structure Wd(x:Str):Prop where
 lo:1<=x.length
 hi:x.length<=8
 low:Low x
structure Shn(d:PyData)(n k:Nat):Prop where
 lay:d.canLay0=true
 shw:d.showable=true
 dep:d.depth<=k
 len:d.shown.length<=n
theorem Shn.mono{d:PyData}{n k m j:Nat}(h:Shn d n k)(a:n<=m)(b:k<=j):Shn d m j:=⟨h.lay,h.shw,qP h.dep b,qP h.len a⟩
theorem zhe:∀c<128,∀q∈[34,39],(Builtin.Str.reprChar q c).length<=4:=by decide +kernel
theorem zje{x:Str}(h:Low x)(hl:x.length<=8):(reprText x).length<=34:=by
 have hq:reprQuote x∈[34,39]:=by unfold reprQuote;split<;>simp
 have fold:∀(l:List Nat)(a:Array Nat),(∀c∈l,c<128)->(l.foldl (λout c=>out++(Builtin.Str.reprChar (reprQuote x) c).toArray) a).size<=a.size+4 * l.length:=by
  intro l
  induction l with
  | nil=>intro a _;simp
  | cons c l ih=>
   intro a hc
   rw[List.foldl_cons]
   have h1:=ih (a++(Builtin.Str.reprChar (reprQuote x) c).toArray) λc' hc'=>hc c' (qC _ hc')
   have h2:=zhe c (hc c (by simp)) _ hq
   rw[Array.size_append]at h1
   simp only[qM,qAG]at h1 ⊢
   omega
 show((x.cps.foldl (λout c=>out++(Builtin.Str.reprChar (reprQuote x) c).toArray) #[reprQuote x]).push (reprQuote x)).size<=34
 rw[Array.size_push,<- Array.foldl_toList]
 have h1:=fold x.cps.toList #[reprQuote x] λc hc=>h c (by first|exact hc|exact Array.mem_toList_iff.mp hc|exact Array.mem_toList.mp hc)
 have h2:x.cps.toList.length=x.length:=rfl
 have h3:(#[reprQuote x]:Array Nat).size=1:=rfl
 omega
theorem zne{x:Str}(h:Wd x):Shn (.str x) 34 0:=⟨by simp only[PyData.canLay0];exact zjd h.low,by simp only[PyData.showable],by simp only[PyData.depth];exact qG _,by simp only[PyData.shown];exact zje h.low h.hi⟩
theorem zfr:∀{ds:List PyData},(∀d∈ds,d.canLay0=true)->qd ds=true
 | [],_=>by simp only[qd]
 | d::ds,h=>by simp only[qd,qW];exact⟨h d (by simp),zfr λx hx=>h x (qC _ hx)⟩
theorem zfs:∀{ds:List PyData},(∀d∈ds,d.showable=true)->PyData.showableAll ds=true
 | [],_=>by simp only[PyData.showableAll]
 | d::ds,h=>by simp only[PyData.showableAll,qW];exact⟨h d (by simp),zfs λx hx=>h x (qC _ hx)⟩
theorem zft{k:Nat}:∀{ds:List PyData},(∀d∈ds,d.depth<=k)->qAB ds<=k
 | [],_=>by simp only[qAB];exact qAQ _
 | d::ds,h=>by simp only[qAB];exact Nat.max_le.mpr ⟨h d (by simp),zft λx hx=>h x (qC _ hx)⟩
theorem zbt:∀ds:List PyData,PyData.shownAll ds=ds.map PyData.shown
 | []=>by simp only[PyData.shownAll];rfl
 | d::ds=>by simp only[PyData.shownAll];rw[zbt ds];rfl
theorem zdb:∀(ts:List Str)(k:Nat)(acc:Str),(textFrom k acc ts).length<=acc.length+(ts.map λt=>t.length+2).sum
 | [],k,acc=>by show acc.length<=_;omega
 | t::r,k,acc=>by
  have h:=zdb r (k+1) (acc++(if k > 0 then ", "else "":String)++t)
  have e:(acc++(if k > 0 then ", "else "":String)++t).length<=acc.length+2+t.length:=by
   rw[qAJ,qAJ]
   split
   ·show acc.length+2+t.length<=_;omega
   ·show acc.length+0+t.length<=_;omega
  show(textFrom (k+1) _ r).length<=_
  rw[qu,qAw]
  omega
theorem zks{ds:List PyData}{n k m:Nat}(h:∀d∈ds,Shn d n k)(hl:ds.length<=m):Shn (.list ds) (m * (n+2)+2) (k+1):=by
 refine⟨by simp only[PyData.canLay0];exact zfr λd hd=>(h d hd).lay,by simp only[PyData.showable];exact zfs λd hd=>(h d hd).shw,by simp only[PyData.depth];exact Nat.succ_le_succ (zft λd hd=>(h d hd).dep),?_⟩
 simp only[PyData.shown]
 unfold listText
 rw[qAJ,zbt]
 have h1:=zdb (ds.map PyData.shown) 0 "["
 have h2:(((ds.map PyData.shown).map λt=>t.length+2).sum)<=ds.length * (n+2):=by
  rw[List.map_map]
  exact zlp λd hd=>by have:=(h d hd).len;show d.shown.length+2<=n+2;omega
 have h3:ds.length * (n+2)<=m * (n+2):=Nat.mul_le_mul_right _ hl
 have e1:((("[":String):Str)).length=1:=rfl
 have e2:((("]":String):Str)).length=1:=rfl
 rw[e2]
 rw[e1]at h1
 omega
theorem zjf:∀ts:List Str,(Str.join ", " ts).length<=(ts.map λt=>t.length+2).sum
 | []=>qAQ _
 | [x]=>by show x.length<=x.length+2+0;omega
 | x::y::r=>by
  have ih:=zjf (y::r)
  show(x++", "++Str.join ", " (y::r)).length<=_
  have e2:((", ":String):Str).length=2:=rfl
  rw[qAJ,qAJ,e2,qu,qAw]
  omega
theorem zeu{ds:List PyData}{k m:Nat}(h:∀d∈ds,d.canLay0=true/\d.showable=true/\d.depth<=k)(hl:(ds.map λd=>d.shown.length+2).sum<=m):Shn (.tuple ds) (m+3) (k+1):=by
 refine⟨by simp only[PyData.canLay0];exact zfr λd hd=>(h d hd).1,by simp only[PyData.showable];exact zfs λd hd=>(h d hd).2.1,by simp only[PyData.depth];exact Nat.succ_le_succ (zft λd hd=>(h d hd).2.2),?_⟩
 simp only[PyData.shown]
 unfold tupleText
 rw[qAJ,qAJ,zbt]
 have h1:=zjf (ds.map PyData.shown)
 rw[List.map_map]at h1
 have h1:(Str.join ", " (ds.map PyData.shown)).length<=(ds.map λd=>d.shown.length+2).sum:=h1
 have e1:((("(":String):Str)).length=1:=rfl
 have e3:(((if(ds.map PyData.shown).length==1 then ",)"else ")":String):Str)).length<=2:=by split<;>decide
 rw[e1]
 omega
theorem zlq{a b:PyData}{n m k:Nat}(ha:Shn a n k)(hb:Shn b m k):Shn (.tuple [a,b]) (n+m+4+3) (k+1):=zeu (λd hd=>by
 rcases qg.mp hd with rfl|hd
 ·exact⟨ha.lay,ha.shw,ha.dep⟩
 ·rw[qAd.mp hd];exact⟨hb.lay,hb.shw,hb.dep⟩) (by show a.shown.length+2+(b.shown.length+2+0)<=_;have:=ha.len;have:=hb.len;omega)
theorem zpn{a b c:PyData}{n m l k:Nat}(ha:Shn a n k)(hb:Shn b m k)(hc:Shn c l k):Shn (.tuple [a,b,c]) (n+m+l+6+3) (k+1):=zeu (λd hd=>by
 rcases qg.mp hd with rfl|hd
 ·exact⟨ha.lay,ha.shw,ha.dep⟩
 ·rcases qg.mp hd with rfl|hd
  ·exact⟨hb.lay,hb.shw,hb.dep⟩
  ·rw[qAd.mp hd];exact⟨hc.lay,hc.shw,hc.dep⟩) (by show a.shown.length+2+(b.shown.length+2+(c.shown.length+2+0))<=_;have:=ha.len;have:=hb.len;have:=hc.len;omega)
theorem zkt(s:qs d=true):eqD d d=some (.bool true,false):=by
 unfold eqD eqOk
 rw[s,Bool.and_self,q0,if_pos rfl,qAk _ (qt s)]
theorem zgo(s:qs d=true):neD d d=some (.bool false,false):=by
 unfold neD eqOk
 rw[s,Bool.and_self,q0,if_pos rfl,qAk _ (qt s)]
 rfl
noncomputable def zca(c:Int):Str:=Txt.mul ⟨#[97+(c % 26).toNat]⟩ (1+c / 26 % 8)
noncomputable def zbl(c:Int):Int:=c % (2 * 10 ^ 60) - 10 ^ 60
noncomputable def zev(w:Str)(n:Int):List PyData:=[.none,.str w,.int n,.tuple [.str w,.none],.tuple [.int n,.tuple [.str w,.str w],.list [.int n]]]
noncomputable def zcm(c:Int):PyData:=(zev (zca c) (zbl c)).getD (c / 208 % 5).toNat .none
noncomputable def zfu:SF:=sRet (eOp ixD (eLst (zaz (eC .none) (zaz (eVar 3) (zaz (eVar 2) (zaz (eTup (zaz (eVar 3) (zaz (eC .none) aNil))) (zaz (eTup (zaz (eVar 2) (zaz (eTup (zaz (eVar 3) (zaz (eVar 3) aNil))) (zaz (eLst (zaz (eVar 2) aNil)) aNil)))) aNil)))))) (eOp modD (eOp zfl (eVar 1) (eC (.int 208))) (eC (.int 5))))
noncomputable def zcu:SF:=sSeq (sSet 2 (eOp subD (eOp modD (eVar 1) (eOp mulD (eC (.int 2)) (eOp powD (eC (.int 10)) (eC (.int 60))))) (eOp powD (eC (.int 10)) (eC (.int 60)))))
  (sSeq (sSet 3 (eOp mulD (eOp ixD (eC (.str "abcdefghijklmnopqrstuvwxyz")) (eOp modD (eVar 1) (eC (.int 26)))) (eOp addD (eC (.int 1)) (eOp modD (eOp zfl (eVar 1) (eC (.int 26))) (eC (.int 8)))))) zfu)
theorem zqq:∀a<26,atI ("abcdefghijklmnopqrstuvwxyz":Str).cps.toList ((a:Nat):Int)=some (97+a):=by decide +kernel
theorem at5{α:Type}{a b c d e:α}{i:Int}(h0:0<=i)(h1:i<5)(x:α):atI [a,b,c,d,e] i=some ([a,b,c,d,e].getD i.toNat x):=by
 obtain⟨n,rfl⟩:∃n:Nat,i=(n:Int):=⟨i.toNat,by omega⟩
 have:n<5:=by omega
 match n,this with
 | 0,_=>rfl
 | 1,_=>rfl
 | 2,_=>rfl
 | 3,_=>rfl
 | 4,_=>rfl
theorem zlr{f:OF}{a b:EF}{env:DEnv}{x y:Val}{z:PyData×Bool}(ha:a env=some x)(hb:b env=some y)(hf:f x.d y.d=some z):eOp f a b env=some ⟨z.1,z.2,bsOf z.1 (x.bs++y.bs)⟩:=by
 unfold eOp
 rw[ha,qAT,hb,qAT,hf]
 rfl
theorem zjg{x:Str}:eqD (.str x) (.str x)=some (.bool true,false)/\neD (.str x) (.str x)=some (.bool false,false):=by
 have e:qx (.str x) (.str x)=true:=by simp[qx]
 unfold eqD neD
 rw[if_pos (show eqOk (.str x) (.str x)=true from rfl),if_pos (show eqOk (.str x) (.str x)=true from rfl),e]
 exact⟨rfl,rfl⟩
theorem zjh{x:Int}:eqD (.int x) (.int x)=some (.bool true,false)/\neD (.int x) (.int x)=some (.bool false,false):=by
 have e:qx (.int x) (.int x)=true:=by simp[qx]
 unfold eqD neD
 rw[if_pos (show eqOk (.int x) (.int x)=true from rfl),if_pos (show eqOk (.int x) (.int x)=true from rfl),e]
 exact⟨rfl,rfl⟩
theorem zpo(c:Int):∃fr,zcu [.no,.pl (.int c),.no,.no]=some (.rt (zcm c) fr):=by
 have p60:∀env,eOp powD (eC (.int 10)) (eC (.int 60)) env=some (vi (10 ^ 60)):=λenv=>rfl
 have a1:eOp subD (eOp modD (eVar 1) (eOp mulD (eC (.int 2)) (eOp powD (eC (.int 10)) (eC (.int 60))))) (eOp powD (eC (.int 10)) (eC (.int 60))) [.no,.pl (.int c),.no,.no]=some (vi (zbl c)):=
  zqo (zkr rfl (zqp rfl (p60 _) (.inl (by decide))) (by decide)) (p60 _)
 have h26:(0:Int)<=c % 26/\c % 26<26:=⟨qAD _ (by decide),qv _ (by decide)⟩
 have h8:(0:Int)<=c / 26 % 8/\c / 26 % 8<8:=⟨qAD _ (by decide),qv _ (by decide)⟩
 have h5:(0:Int)<=c / 208 % 5/\c / 208 % 5<5:=⟨qAD _ (by decide),qv _ (by decide)⟩
 have a2:eOp ixD (eC (.str "abcdefghijklmnopqrstuvwxyz")) (eOp modD (eVar 1) (eC (.int 26))) [.no,.pl (.int c),.pl (.int (zbl c)),.no]=some (vs ⟨#[97+(c % 26).toNat]⟩):=by
  have b:eOp modD (eVar 1) (eC (.int 26)) [.no,.pl (.int c),.pl (.int (zbl c)),.no]=some (vi (c % 26)):=zkr rfl rfl (by decide)
  have t:=zqq (c % 26).toNat (by omega)
  rw[show(((c % 26).toNat:Nat):Int)=c % 26 by omega]at t
  have u:=zlr (f:=ixD) (z:=(.str ⟨#[97+(c % 26).toNat]⟩,false)) (show eC (.str "abcdefghijklmnopqrstuvwxyz") [.no,.pl (.int c),.pl (.int (zbl c)),.no]=some (vs "abcdefghijklmnopqrstuvwxyz")from rfl) b (by
   show ixD (.str "abcdefghijklmnopqrstuvwxyz") (.int (c % 26))=_
   unfold ixD
   dsimp only
   rw[if_pos (by decide),t]
   rfl)
  exact u
 have a3:eOp mulD (eOp ixD (eC (.str "abcdefghijklmnopqrstuvwxyz")) (eOp modD (eVar 1) (eC (.int 26)))) (eOp addD (eC (.int 1)) (eOp modD (eOp zfl (eVar 1) (eC (.int 26))) (eC (.int 8)))) [.no,.pl (.int c),.pl (.int (zbl c)),.no]=some (vs (zca c)):=
  zpm a2 (zqn rfl (zkr (zlo rfl rfl (by decide) (by decide)) rfl (by decide))) ⟨qAh (by show 1<1000;decide),by omega,by omega⟩
 have a4:zcu [.no,.pl (.int c),.no,.no]=zfu [.no,.pl (.int c),.pl (.int (zbl c)),.pl (.str (zca c))]:=by
  unfold zcu sSeq sSet
  rw[a1]
  show Option.bind (Option.map _ (eOp mulD _ _ [.no,.pl (.int c),.pl (.int (zbl c)),.no])) _=_
  rw[a3]
  rfl
 rw[a4]
 have l:eLst (zaz (eC .none) (zaz (eVar 3) (zaz (eVar 2) (zaz (eTup (zaz (eVar 3) (zaz (eC .none) aNil))) (zaz (eTup (zaz (eVar 2) (zaz (eTup (zaz (eVar 3) (zaz (eVar 3) aNil))) (zaz (eLst (zaz (eVar 2) aNil)) aNil)))) aNil))))) [.no,.pl (.int c),.pl (.int (zbl c)),.pl (.str (zca c))]=some ⟨.list (zev (zca c) (zbl c)),true,[]⟩:=rfl
 have i:eOp modD (eOp zfl (eVar 1) (eC (.int 208))) (eC (.int 5)) [.no,.pl (.int c),.pl (.int (zbl c)),.pl (.str (zca c))]=some (vi (c / 208 % 5)):=zkr (zlo rfl rfl (by decide) (by decide)) rfl (by decide)
 have u:=zlr (f:=ixD) (z:=(zcm c,false)) l i (by
  show(atI (zev (zca c) (zbl c)) (c / 208 % 5)).map _=_
  rw[show atI (zev (zca c) (zbl c)) (c / 208 % 5)=some (zcm c)from at5 h5.1 h5.2 _]
  rfl)
 unfold zfu sRet
 rw[u]
 exact⟨false,rfl⟩
theorem zji{i:Int}(h:i.natAbs<10 ^ 61):(Str.ofString (toString i)).length<=63:=by
 have go:∀n:Nat,n<10 ^ 61->(Str.ofString (toString (n:Int))).length<=61:=λn hn=>by
  have e:(Str.ofString (toString (n:Int))).length=(Nat.toDigits 10 n).length:=by
   have h1:(toString (n:Int))=String.ofList (Nat.toDigits 10 n):=by
    show(toString (Int.ofNat n))=_
    show Nat.repr n=_
    exact Nat.repr_eq_ofList_toDigits
   rw[h1,qAU]
   simp[Str.length]
  rw[e]
  exact(Nat.length_toDigits_le_iff (by decide) (by decide)).mpr hn
 cases i with
 | ofNat n=>have:=go n h;have e:(Str.ofString (toString (Int.ofNat n))).length<=61:=this;omega
 | negSucc n=>
  have:=go (n+1) h
  have e1:toString (Int.negSucc n)="-"++toString ((n+1:Nat):Int):=rfl
  rw[e1,qAU]
  rw[qAU]at this
  simp[Str.length]at this ⊢
  omega
theorem zjj{i:Int}(h:i.natAbs<10 ^ 61):i.natAbs.log2<1920:=by
 rcases Nat.eq_zero_or_pos i.natAbs with h0|hp
 ·rw[h0];decide
 ·have:i.natAbs.log2<400:=(Nat.log2_lt (by omega)).mpr (qE h (by decide +kernel))
  omega
theorem znf{i:Int}(h:i.natAbs<10 ^ 61):Shn (.int i) 63 0:=⟨by simp only[PyData.canLay0],by simp only[PyData.showable];exact decide_eq_true (zjj h),by simp only[PyData.depth];exact qG _,by simp only[PyData.shown];exact zji h⟩
theorem zku:Shn .none 4 0:=⟨by simp only[PyData.canLay0],by simp only[PyData.showable],by simp only[PyData.depth];exact qG _,by simp only[PyData.shown];decide⟩
theorem zng(c:Int):(zbl c).natAbs<10 ^ 61:=by
 have h1:0<=c % (2 * 10 ^ 60):=qAD _ (by decide)
 have h2:c % (2 * 10 ^ 60)<2 * 10 ^ 60:=qv _ (by decide)
 unfold zbl
 omega
theorem znh(c:Int):Wd (zca c):=by
 have h8:(0:Int)<=c / 26 % 8/\c / 26 % 8<8:=⟨qAD _ (by decide),qv _ (by decide)⟩
 have h26:(0:Int)<=c % 26/\c % 26<26:=⟨qAD _ (by decide),qv _ (by decide)⟩
 have l:(zca c).length=(1+c / 26 % 8).toNat:=znd (by omega)
 exact⟨by rw[l];omega,by rw[l];omega,Low.mul (by omega) (by omega)⟩
theorem zgp(c:Int):(∀(K:qA)(H:Hp)(v:V),Rp H (zcm c) v->atH K H v)/\eqD (zcm c) (zcm c)=some (.bool true,false)/\neD (zcm c) (zcm c)=some (.bool false,false):=by
 have hn:=zng c
 have hw:=znh c
 have sw:=zne hw
 have si:=znf hn
 have tup:∀ds,Shn (.tuple ds) 1000 4->(∀(K:qA)(H:Hp)(v:V),Rp H (.tuple ds) v->atH K H v)/\eqD (.tuple ds) (.tuple ds)=some (.bool true,false)/\neD (.tuple ds) (.tuple ds)=some (.bool false,false):=λds h=>by
  have s:qs (.tuple ds)=true:=by unfold qs;rw[h.lay,decide_eq_true (qP h.dep (by decide))];rfl
  refine⟨λK H v r=>?_,zkt s,zgo s⟩
  obtain⟨a,xs,rfl,_⟩:=zcj r
  exact .inr (.inr ⟨a,_,rfl,zdl h.lay r,h.shw,PyData.hasDict_of_canLay _ h.lay,qP h.dep (by decide),h.len⟩)
 have h5:(c / 208 % 5).toNat<5:=by
  have h1:(0:Int)<=c / 208 % 5:=qAD _ (by decide)
  have h2:c / 208 % 5<5:=qv _ (by decide)
  omega
 unfold zcm zev
 match(c / 208 % 5).toNat,h5 with
 | 0,_=>exact⟨λK H v r=>.inl (by cases zml r;exact True.intro),rfl,rfl⟩
 | 1,_=>
  refine⟨λK H v r=>.inl ?_,zjg.1,zjg.2⟩
  cases zem r
  have:=sw.len
  simp only[PyData.shown]at this
  exact qP this (by decide)
 | 2,_=>
  refine⟨λK H v r=>.inr (.inl ?_),zjh.1,zjh.2⟩
  cases zbm r
  exact⟨_,rfl,zjj hn,qP (zji hn) (by decide)⟩
 | 3,_=>exact tup _ ((zlq sw zku).mono (by decide) (by decide))
 | 4,_=>exact tup _ ((zpn (k:=3) (si.mono (qG _) (by decide)) ((zlq sw sw).mono (qG _) (by decide)) ((zks (n:=63) (k:=0) (m:=1) (λd hd=>by rcases qg.mp hd with rfl|hd;exact si;cases hd) (qG _)).mono (qG _) (by decide))).mono (by decide) (by decide))
noncomputable def zni(K:qA):Sp:=λvs H Q _=>∃(a:Addr)(ns:List Int),vs=[.ref a]/\SqL K H a (ns.map V.int)/\∀v H',Same H H'->Rp H' (zcm (ns.headD 0)) v->Q v H'
noncomputable abbrev rNE(K:qA):R2:=λx y H Q=>rNe x y H Q\/rEqD K true x y H Q
noncomputable abbrev rEQ(K:qA):R2:=λx y H Q=>rEq x y H Q\/rEqD K false x y H Q
noncomputable abbrev zjk(K:qA)(te:TE):TT:=λσ H Q=>te σ H λx H'=>∃k,TruV K x H' k/\Q k H'
theorem zgq{K:qA}{H:Hp}:∀ns:List Int,Reps K H (ns.map .int) (ns.map V.int)
 | []=>by unfold Reps;rfl
 | n::ns=>by unfold Reps;exact⟨_,_,rfl,by unfold Rep;rfl,zgq ns⟩
theorem zfv(ns:List Int):qs (.list (ns.map .int))=true:=by
 have l:∀ns:List Int,qd (ns.map .int)=true:=λns=>by
  induction ns with
  | nil=>rfl
  | cons n ns ih=>rw[qu];simp only[qd,PyData.canLay0,ih,Bool.and_true]
 have d:∀ns:List Int,qAB (ns.map .int)<=0:=λns=>by
  induction ns with
  | nil=>exact qG _
  | cons n ns ih=>rw[qu];simp only[qAB,PyData.depth];omega
 unfold qs
 rw[show(PyData.list (ns.map .int)).canLay0=true by simp only[PyData.canLay0];exact l ns,decide_eq_true (show(PyData.list (ns.map .int)).depth<=64 by simp only[PyData.depth];have:=d ns;omega)]
 rfl
theorem zkv{K:qA}{trest:TS}(hs:SS trest zcu){D:Ends}{H:Hp}{a:Addr}{ns:List Int}(hS:SqL K H a (ns.map V.int))(k:∀v H',Same H H'->Rp H' (zcm (ns.headD 0)) v->D.rt v H') :
  tSeq (tAsg (tC (.int 0)) (gName 1)) (tSeq (tIfS (tTest (tOp (rNE K) (tVar 0) (tLst tNil))) (tAsg (tOp (rIxU K) (tVar 0) (tC (.int 0))) (gName 1)) tNext) trest) D [some (.ref a),none,none,none] H:=by
 have go:∀(c:Int)(H1:Hp),Same H H1->c=ns.headD 0->trest D [some (.ref a),some (.int c),none,none] H1:=λc H1 s e=>by
  obtain⟨fr,er⟩:=zpo c
  refine hs (λ_=>False) H1 [.no,.pl (.int c),.no,.no] _ H1 D ⟨rfl,λi d e=>?_,λi d e=>?_,λi j d e a h1=>?_,Same.refl _,λb z=>z.elim⟩ _ er λv H' s' r=>k v H' (s.trans s') (by rw[<- e];exact Rp.same (Offs.same _ _) _ r.1)
  ·rcases i with _|_|_|_|i<;>cases e
   exact⟨_,rfl,zaf⟩
  ·rcases i with _|_|_|_|i<;>cases e
  ·rcases i with _|_|_|_|i<;>cases h1
 refine Exists.intro (V.ref a) ⟨rfl,?_⟩
 refine⟨by show 0<=qH;exact qAQ _,λp hp=>?_⟩
 have s1:=Same.new (o:=.lst []) hp
 have hS':SqL K (upd H p (.lst [])) a (ns.map V.int):=s1.seq hS
 refine .inr ⟨.list (ns.map .int),.list [],by unfold Rep;exact⟨a,_,rfl,hS',zgq ns⟩,by unfold Rep;exact⟨p,[],rfl,SqL.of zae,by unfold Reps;rfl⟩,zfv ns,by decide +kernel,?_⟩
 refine⟨_,rfl,?_⟩
 cases ns with
 | nil=>
  have e:(if true then !PyData.eqv (.list (([]:List Int).map .int)) (.list [])else qx (.list (([]:List Int).map .int)) (.list []))=false:=by decide +kernel
  rw[e]
  exact iteF (go 0 _ s1 rfl)
 | cons n ns=>
  have e:(if true then !PyData.eqv (.list ((n::ns).map .int)) (.list [])else qx (.list ((n::ns).map .int)) (.list []))=true:=by
   have:qx (.list ((n::ns).map .int)) (.list [])=false:=by simp[qx,PyData.eqvAll]
   rw[this];rfl
  rw[e]
  refine iteT ?_
  have at0:atI (List.map V.int (n::ns)) 0=some (V.int n):=by
   unfold atI ixN
   rw[if_pos (by decide),if_pos (by rw[qT,qAG];omega)]
   rfl
  exact⟨.ref a,rfl,_,.int n,.inl hS',at0,go n _ s1 rfl⟩
theorem Same.of_offs{H:Hp}:Same H (Offs (λ_=>False) H):=λb o e=>by rw[Offs.get (λz=>z)];exact e
structure XT(K:qA)(cs:List Addr)(yB:Addr):Prop where
 len:cs.length=19
 kB:∀C∈cs,PySem.W.kitOne K (.ref C) (.ref yB)=some true
 kV:∀C∈cs++[yB],PySem.W.kitOne K (.ref C) (.type "ValueError")=some true
theorem znj{α:Type}{xs:List α}{i:Nat}{x:α}(h:xs[i]?=some x):atI xs (0+(i:Int))=some x:=by
 have hl:=(qR.mp h).1
 unfold atI ixN
 rw[if_pos (by omega),if_pos (by omega)]
 show xs[(0+(i:Int)).toNat]?=_
 rw[show(0+(i:Int)).toNat=i by omega]
 exact h
theorem znk{i:Nat}:isKx i 0 10++isKx i 10 9=isKx i 0 19:=by unfold isKx;rw[<- List.map_append];rfl
theorem zpp:isKx 19 0 19=List.replicate 19 false:=by decide
theorem zjl{K:qA}{cs:List Addr}{tx:TE}{σ:St}{H:Hp}{v:V}{i:Nat}{C:Addr}{x:V}(hi:cs[i]?=some C)(hx:XEat H v C x)(ht:∀H',Same H H'->∀Q:VK,Q x H'->tx σ H' Q){Q:VK}
  (q:∀p H',Same H H'->H' p=some (.lst ((isKx i 0 19).map V.bl))->Q (.ref p) H') :
  tOp (zcw K) (tCall (zdg cs 0 10) [] E0 (tCons tx tNil)) (tCall (zdg cs 10 9) [] E0 (tCons tx tNil)) σ H Q:=by
 obtain⟨e,dx,rfl,h1,h2⟩:=hx
 refine ht H (Same.refl _) _ ⟨e,i,C,dx,.none,rfl,hi,h1,λp1 H1 s1 e1=>?_⟩
 refine ht H1 s1 _ ⟨e,i,C,dx,.none,rfl,hi,s1 _ _ h1,λp2 H2 s2 e2=>?_⟩
 exact zjc (s2 _ _ e1) e2 (by simp[isKx]) λr H3 s3 e3=>q r H3 (s1.trans (s2.trans s3)) (by rw[<- znk];exact e3)
theorem zjm{K:qA}{cs:List Addr}{tx:TE}{σ:St}{H:Hp}{v:V}{C:Addr}{x y:V}(hi:C∈cs)(hx:XEat H v C x)(ht:∀Q:VK,Q x H->tx σ H Q){b:Bool}(hy:(∃c,y=.ref c/\PySem.W.kitOne K (.ref C) (.ref c)=some b)\/∃n,y=.ty n/\PySem.W.kitOne K (.ref C) (.type n)=some b)
  {Q:Bool->Hp->Prop} (q:Q b H):zjk K (tCB (rIsS K cs) (tCons tx (tCons (tC y) tNil))) σ H Q:=by
 obtain⟨e,dx,rfl,h1,h2⟩:=hx
 refine ht _ ⟨C,hi,e,dx,.none,b,h1,⟨b,rfl,q⟩,?_⟩
 rcases hy with⟨c,rfl,k⟩|⟨n,rfl,k⟩
 ·exact .inl ⟨c,rfl,k⟩
 ·exact .inr (.inl ⟨n,rfl,k⟩)
noncomputable abbrev zec:EF:=zmu ["_law_j"] [3] (zfm (zaz (eC (.int 19)) aNil)) (gN 0) zpa (eOp eqD (eVar 0) (eVar 1))
theorem zpq:∀k:Nat,k<19->∃fr bs,zec [.no,.no,.no,.pl (.int (0+(k:Int))),.no]=some ⟨.list ((isKx k 0 19).map .bool),fr,bs⟩:=by
 intro k hk
 match k,hk with
 | 0,_=>exact⟨_,_,rfl⟩
 | 1,_=>exact⟨_,_,rfl⟩
 | 2,_=>exact⟨_,_,rfl⟩
 | 3,_=>exact⟨_,_,rfl⟩
 | 4,_=>exact⟨_,_,rfl⟩
 | 5,_=>exact⟨_,_,rfl⟩
 | 6,_=>exact⟨_,_,rfl⟩
 | 7,_=>exact⟨_,_,rfl⟩
 | 8,_=>exact⟨_,_,rfl⟩
 | 9,_=>exact⟨_,_,rfl⟩
 | 10,_=>exact⟨_,_,rfl⟩
 | 11,_=>exact⟨_,_,rfl⟩
 | 12,_=>exact⟨_,_,rfl⟩
 | 13,_=>exact⟨_,_,rfl⟩
 | 14,_=>exact⟨_,_,rfl⟩
 | 15,_=>exact⟨_,_,rfl⟩
 | 16,_=>exact⟨_,_,rfl⟩
 | 17,_=>exact⟨_,_,rfl⟩
 | 18,_=>exact⟨_,_,rfl⟩
 | n+19,h=>exact absurd h (by omega)
theorem zjn(bs:List Bool):qs (.list (bs.map .bool))=true:=by
 have l:∀ns:List Bool,qd (ns.map .bool)=true:=λns=>by
  induction ns with
  | nil=>rfl
  | cons n ns ih=>rw[qu];simp only[qd,PyData.canLay0,ih,Bool.and_true]
 have d:∀ns:List Bool,qAB (ns.map .bool)<=0:=λns=>by
  induction ns with
  | nil=>exact qG _
  | cons n ns ih=>rw[qu];simp only[qAB,PyData.depth];omega
 unfold qs
 rw[show(PyData.list (bs.map .bool)).canLay0=true by simp only[PyData.canLay0];exact l bs,decide_eq_true (show(PyData.list (bs.map .bool)).depth<=64 by simp only[PyData.depth];have:=d bs;omega)]
 rfl
noncomputable abbrev zhf(K:qA):TE:=tOp (rIxU K) (tVar 2) (tVar 3)
noncomputable abbrev zpr(K:qA)(cs:List Addr)(yB:Addr)(tcomp:TE):TS:=
 tSeq (tIfS (tTest (tOp (rNE K) (tOp (zcw K) (tCall (zdg cs 0 10) [] E0 (tCons (zhf K) tNil)) (tCall (zdg cs 10 9) [] E0 (tCons (zhf K) tNil))) tcomp)) (tRet (tC (.bl false))) tNext)
  (tIfS (tOr (tNot (zjk K (tCB (rIsS K cs) (tCons (zhf K) (tCons (tC (.ref yB)) tNil))))) (tOr (tNot (zjk K (tCB (rIsS K cs) (tCons (zhf K) (tCons (tC (.ty "ValueError")) tNil))))) (tTest (tOp (rNE K) (znc cs (zhf K)) (tVar 1))))) (tRet (tC (.bl false))) tNext)
theorem znl{K:qA}{cs:List Addr}{yB:Addr}{tcomp:TE}(hc:SE tcomp zec)(T:XT K cs yB){a p:Addr}{v:V}{vs:List V}{H:Hp}{c:Int}(hv:Rp H (zcm c) v)(hp:H p=some (.lst vs))(pe:Paired (XEat H v) cs vs){k:Nat}(hk:k<19){D:Ends}
  (q:∀H',Same H H'->D.nx [some (.ref a),some v,some (.ref p),some (.int (0+(k:Int))),none] H'):zpr K (cs++[yB]) yB tcomp D [some (.ref a),some v,some (.ref p),some (.int (0+(k:Int))),none] H:=by
 obtain⟨C,hC⟩:∃C,cs[k]?=some C:=⟨_,qe (by rw[T.len];exact hk)⟩
 obtain⟨x,hx,ex⟩:=L2.paired_get pe hC
 have hC':(cs++[yB])[k]?=some C:=by rw[qw (by rw[T.len];exact hk)];exact hC
 have mC:C∈cs:=qi hC
 have mC':C∈cs++[yB]:=qy _ mC
 have ix:∀H',Same H H'->∀Q:VK,Q x H'->zhf K [some (.ref a),some v,some (.ref p),some (.int (0+(k:Int))),none] H' Q:=λH' s Q h=>⟨_,rfl,_,rfl,vs,x,.inl (SqL.of (s _ _ hp)),znj hx,h⟩
 refine zjl hC' ex ix λp1 H1 s1 e1=>?_
 obtain⟨fr,bs,ec⟩:=zpq k hk
 have env:EnvOk (λ_=>False) H1 [.no,.no,.no,.pl (.int (0+(k:Int))),.no] [some (.ref a),some v,some (.ref p),some (.int (0+(k:Int))),none] H1:=by
  refine⟨rfl,λi d e=>?_,λi d e=>?_,λi j d e a h1=>?_,Same.refl _,λb z=>z.elim⟩
  ·rcases i with _|_|_|_|_|i<;>cases e
   exact⟨_,rfl,zaf⟩
  ·rcases i with _|_|_|_|_|i<;>cases e
  ·rcases i with _|_|_|_|_|i<;>cases h1
 refine hc _ H1 _ _ H1 env _ ec _ λw H2 s2 vw=>?_
 refine zox (λ_=>False) H2 _ _ _ _ (λb z=>z.elim) (zqm (s2 _ _ e1)) (Rp.same (Same.trans (Offs.same _ _) Same.of_offs) _ vw.rp) _ _ (zgo (zjn _)) _ λu H3 s3 ru _=>?_
 cases zfh ru
 refine⟨false,rfl,iteF ?_⟩
 have s13:=(s1.trans s2).trans s3
 refine zjm (C:=C) mC' (ex.same s13) (ix H3 s13) (.inl ⟨_,rfl,T.kB C mC⟩) ?_
 refine iteF ?_
 refine zjm (C:=C) mC' (ex.same s13) (ix H3 s13) (.inr ⟨_,rfl,T.kV C mC'⟩) ?_
 refine iteF ?_
 refine ix H3 s13 _ ?_
 obtain⟨e,dx,rfl,h1,h2⟩:=ex
 refine⟨C,mC',e,dx,.none,v,rfl,s13 _ _ h1,s13 _ _ h2,v,rfl,?_⟩
 have rv:Rp (Offs (λ_=>False) H3) (zcm c) v:=Rp.same (Same.trans s13 Same.of_offs) _ hv
 refine zox (λ_=>False) H3 _ _ _ _ (λb z=>z.elim) rv rv _ _ (zgp c).2.2 _ λu H4 s4 ru _=>?_
 cases zfh ru
 exact⟨false,rfl,iteF (q H4 (s13.trans s4))⟩
theorem znm{te:TE}{i:Nat}{u:TS}{D:Ends}{σ:St}{H:Hp}(h:te σ H λx H1=>u D (σ.set i (some x)) H1):tSeq (tAsg te (gName i)) u D σ H:=h
theorem zkw{K:qA}{ca cb cc:List Addr}{yB:Addr}{tA tB tC':TA}{tcomp:TE}(hA:SNx K tA ca)(hB:SNx K tB cb)(hC:SNx K tC' cc)(hc:SE tcomp zec)(T:XT K (ca++cb++cc) yB){a:Addr}{ns:List Int}{H:Hp}{Q:VK}{nx:St->Hp->Prop}
  (hS:SqL K H a (ns.map V.int))(k:∀H',Q (.bl true) H') :
  tSeq (tAsg (tCall (zni K) [] E0 (tCons (tVar 0) tNil)) (gName 1)) (tSeq (tAsg (tLst tA) (gName 2)) (tSeq (tAsg (tOp (zcw K) (tVar 2) (tLst tB)) (gName 2)) (tSeq (tAsg (tOp (zcw K) (tVar 2) (tLst tC')) (gName 2))
   (tSeq (tFor (iRng1 (tCons (tC (.int 19)) tNil)) (gName 3) (zpr K (ca++cb++cc++[yB]) yB tcomp)) (tSeq (tAsg (zhc K yB (tVar 1)) (gName 4))
   (tSeq (tIfS (tOr (zjk K (tCB (rAny K λbs=>bs.any id) (tCons (tOp (zcw K) (tCall (zdg (ca++cb++cc++[yB]) 0 10) [] E0 (tCons (tVar 4) tNil)) (tCall (zdg (ca++cb++cc++[yB]) 10 9) [] E0 (tCons (tVar 4) tNil))) tNil)))
     (tNot (zjk K (tCB (rIsS K (ca++cb++cc++[yB])) (tCons (tVar 4) (tCons (tC (.ty "ValueError")) tNil)))))) (tRet (tC (.bl false))) tNext)
    (tRet (tOp (rEQ K) (znc (ca++cb++cc++[yB]) (tVar 4)) (tVar 1))))))))) {nx:=nx,rt:=Q} [some (.ref a),none,none,none,none] H:=by
 refine Exists.intro (V.ref a) ⟨rfl,a,ns,rfl,hS,λv H1 s1 hv=>?_⟩
 generalize ns.headD 0=c at hv
 have hat:∀{H'},Same H1 H'->atH K H' v:=λs=>((zgp c).1 K H1 v hv).same s
 refine hA _ H1 v rfl (hat (Same.refl _)) _ λva H2 s2 pa=>⟨?_,λp hp=>?_⟩
 ·rw[<- zas pa,qY]
  have:=T.len
  simp only[qO]at this
  omega
 have s3:=Same.new (o:=.lst va) hp
 refine Exists.intro (V.ref p) ⟨rfl,hB _ _ v rfl (hat (s2.trans s3)) _ λvb H4 s4 pb=>⟨?_,λp2 hp2=>?_⟩⟩
 ·rw[<- zas pb,qY]
  have:=T.len
  simp only[qO]at this
  omega
 have s5:=Same.new (o:=.lst vb) hp2
 have hl1:va.length+vb.length<=qH:=by
  rw[<- zas pa,<- zas pb,qY]
  have:=T.len
  simp only[qO]at this
  omega
 refine .inl ⟨p,p2,va,vb,rfl,rfl,s5 _ _ (s4 _ _ zae),zae,hl1,λp3 hp3=>?_⟩
 have s6:=Same.new (o:=.lst (va++vb)) hp3
 refine Exists.intro (V.ref p3) ⟨rfl,hC _ _ v rfl (hat ((s2.trans s3).trans ((s4.trans s5).trans s6))) _ λvc H7 s7 pc=>⟨?_,λp4 hp4=>?_⟩⟩
 ·rw[<- zas pc,qY]
  have:=T.len
  simp only[qO]at this
  omega
 have s8:=Same.new (o:=.lst vc) hp4
 have hl2:(va++vb).length+vc.length<=qH:=by
  rw[qO,<- zas pa,<- zas pb,<- zas pc,qY]
  have:=T.len
  simp only[qO]at this
  omega
 refine .inl ⟨p3,p4,va++vb,vc,rfl,rfl,s8 _ _ (s7 _ _ zae),zae,hl2,λp5 hp5=>?_⟩
 have s9:=Same.new (o:=.lst (va++vb++vc)) hp5
 have s49:=s4.trans (s5.trans (s6.trans (s7.trans (s8.trans s9))))
 have s79:=s7.trans (s8.trans s9)
 have pe:Paired (XEat (upd (upd H7 p4 (.lst vc)) p5 (.lst (va++vb++vc))) v) (ca++cb++cc) (va++vb++vc):=
  zbz (zbz (L2.Paired.mapP pa λ_ _ z=>z.same (s3.trans s49)) (L2.Paired.mapP pb λ_ _ z=>z.same (s5.trans (s6.trans s79)))) (L2.Paired.mapP pc λ_ _ z=>z.same (s8.trans s9))
 have hv9:=Rp.same (s2.trans (s3.trans s49)) _ hv
 have hp9:upd (upd H7 p4 (.lst vc)) p5 (.lst (va++vb++vc)) p5=some (.lst (va++vb++vc)):=zae
 generalize upd (upd H7 p4 (.lst vc)) p5 (.lst (va++vb++vc))=H9 at pe hv9 hp9 ⊢
 generalize va++vb++vc=vs at pe hp9 ⊢
 generalize ca++cb++cc=cs at pe T ⊢
 refine⟨19,rfl,by decide,by decide,λi m σ' H'=>m=19 - i/\i<=19/\Same H9 H'/\∃s3,σ'=[some (.ref a),some v,some (.ref p5),s3,none],⟨19,rfl,qAQ _,Same.refl _,none,rfl⟩,?_⟩
 rintro i m σ' H' ⟨rfl,hi,sH,s3,rfl⟩
 by_cases hlt:i<19
 ·refine .inr ⟨hlt,λσ' H'=>i+1<=19/\Same H9 H'/\∃s3,σ'=[some (.ref a),some v,some (.ref p5),s3,none],?_,?_⟩
  ·rintro σ' H' ⟨h1,h2⟩
   exact⟨19 - (i+1),by omega,rfl,h1,h2⟩
  ·rintro x H'' ⟨rfl,rfl⟩
   exact znl hc T (Rp.same sH _ hv9) (sH _ _ hp9) (L2.Paired.mapP pe λ_ _ z=>z.same sH) hlt λH3 s3=>⟨hlt,sH.trans s3,_,rfl⟩
 ·have hi:i=19:=by omega
  subst hi
  refine .inl ⟨qG _,?_⟩
  refine znm (te:=zhc K yB (tVar 1)) ?_
  refine zlm (σ:=[some (.ref a),some v,some (.ref p5),s3,none]) rfl (((zgp c).1 K H9 v hv9).same sH) λx H1' s1' ex=>?_
  have hB':(cs++[yB])[19]?=some yB:=by rw[qa (by rw[T.len];exact qG _),T.len];rfl
  have mB:yB∈cs++[yB]:=qL _ (.head _)
  refine zjl hB' ex (λH' s Q h=>⟨_,rfl,h⟩) λq1 H2' s2' e2=>?_
  rw[zpp]at e2
  refine⟨q1,List.replicate 19 false,rfl,SqL.of e2,false,rfl,iteF ?_⟩
  refine zjm (C:=yB) mB (ex.same s2') (λQ h=>⟨_,rfl,h⟩) (.inr ⟨_,rfl,T.kV yB mB⟩) ?_
  refine iteF ?_
  refine Exists.intro x ⟨rfl,?_⟩
  obtain⟨e,dx,rfl,h1,h2⟩:=ex
  refine⟨yB,mB,e,dx,.none,v,rfl,s2' _ _ h1,s2' _ _ h2,v,rfl,?_⟩
  have rv:Rp (Offs (λ_=>False) H2') (zcm c) v:=Rp.same (Same.trans (sH.trans (s1'.trans s2')) Same.of_offs) _ hv9
  refine zow (λ_=>False) H2' _ _ _ _ (λb z=>z.elim) rv rv _ _ (zgp c).2.1 _ λu H4 s4 ru _=>?_
  cases zfh ru
  exact k H4
theorem zkx:bootBuiltins "any"=some (.builtin "any"):=by decide +kernel
theorem zaa:bootBuiltins "isinstance"=some (.builtin "isinstance"):=by decide +kernel
noncomputable def top(i:Nat):Stmt:=PySem.Challenge.pw_bestcalls_k98_each_refusal_of_one_class.main.body.getD i (.Pass ⟨0,0,0,0⟩)
structure Txt(mg:Str->Option Value):Prop where
 any:mg "any"=none
 isinstance:mg "isinstance"=none
 range:mg "range"=none
 ve:mg "ValueError"=none
noncomputable abbrev zcf:Stmt:=top 22
noncomputable abbrev zdc:List Str:=["_law_script","_law_cell","_law_number","_law_word"]
theorem zbd:zdc.Nodup:=by decide +kernel
theorem zew:FnScope zdc ["_law_script"] (zad zcf):=⟨rfl,rfl,rfl,zbd,rfl,by decide +kernel,by decide +kernel⟩
noncomputable abbrev zcg:Stmt:=top 23
noncomputable abbrev zdd:List Str:=["_law_error","_law_found"]
theorem zbu:zdd.Nodup:=by decide +kernel
theorem zex:FnScope zdd ["_law_error"] (zad zcg):=⟨rfl,rfl,rfl,zbu,rfl,by decide +kernel,by decide +kernel⟩
noncomputable abbrev zcq:Stmt:=top 24
noncomputable abbrev zdq:List Str:=["_law_error","_law_found"]
theorem zch:zdq.Nodup:=by decide +kernel
theorem zfw:FnScope zdq ["_law_error"] (zad zcq):=⟨rfl,rfl,rfl,zch,rfl,by decide +kernel,by decide +kernel⟩
noncomputable abbrev zhg:Stmt:=top 25
noncomputable abbrev zps:List Str:=["_law_script","_law_at","_law_made","_law_k","_law_plain"]
theorem zde:zps.Nodup:=by decide +kernel
theorem zpt:FnScope zps ["_law_script"] (zad zhg):=⟨rfl,rfl,rfl,zde,rfl,by decide +kernel,by decide +kernel⟩
theorem zjo:(["_law_j","_law_k"]:List Str).Nodup:=by decide +kernel
section
variable{P:Program}{w:World}{K:qA}{mg:Str->Option Value}{base:Heap}
structure XNw(P:Program)(w:World)(K:qA)(mg:Str->Option Value)(base:Heap)(x:Str)(C:Addr):Prop where
 ex:∃f fd,XMk K C f/\FnOk P w K mg base CX0 1 f fd ["self","at"] (spIH K C)/\zcr K fd ["self","at"] []
 mg:mg x=some (.ref C)
theorem zay{X:Cx}{x:Str}{C:Addr}{np cpos:Pos}{a:Expr}{te:TE}(N:XNw X.prog X.w X.K X.mg X.base x C)(hr:Room 2 X.A)(ha:Bx (PE X a te))(hg:Gl X x:=by rfl)(hdb:(x==("__debug__":Str))=false:=by decide)(he:starEach [a] X.env=[(false,eval a X.env)]:=by rfl) :
  Bx (PE X (.Call (.Name x np) [a] [] cpos) (zhc X.K C te)):=by
 obtain⟨f,fd,M,F,hb⟩:=N.ex
 exact⟨zpl M F hr hb hg N.mg ha.out hdb he⟩
theorem zey{f:Addr}{fd:qk}(F:Fun K "_law_value" "_law_value" zcf f fd)(T:Txt mg):FnOk P w K mg base CX0 1 f fd ["_law_script"] (zni K):=by
 refine F.ok zew (λvs H Q E h=>by obtain⟨a,ns,rfl,_⟩:=h;rfl) (λcdv A outer s H vs Q E hr h=>?_)
 obtain⟨a,ns,rfl,hS,k⟩:=h
 have hu:=zjz hr
 apply Exists.intro
 apply And.intro
 ·refine' Bx.out (zak (zda (i:=1) zbd rfl (Or.inl rfl) zat (by rfl) (.inl rfl))
 (zak (zgi (zdz (ziq (K:=K) rfl hr.units) (bv 0) (zbf zab) (zee _)) (zbj (zda (i:=1) zbd rfl (Or.inl rfl) (zgh (zel (K:=K) rfl) (bv 0) zat (λ_ _=>rfl)) (by rfl) (.inl rfl))) zct)
 (zak (zda (i:=2) zbd rfl (Or.inl rfl) (zaw zoc (zaw zgc (bv 1) (zaw zia zat (zaw zlb zat zat))) (zaw zlb zat zat)) (by rfl) (.inl rfl))
 (zak (zda (i:=3) zbd rfl (Or.inl rfl) (zaw zia (zgh (zel (K:=K) rfl) zmx (zaw zgc (bv 1) zat) (λ_ _=>rfl)) (zaw (zbi (K:=K) rfl) zat (zaw zgc (zaw zhm (bv 1) zat) zat))) (by rfl) (.inl rfl))
 (zbj (zcd (zgh (zel (K:=K) rfl) (zbf (zam ziw (zam (bv 3) (zam (bv 2) (zam (zfp (zam (bv 3) (zam ziw zab (by rfl)) (by rfl))) (zam (zfp (zam (bv 2) (zam (zfp (zam (bv 3) (zam (bv 3) zab (by rfl)) (by rfl))) (zam (zbf (zam (bv 2) zab (by rfl))) zab (by rfl)) (by rfl)) (by rfl))) zab (by rfl)) (by rfl)) (by rfl)) (by rfl)) (by rfl))) (zaw zgc (zaw zhm (bv 1) zat) zat) (λ_ _=>rfl))))))))
 exact zkv (zlh (zli (zcc zov (zcc zge (zbq 1) (zcc zlf (se_c λ_=>zaf) (zcc zle (se_c λ_=>zaf) (se_c λ_=>zaf)))) (zcc zle (se_c λ_=>zaf) (se_c λ_=>zaf)))) (zlh (zli (zcc zlf (zcc zoy (se_c λ_=>zck) (zcc zge (zbq 1) (se_c λ_=>zaf))) (zcc zou (se_c λ_=>zaf) (zcc zge (zcc zig (zbq 1) (se_c λ_=>zaf)) (se_c λ_=>zaf))))) (zoz (zcc zoy (zlg (zba (se_c λ_=>zdj) (zba (zbq 3) (zba (zbq 2) (zba (zij (zba (zbq 3) (zba (se_c λ_=>zdj) zdm))) (zba (zij (zba (zbq 2) (zba (zij (zba (zbq 3) (zba (zbq 3) zdm))) (zba (zlg (zba (zbq 2) zdm)) zdm)))) zdm)))))) (zcc zge (zcc zig (zbq 1) (se_c λ_=>zaf)) (se_c λ_=>zaf)))))) hS k
theorem zez{f:Addr}{fd:qk}{y0 y1 y2 y3 y4 y5 y6 y7 y8 y9 y10 y11 y12 y13 y14 y15 y16 y17 y18 y19:Addr}(F:Fun K "_law_first" "_law_first" zcg f fd)(T:Txt mg)(M:∀C∈[y0,y1,y2,y3,y4,y5,y6,y7,y8,y9,y10,y11,y12,y13,y14,y15,y16,y17,y18,y19],XOne K C)(kt:∀(i j:Nat) (C c:Addr),[y0,y1,y2,y3,y4,y5,y6,y7,y8,y9,y10,y11,y12,y13,y14,y15,y16,y17,y18,y19][i]?=some C->[y0,y1,y2,y3,y4,y5,y6,y7,y8,y9,y10,y11,y12,y13,y14,y15,y16,y17,y18][j]?=some c->PySem.W.kitOne K (.ref C) (.ref c)=some (i==j))(m0:mg "NoWeb"=some (.ref y0))(m1:mg "NoKind"=some (.ref y1))(m2:mg "NoBook"=some (.ref y2))(m3:mg "NoCall"=some (.ref y3))(m4:mg "NoRule"=some (.ref y4))(m5:mg "NoFit"=some (.ref y5))(m6:mg "Quarrel"=some (.ref y6))(m7:mg "NoProgram"=some (.ref y7))(m8:mg "NoDeed"=some (.ref y8))(m9:mg "TooDeep"=some (.ref y9))(m10:mg "TooLong"=some (.ref y10))(m11:mg "NoName"=some (.ref y11))(m12:mg "Taken"=some (.ref y12))(m13:mg "Full"=some (.ref y13))(m14:mg "Twice"=some (.ref y14))(m15:mg "NoStep"=some (.ref y15))(m16:mg "Needed"=some (.ref y16))(m17:mg "NoText"=some (.ref y17))(m18:mg "NoRow"=some (.ref y18))(m19:mg "CallError"=some (.ref y19)):FnOk P w K mg base CX0 1 f fd ["_law_error"] (zdg [y0,y1,y2,y3,y4,y5,y6,y7,y8,y9,y10,y11,y12,y13,y14,y15,y16,y17,y18,y19] 0 10):=by
 refine F.ok zex (λvs H Q E h=>by obtain⟨e,i,C,dx,tv,rfl,_⟩:=h;rfl) (λcdv A outer s H vs Q E hr h=>?_)
 obtain⟨e,i,C,dx,tv,rfl,hi,he,k⟩:=h
 obtain⟨⟨fx,hxm⟩,hxcl⟩:=M C (qi hi)
 have hu:=zjz hr
 apply Exists.intro
 apply And.intro
 ·refine' Bx.out (zak (bpsS (i:=1) zbu rfl (Or.inl rfl) (zbf (bpaC (bpeB (zag (K:=K) rfl hxm hxcl) T.isinstance zaa (bpaC (bv 0) (bpaC (zaj (by rfl) m0 (by decide)) zab))) (bpaC (bpeB (zag (K:=K) rfl hxm hxcl) T.isinstance zaa (bpaC (bv 0) (bpaC (zaj (by rfl) m1 (by decide)) zab))) (bpaC (bpeB (zag (K:=K) rfl hxm hxcl) T.isinstance zaa (bpaC (bv 0) (bpaC (zaj (by rfl) m2 (by decide)) zab))) (bpaC (bpeB (zag (K:=K) rfl hxm hxcl) T.isinstance zaa (bpaC (bv 0) (bpaC (zaj (by rfl) m3 (by decide)) zab))) zab)))))) (zak (bpsS (i:=1) zbu rfl (Or.inl rfl) (zaw (zbi (K:=K) rfl) (bv 1) (zbf (bpaC (bpeB (zag (K:=K) rfl hxm hxcl) T.isinstance zaa (bpaC (bv 0) (bpaC (zaj (by rfl) m4 (by decide)) zab))) (bpaC (bpeB (zag (K:=K) rfl hxm hxcl) T.isinstance zaa (bpaC (bv 0) (bpaC (zaj (by rfl) m5 (by decide)) zab))) (bpaC (bpeB (zag (K:=K) rfl hxm hxcl) T.isinstance zaa (bpaC (bv 0) (bpaC (zaj (by rfl) m6 (by decide)) zab))) zab)))))) (zbj (zcd (zaw (zbi (K:=K) rfl) (bv 1) (zbf (bpaC (bpeB (zag (K:=K) rfl hxm hxcl) T.isinstance zaa (bpaC (bv 0) (bpaC (zaj (by rfl) m7 (by decide)) zab))) (bpaC (bpeB (zag (K:=K) rfl hxm hxcl) T.isinstance zaa (bpaC (bv 0) (bpaC (zaj (by rfl) m8 (by decide)) zab))) (bpaC (bpeB (zag (K:=K) rfl hxm hxcl) T.isinstance zaa (bpaC (bv 0) (bpaC (zaj (by rfl) m9 (by decide)) zab))) zab)))))))))
 exact zgm (zap (kt i 0 C _ hi rfl) (zap (kt i 1 C _ hi rfl) (zap (kt i 2 C _ hi rfl) (zap (kt i 3 C _ hi rfl) zdp)))) (zap (kt i 4 C _ hi rfl) (zap (kt i 5 C _ hi rfl) (zap (kt i 6 C _ hi rfl) zdp))) (zap (kt i 7 C _ hi rfl) (zap (kt i 8 C _ hi rfl) (zap (kt i 9 C _ hi rfl) zdp))) (by simp only[qAG,qAo];decide) he k
theorem zfx{f:Addr}{fd:qk}{y0 y1 y2 y3 y4 y5 y6 y7 y8 y9 y10 y11 y12 y13 y14 y15 y16 y17 y18 y19:Addr}(F:Fun K "_law_rest" "_law_rest" zcq f fd)(T:Txt mg)(M:∀C∈[y0,y1,y2,y3,y4,y5,y6,y7,y8,y9,y10,y11,y12,y13,y14,y15,y16,y17,y18,y19],XOne K C)(kt:∀(i j:Nat) (C c:Addr),[y0,y1,y2,y3,y4,y5,y6,y7,y8,y9,y10,y11,y12,y13,y14,y15,y16,y17,y18,y19][i]?=some C->[y0,y1,y2,y3,y4,y5,y6,y7,y8,y9,y10,y11,y12,y13,y14,y15,y16,y17,y18][j]?=some c->PySem.W.kitOne K (.ref C) (.ref c)=some (i==j))(m0:mg "NoWeb"=some (.ref y0))(m1:mg "NoKind"=some (.ref y1))(m2:mg "NoBook"=some (.ref y2))(m3:mg "NoCall"=some (.ref y3))(m4:mg "NoRule"=some (.ref y4))(m5:mg "NoFit"=some (.ref y5))(m6:mg "Quarrel"=some (.ref y6))(m7:mg "NoProgram"=some (.ref y7))(m8:mg "NoDeed"=some (.ref y8))(m9:mg "TooDeep"=some (.ref y9))(m10:mg "TooLong"=some (.ref y10))(m11:mg "NoName"=some (.ref y11))(m12:mg "Taken"=some (.ref y12))(m13:mg "Full"=some (.ref y13))(m14:mg "Twice"=some (.ref y14))(m15:mg "NoStep"=some (.ref y15))(m16:mg "Needed"=some (.ref y16))(m17:mg "NoText"=some (.ref y17))(m18:mg "NoRow"=some (.ref y18))(m19:mg "CallError"=some (.ref y19)):FnOk P w K mg base CX0 1 f fd ["_law_error"] (zdg [y0,y1,y2,y3,y4,y5,y6,y7,y8,y9,y10,y11,y12,y13,y14,y15,y16,y17,y18,y19] 10 9):=by
 refine F.ok zfw (λvs H Q E h=>by obtain⟨e,i,C,dx,tv,rfl,_⟩:=h;rfl) (λcdv A outer s H vs Q E hr h=>?_)
 obtain⟨e,i,C,dx,tv,rfl,hi,he,k⟩:=h
 obtain⟨⟨fx,hxm⟩,hxcl⟩:=M C (qi hi)
 have hu:=zjz hr
 apply Exists.intro
 apply And.intro
 ·refine' Bx.out (zak (bpsS (i:=1) zch rfl (Or.inl rfl) (zbf (bpaC (bpeB (zag (K:=K) rfl hxm hxcl) T.isinstance zaa (bpaC (bv 0) (bpaC (zaj (by rfl) m10 (by decide)) zab))) (bpaC (bpeB (zag (K:=K) rfl hxm hxcl) T.isinstance zaa (bpaC (bv 0) (bpaC (zaj (by rfl) m11 (by decide)) zab))) (bpaC (bpeB (zag (K:=K) rfl hxm hxcl) T.isinstance zaa (bpaC (bv 0) (bpaC (zaj (by rfl) m12 (by decide)) zab))) (bpaC (bpeB (zag (K:=K) rfl hxm hxcl) T.isinstance zaa (bpaC (bv 0) (bpaC (zaj (by rfl) m13 (by decide)) zab))) zab)))))) (zak (bpsS (i:=1) zch rfl (Or.inl rfl) (zaw (zbi (K:=K) rfl) (bv 1) (zbf (bpaC (bpeB (zag (K:=K) rfl hxm hxcl) T.isinstance zaa (bpaC (bv 0) (bpaC (zaj (by rfl) m14 (by decide)) zab))) (bpaC (bpeB (zag (K:=K) rfl hxm hxcl) T.isinstance zaa (bpaC (bv 0) (bpaC (zaj (by rfl) m15 (by decide)) zab))) (bpaC (bpeB (zag (K:=K) rfl hxm hxcl) T.isinstance zaa (bpaC (bv 0) (bpaC (zaj (by rfl) m16 (by decide)) zab))) zab)))))) (zbj (zcd (zaw (zbi (K:=K) rfl) (bv 1) (zbf (bpaC (bpeB (zag (K:=K) rfl hxm hxcl) T.isinstance zaa (bpaC (bv 0) (bpaC (zaj (by rfl) m17 (by decide)) zab))) (bpaC (bpeB (zag (K:=K) rfl hxm hxcl) T.isinstance zaa (bpaC (bv 0) (bpaC (zaj (by rfl) m18 (by decide)) zab))) zab))))))))
 exact zgm (zap (kt i 10 C _ hi rfl) (zap (kt i 11 C _ hi rfl) (zap (kt i 12 C _ hi rfl) (zap (kt i 13 C _ hi rfl) zdp)))) (zap (kt i 14 C _ hi rfl) (zap (kt i 15 C _ hi rfl) (zap (kt i 16 C _ hi rfl) zdp))) (zap (kt i 17 C _ hi rfl) (zap (kt i 18 C _ hi rfl) zdp)) (by simp only[qAG,qAo];decide) he k
noncomputable def zky(K:qA):Sp:=λvs H Q _=>∃(a:Addr)(ns:List Int),vs=[.ref a]/\SqL K H a (ns.map V.int)/\∀H',Q (.bl true) H'
theorem zpu{f:Addr}{fd:qk}{y0 y1 y2 y3 y4 y5 y6 y7 y8 y9 y10 y11 y12 y13 y14 y15 y16 y17 y18 y19:Addr}(F:Fun K "law" "law" zhg f fd)(T:Txt mg)(M:∀C∈[y0,y1,y2,y3,y4,y5,y6,y7,y8,y9,y10,y11,y12,y13,y14,y15,y16,y17,y18,y19],XOne K C)(XTb:XT K [y0,y1,y2,y3,y4,y5,y6,y7,y8,y9,y10,y11,y12,y13,y14,y15,y16,y17,y18] y19)(N0:XNw P w K mg base "NoWeb" y0)(N1:XNw P w K mg base "NoKind" y1)(N2:XNw P w K mg base "NoBook" y2)(N3:XNw P w K mg base "NoCall" y3)(N4:XNw P w K mg base "NoRule" y4)(N5:XNw P w K mg base "NoFit" y5)(N6:XNw P w K mg base "Quarrel" y6)(N7:XNw P w K mg base "NoProgram" y7)(N8:XNw P w K mg base "NoDeed" y8)(N9:XNw P w K mg base "TooDeep" y9)(N10:XNw P w K mg base "TooLong" y10)(N11:XNw P w K mg base "NoName" y11)(N12:XNw P w K mg base "Taken" y12)(N13:XNw P w K mg base "Full" y13)(N14:XNw P w K mg base "Twice" y14)(N15:XNw P w K mg base "NoStep" y15)(N16:XNw P w K mg base "Needed" y16)(N17:XNw P w K mg base "NoText" y17)(N18:XNw P w K mg base "NoRow" y18)(N19:XNw P w K mg base "CallError" y19)(D_law_value:Dn P w K mg base "_law_value" ["_law_script"] 1 (zni K))(D_law_first:Dn P w K mg base "_law_first" ["_law_error"] 1 (zdg [y0,y1,y2,y3,y4,y5,y6,y7,y8,y9,y10,y11,y12,y13,y14,y15,y16,y17,y18,y19] 0 10))(D_law_rest:Dn P w K mg base "_law_rest" ["_law_error"] 1 (zdg [y0,y1,y2,y3,y4,y5,y6,y7,y8,y9,y10,y11,y12,y13,y14,y15,y16,y17,y18,y19] 10 9)) :
  FnOk P w K mg base CX0 4 f fd ["_law_script"] (zky K):=by
 refine F.ok zpt (λvs H Q E h=>by obtain⟨a,ns,rfl,_⟩:=h;rfl) (λcdv A outer s H vs Q E hr h=>?_)
 obtain⟨a,ns,rfl,hS,k⟩:=h
 have hu:=zjz hr
 have h2:=hr.mono (show 2<=3 by decide)
 have m19:=N19.mg
 apply Exists.intro
 apply And.intro
 ·refine' Bx.out (zak (bpsS (i:=1) zde rfl (Or.inl rfl) (bpeD D_law_value hr (bpaC (bv 0) zab)))
 (zak (bpsS (i:=2) zde rfl (Or.inl rfl) (zbf (bpaC (zay N0 h2 (bv 1)) (bpaC (zay N1 h2 (bv 1)) (bpaC (zay N2 h2 (bv 1)) (bpaC (zay N3 h2 (bv 1)) (bpaC (zay N4 h2 (bv 1)) (bpaC (zay N5 h2 (bv 1)) (bpaC (zay N6 h2 (bv 1)) (bpaC (zay N7 h2 (bv 1)) zab))))))))))
 (zak (bpsS (i:=2) zde rfl (Or.inl rfl) (zaw (zbi (K:=K) rfl) (bv 2) (zbf (bpaC (zay N8 h2 (bv 1)) (bpaC (zay N9 h2 (bv 1)) (bpaC (zay N10 h2 (bv 1)) (bpaC (zay N11 h2 (bv 1)) (bpaC (zay N12 h2 (bv 1)) (bpaC (zay N13 h2 (bv 1)) (bpaC (zay N14 h2 (bv 1)) (bpaC (zay N15 h2 (bv 1)) zab)))))))))))
 (zak (bpsS (i:=2) zde rfl (Or.inl rfl) (zaw (zbi (K:=K) rfl) (bv 2) (zbf (bpaC (zay N16 h2 (bv 1)) (bpaC (zay N17 h2 (bv 1)) (bpaC (zay N18 h2 (bv 1)) zab))))))
 (zak (zmw PassesOwn.never rfl (zdn rfl T.range (bpaC zat zab) (by rfl)) (bpgN (i:=3) zde rfl (Or.inr rfl))
  (zak (zgi (zdz (ziq (K:=K) rfl hr.units) (zaw (zbi (K:=K) rfl) (bpeD D_law_first hr (bpaC (bpeX (zel (K:=K) rfl) (bv 2) (bv 3)) zab)) (bpeD D_law_rest hr (bpaC (bpeX (zel (K:=K) rfl) (bv 2) (bv 3)) zab))) (ziv (zhz (N':=["_law_j","_law_k"]) (own:=["_law_j"]) (fr:=[3]) (by kernel_rfl)) rfl (zdn rfl T.range (bpaC zat zab) (by rfl)) ?hb1 (by intro _;rfl)) (zee _)) (zbj (zcd zis)) zct)
 (zbj (zgi (ziu (zfo (zby (K:=K) rfl (bpeB (zeb (K:=K) rfl M) T.isinstance zaa (bpaC (bpeX (zel (K:=K) rfl) (bv 2) (bv 3)) (bpaC (zaj (by rfl) m19 (by decide)) zab))) (λ_=>rfl))) (ziu (zfo (zby (K:=K) rfl (bpeB (zeb (K:=K) rfl M) T.isinstance zaa (bpaC (bpeX (zel (K:=K) rfl) (bv 2) (bv 3)) (bpaC (zgk (v:=.ty "ValueError") (by rfl) T.ve zbk rfl (by decide) (by decide)) zab))) (λ_=>rfl))) (zit (zdz (ziq (K:=K) rfl hr.units) (zgl (K:=K) rfl M (bpeX (zel (K:=K) rfl) (bv 2) (bv 3)) (by rfl)) (bv 1) (zee _))))).pt (zbj (zcd zis)) zct))) (by intro _;rfl))
 (zak (bpsS (i:=4) zde rfl (Or.inl rfl) (zay N19 h2 (bv 1)))
 (zak (zgi (ziu (zby (K:=K) rfl (bpeB (zib (K:=K) rfl rfl) T.any zkx (bpaC (zaw (zbi (K:=K) rfl) (bpeD D_law_first hr (bpaC (bv 4) zab)) (bpeD D_law_rest hr (bpaC (bv 4) zab))) zab)) (λ_=>rfl)) (zit (zfo (zby (K:=K) rfl (bpeB (zeb (K:=K) rfl M) T.isinstance zaa (bpaC (bv 4) (bpaC (zgk (v:=.ty "ValueError") (by rfl) T.ve zbk rfl (by decide) (by decide)) zab))) (λ_=>rfl))))).pt (zbj (zcd zis)) zct)
 (zbj (zcd (zgj (zlj (K:=K) rfl hr.units) (zgl (K:=K) rfl M (bv 4) (by rfl)) (bv 1) (zee _)))))))))))
  case hb1=>(intro cl C s H fp;refine'⟨Bx.out (bpgN (i:=0) zjo rfl (Or.inl rfl)),Bx.out zmy,Bx.out (zgj (zlj (K:=K) rfl hr.units) (bv 0) (bv 1) (zee _))⟩)
 exact zkw (ca:=[y0,y1,y2,y3,y4,y5,y6,y7]) (cb:=[y8,y9,y10,y11,y12,y13,y14,y15]) (cc:=[y16,y17,y18]) (zao (zao (zao (zao (zao (zao (zao (zao zjb)))))))) (zao (zao (zao (zao (zao (zao (zao (zao zjb)))))))) (zao (zao (zao zjb))) (zmv (zil (zba (se_c λ_=>zaf) zdm)) zmr (zmt (by decide)) zpb (zcc zow (zbq 0) (zbq 1))) XTb hS k
end
noncomputable def rowB(K:qA)(C:Addr)(i:Nat):Nat->List Addr->Bool
 | _,[]=>true
 | j,c::cs=>(match PySem.W.subIn K (.ref C) (.ref c)with|some b=>b==(i==j)|none=>false)&&rowB K C i (j+1) cs
noncomputable def tabB(K:qA)(cs:List Addr):Nat->List Addr->Bool
 | _,[]=>true
 | i,C::Cs=>rowB K C i 0 cs&&tabB K cs (i+1) Cs
theorem zjp{K:qA}{C:Addr}{i:Nat}:∀{cs:List Addr}{j0:Nat},rowB K C i j0 cs=true->∀{j:Nat}{c:Addr},cs[j]?=some c->PySem.W.subIn K (.ref C) (.ref c)=some (i==j0+j)
 | [],_,_,j,c,e=>by cases e
 | d::cs,j0,h,j,c,e=>by
  unfold rowB at h
  rw[qW]at h
  cases j with
  | zero=>
   cases e
   have h1:=h.1
   split at h1
   ·rename_i b eb;rw[eb,beq_iff_eq.mp h1];rfl
   ·cases h1
  | succ j=>
   have:=zjp h.2 (j:=j) (c:=c) e
   rw[this,show j0+1+j=j0+(j+1) by omega]
theorem zjq{K:qA}{cs:List Addr}:∀{Cs:List Addr}{i0:Nat},tabB K cs i0 Cs=true->∀{i j:Nat}{C c:Addr},Cs[i]?=some C->cs[j]?=some c->PySem.W.subIn K (.ref C) (.ref c)=some (i0+i==j)
 | [],_,_,i,j,C,c,e,_=>by cases e
 | D::Cs,i0,h,i,j,C,c,e,e2=>by
  unfold tabB at h
  rw[qW]at h
  cases i with
  | zero=>cases e;have:=zjp h.1 e2;rw[this,Nat.zero_add];rfl
  | succ i=>
   have:=zjq h.2 (i:=i) (C:=C) e e2
   rw[this,show i0+1+i=i0+(i+1) by omega]
noncomputable def allB(K:qA)(y:Addr):List Addr->Bool
 | []=>true
 | C::Cs=>(match PySem.W.subIn K (.ref C) (.ref y)with|some b=>b|none=>false)&&allB K y Cs
theorem zjr{K:qA}{y:Addr}:∀{Cs:List Addr},allB K y Cs=true->∀C∈Cs,PySem.W.subIn K (.ref C) (.ref y)=some true
 | [],_,C,h=>by cases h
 | D::Cs,h,C,hC=>by
  unfold allB at h
  rw[qW]at h
  rcases qg.mp hC with rfl|hC
  ·have h1:=h.1
   split at h1
   ·rename_i b eb;rw[eb,h1]
   ·cases h1
  ·exact zjr h.2 C hC
theorem zac{α:Type}{p:α->Prop}{x:α}{xs:List α}(h:p x)(k:∀y∈xs,p y):∀y∈x::xs,p y:=λy hy=>by
 rcases qg.mp hy with rfl|hy
 ·exact h
 ·exact k y hy
theorem zkz{α:Type}{p:α->Prop}:∀y∈([]:List α),p y:=λy hy=>by cases hy
theorem all_mk{l:PySem.W.OpenLaw}{w:World}{K:qA}{h:Heap}{mg:Str->Option Value}{fa f1 f2 f3 f4:Addr}{e1 e2 e3 e4:qk}(X:K.In h)(G:h.Ns qV mg)(hfa:mg "law"=some (.ref fa))
  (d1:DefIn K "_law_value" zcf f1 e1)
  (d2:DefIn K "_law_first" zcg f2 e2)
  (d3:DefIn K "_law_rest" zcq f3 e3)
  (d4:DefIn K "law" zhg f4 e4)
  {y0 y1 y2 y3 y4 y5 y6 y7 y8 y9 y10 y11 y12 y13 y14 y15 y16 y17 y18 y19 fI:Addr}{eI:qk}
  (xa0:ClsIn K "NoWeb" y0)
  (xa1:ClsIn K "NoKind" y1)
  (xa2:ClsIn K "NoBook" y2)
  (xa3:ClsIn K "NoCall" y3)
  (xa4:ClsIn K "NoRule" y4)
  (xa5:ClsIn K "NoFit" y5)
  (xa6:ClsIn K "Quarrel" y6)
  (xa7:ClsIn K "NoProgram" y7)
  (xa8:ClsIn K "NoDeed" y8)
  (xa9:ClsIn K "TooDeep" y9)
  (xa10:ClsIn K "TooLong" y10)
  (xa11:ClsIn K "NoName" y11)
  (xa12:ClsIn K "Taken" y12)
  (xa13:ClsIn K "Full" y13)
  (xa14:ClsIn K "Twice" y14)
  (xa15:ClsIn K "NoStep" y15)
  (xa16:ClsIn K "Needed" y16)
  (xa17:ClsIn K "NoText" y17)
  (xa18:ClsIn K "NoRow" y18)
  (xa19:ClsIn K "CallError" y19)
  (x0:XIn K y0 fI)
  (x1:XIn K y1 fI)
  (x2:XIn K y2 fI)
  (x3:XIn K y3 fI)
  (x4:XIn K y4 fI)
  (x5:XIn K y5 fI)
  (x6:XIn K y6 fI)
  (x7:XIn K y7 fI)
  (x8:XIn K y8 fI)
  (x9:XIn K y9 fI)
  (x10:XIn K y10 fI)
  (x11:XIn K y11 fI)
  (x12:XIn K y12 fI)
  (x13:XIn K y13 fI)
  (x14:XIn K y14 fI)
  (x15:XIn K y15 fI)
  (x16:XIn K y16 fI)
  (x17:XIn K y17 fI)
  (x18:XIn K y18 fI)
  (x19:XIn K y19 fI)
  (xF:Fun K "__init__" "CallError.__init__" (zmg (top 1) 0) fI eI)
  (tb:tabB K [y0,y1,y2,y3,y4,y5,y6,y7,y8,y9,y10,y11,y12,y13,y14,y15,y16,y17,y18] 0 [y0,y1,y2,y3,y4,y5,y6,y7,y8,y9,y10,y11,y12,y13,y14,y15,y16,y17,y18,y19]=true)(ta:allB K y19 [y0,y1,y2,y3,y4,y5,y6,y7,y8,y9,y10,y11,y12,y13,y14,y15,y16,y17,y18]=true)
  (z1:qAF K qV "any"=some none)(z2:qAF K qV "isinstance"=some none)(z3:qAF K qV "range"=some none)(z4:qAF K qV "ValueError"=some none) :
  ∃fd:qk,(∀(s:Shared)(v:Value),BindsTo s fd ⟨[v],[]⟩ [("_law_script",v)])/\∀base:Heap,K.In base->base.Ns qV mg->FnOk l.prog w K mg base CX0 4 fa fd ["_law_script"] (zky K):=by
 have e:=hfa.symm.trans (qJ X G d4.ns)
 cases e
 have T:Txt mg:=⟨qAM X G z1,qAM X G z2,qAM X G z3,qAM X G z4⟩
 obtain⟨_,_,q1,q2,q3,q4,q5,q6,_,rfl,_,_⟩:=d4.fn.ex
 refine⟨qr "law" "law" (zbn zhg) (zbe zhg) (zad zhg) .none q1 q2 q3 q4 q5 q6,λs v=>.of_eq rfl,λbase _ _=>?_⟩
 have bI:zcr K eI ["self","at"] []:=xF.binds (ps:=["self","at"]) (λ_ _ _ _ _ _ us hl=>match us,hl with|[_,_],_=>rfl)
 have M:∀C∈[y0,y1,y2,y3,y4,y5,y6,y7,y8,y9,y10,y11,y12,y13,y14,y15,y16,y17,y18,y19],XOne K C:=(zac ⟨⟨fI,x0.mx⟩,x0.cl⟩ (zac ⟨⟨fI,x1.mx⟩,x1.cl⟩ (zac ⟨⟨fI,x2.mx⟩,x2.cl⟩ (zac ⟨⟨fI,x3.mx⟩,x3.cl⟩ (zac ⟨⟨fI,x4.mx⟩,x4.cl⟩ (zac ⟨⟨fI,x5.mx⟩,x5.cl⟩ (zac ⟨⟨fI,x6.mx⟩,x6.cl⟩ (zac ⟨⟨fI,x7.mx⟩,x7.cl⟩ (zac ⟨⟨fI,x8.mx⟩,x8.cl⟩ (zac ⟨⟨fI,x9.mx⟩,x9.cl⟩ (zac ⟨⟨fI,x10.mx⟩,x10.cl⟩ (zac ⟨⟨fI,x11.mx⟩,x11.cl⟩ (zac ⟨⟨fI,x12.mx⟩,x12.cl⟩ (zac ⟨⟨fI,x13.mx⟩,x13.cl⟩ (zac ⟨⟨fI,x14.mx⟩,x14.cl⟩ (zac ⟨⟨fI,x15.mx⟩,x15.cl⟩ (zac ⟨⟨fI,x16.mx⟩,x16.cl⟩ (zac ⟨⟨fI,x17.mx⟩,x17.cl⟩ (zac ⟨⟨fI,x18.mx⟩,x18.cl⟩ (zac ⟨⟨fI,x19.mx⟩,x19.cl⟩ zkz))))))))))))))))))))
 have cl:∀c∈[y0,y1,y2,y3,y4,y5,y6,y7,y8,y9,y10,y11,y12,y13,y14,y15,y16,y17,y18,y19],PySem.W.isClsIn K c=true/\PySem.W.typeIn K (.ref c)=some (.type "type"):=(zac ⟨xa0.cl,xa0.ty⟩ (zac ⟨xa1.cl,xa1.ty⟩ (zac ⟨xa2.cl,xa2.ty⟩ (zac ⟨xa3.cl,xa3.ty⟩ (zac ⟨xa4.cl,xa4.ty⟩ (zac ⟨xa5.cl,xa5.ty⟩ (zac ⟨xa6.cl,xa6.ty⟩ (zac ⟨xa7.cl,xa7.ty⟩ (zac ⟨xa8.cl,xa8.ty⟩ (zac ⟨xa9.cl,xa9.ty⟩ (zac ⟨xa10.cl,xa10.ty⟩ (zac ⟨xa11.cl,xa11.ty⟩ (zac ⟨xa12.cl,xa12.ty⟩ (zac ⟨xa13.cl,xa13.ty⟩ (zac ⟨xa14.cl,xa14.ty⟩ (zac ⟨xa15.cl,xa15.ty⟩ (zac ⟨xa16.cl,xa16.ty⟩ (zac ⟨xa17.cl,xa17.ty⟩ (zac ⟨xa18.cl,xa18.ty⟩ (zac ⟨xa19.cl,xa19.ty⟩ zkz))))))))))))))))))))
 have se:∀C∈[y0,y1,y2,y3,y4,y5,y6,y7,y8,y9,y10,y11,y12,y13,y14,y15,y16,y17,y18,y19],PySem.W.subIn K (.ref C) (.ref C)=some true:=(zac x0.se (zac x1.se (zac x2.se (zac x3.se (zac x4.se (zac x5.se (zac x6.se (zac x7.se (zac x8.se (zac x9.se (zac x10.se (zac x11.se (zac x12.se (zac x13.se (zac x14.se (zac x15.se (zac x16.se (zac x17.se (zac x18.se (zac x19.se zkz))))))))))))))))))))
 have kt:∀(i j:Nat)(C c:Addr),[y0,y1,y2,y3,y4,y5,y6,y7,y8,y9,y10,y11,y12,y13,y14,y15,y16,y17,y18,y19][i]?=some C->[y0,y1,y2,y3,y4,y5,y6,y7,y8,y9,y10,y11,y12,y13,y14,y15,y16,y17,y18][j]?=some c->PySem.W.kitOne K (.ref C) (.ref c)=some (i==j):=λi j C c hi hj=>by
  have t:=zjq tb hi hj
  rw[Nat.zero_add]at t
  have hc:=cl c (qy [y19] (qi hj))
  cases b:(i==j)with
  | true=>exact zll hc.1 hc.2 (by rw[t,b])
  | false=>exact zpj (se C (qi hi)) hc.1 hc.2 (by rw[t,b])
 have XTb:XT K [y0,y1,y2,y3,y4,y5,y6,y7,y8,y9,y10,y11,y12,y13,y14,y15,y16,y17,y18] y19:=⟨rfl,λC hC=>zll xa19.cl xa19.ty (zjr ta C hC),(zac (zax x0.ve) (zac (zax x1.ve) (zac (zax x2.ve) (zac (zax x3.ve) (zac (zax x4.ve) (zac (zax x5.ve) (zac (zax x6.ve) (zac (zax x7.ve) (zac (zax x8.ve) (zac (zax x9.ve) (zac (zax x10.ve) (zac (zax x11.ve) (zac (zax x12.ve) (zac (zax x13.ve) (zac (zax x14.ve) (zac (zax x15.ve) (zac (zax x16.ve) (zac (zax x17.ve) (zac (zax x18.ve) (zac (zax x19.ve) zkz))))))))))))))))))))⟩
 have N0:XNw l.prog w K mg base "NoWeb" y0:=⟨⟨fI,eI,x0.mx,zai xF x0.mx T.ve rfl rfl (by decide) (λ_=>⟨_,rfl⟩),bI⟩,qJ X G xa0.ns⟩
 have N1:XNw l.prog w K mg base "NoKind" y1:=⟨⟨fI,eI,x1.mx,zai xF x1.mx T.ve rfl rfl (by decide) (λ_=>⟨_,rfl⟩),bI⟩,qJ X G xa1.ns⟩
 have N2:XNw l.prog w K mg base "NoBook" y2:=⟨⟨fI,eI,x2.mx,zai xF x2.mx T.ve rfl rfl (by decide) (λ_=>⟨_,rfl⟩),bI⟩,qJ X G xa2.ns⟩
 have N3:XNw l.prog w K mg base "NoCall" y3:=⟨⟨fI,eI,x3.mx,zai xF x3.mx T.ve rfl rfl (by decide) (λ_=>⟨_,rfl⟩),bI⟩,qJ X G xa3.ns⟩
 have N4:XNw l.prog w K mg base "NoRule" y4:=⟨⟨fI,eI,x4.mx,zai xF x4.mx T.ve rfl rfl (by decide) (λ_=>⟨_,rfl⟩),bI⟩,qJ X G xa4.ns⟩
 have N5:XNw l.prog w K mg base "NoFit" y5:=⟨⟨fI,eI,x5.mx,zai xF x5.mx T.ve rfl rfl (by decide) (λ_=>⟨_,rfl⟩),bI⟩,qJ X G xa5.ns⟩
 have N6:XNw l.prog w K mg base "Quarrel" y6:=⟨⟨fI,eI,x6.mx,zai xF x6.mx T.ve rfl rfl (by decide) (λ_=>⟨_,rfl⟩),bI⟩,qJ X G xa6.ns⟩
 have N7:XNw l.prog w K mg base "NoProgram" y7:=⟨⟨fI,eI,x7.mx,zai xF x7.mx T.ve rfl rfl (by decide) (λ_=>⟨_,rfl⟩),bI⟩,qJ X G xa7.ns⟩
 have N8:XNw l.prog w K mg base "NoDeed" y8:=⟨⟨fI,eI,x8.mx,zai xF x8.mx T.ve rfl rfl (by decide) (λ_=>⟨_,rfl⟩),bI⟩,qJ X G xa8.ns⟩
 have N9:XNw l.prog w K mg base "TooDeep" y9:=⟨⟨fI,eI,x9.mx,zai xF x9.mx T.ve rfl rfl (by decide) (λ_=>⟨_,rfl⟩),bI⟩,qJ X G xa9.ns⟩
 have N10:XNw l.prog w K mg base "TooLong" y10:=⟨⟨fI,eI,x10.mx,zai xF x10.mx T.ve rfl rfl (by decide) (λ_=>⟨_,rfl⟩),bI⟩,qJ X G xa10.ns⟩
 have N11:XNw l.prog w K mg base "NoName" y11:=⟨⟨fI,eI,x11.mx,zai xF x11.mx T.ve rfl rfl (by decide) (λ_=>⟨_,rfl⟩),bI⟩,qJ X G xa11.ns⟩
 have N12:XNw l.prog w K mg base "Taken" y12:=⟨⟨fI,eI,x12.mx,zai xF x12.mx T.ve rfl rfl (by decide) (λ_=>⟨_,rfl⟩),bI⟩,qJ X G xa12.ns⟩
 have N13:XNw l.prog w K mg base "Full" y13:=⟨⟨fI,eI,x13.mx,zai xF x13.mx T.ve rfl rfl (by decide) (λ_=>⟨_,rfl⟩),bI⟩,qJ X G xa13.ns⟩
 have N14:XNw l.prog w K mg base "Twice" y14:=⟨⟨fI,eI,x14.mx,zai xF x14.mx T.ve rfl rfl (by decide) (λ_=>⟨_,rfl⟩),bI⟩,qJ X G xa14.ns⟩
 have N15:XNw l.prog w K mg base "NoStep" y15:=⟨⟨fI,eI,x15.mx,zai xF x15.mx T.ve rfl rfl (by decide) (λ_=>⟨_,rfl⟩),bI⟩,qJ X G xa15.ns⟩
 have N16:XNw l.prog w K mg base "Needed" y16:=⟨⟨fI,eI,x16.mx,zai xF x16.mx T.ve rfl rfl (by decide) (λ_=>⟨_,rfl⟩),bI⟩,qJ X G xa16.ns⟩
 have N17:XNw l.prog w K mg base "NoText" y17:=⟨⟨fI,eI,x17.mx,zai xF x17.mx T.ve rfl rfl (by decide) (λ_=>⟨_,rfl⟩),bI⟩,qJ X G xa17.ns⟩
 have N18:XNw l.prog w K mg base "NoRow" y18:=⟨⟨fI,eI,x18.mx,zai xF x18.mx T.ve rfl rfl (by decide) (λ_=>⟨_,rfl⟩),bI⟩,qJ X G xa18.ns⟩
 have N19:XNw l.prog w K mg base "CallError" y19:=⟨⟨fI,eI,x19.mx,zai xF x19.mx T.ve rfl rfl (by decide) (λ_=>⟨_,rfl⟩),bI⟩,qJ X G xa19.ns⟩
 have D1:=d1.dn (P:=l.prog) (w:=w) (base:=base) X G (zey d1.fn T) (d1.b1 λ_ _ _ _ _ _ _=>rfl)
 have D2:=d2.dn (P:=l.prog) (w:=w) (base:=base) X G (zez d2.fn T M kt N0.mg N1.mg N2.mg N3.mg N4.mg N5.mg N6.mg N7.mg N8.mg N9.mg N10.mg N11.mg N12.mg N13.mg N14.mg N15.mg N16.mg N17.mg N18.mg N19.mg) (d2.b1 λ_ _ _ _ _ _ _=>rfl)
 have D3:=d3.dn (P:=l.prog) (w:=w) (base:=base) X G (zfx d3.fn T M kt N0.mg N1.mg N2.mg N3.mg N4.mg N5.mg N6.mg N7.mg N8.mg N9.mg N10.mg N11.mg N12.mg N13.mg N14.mg N15.mg N16.mg N17.mg N18.mg N19.mg) (d3.b1 λ_ _ _ _ _ _ _=>rfl)
 exact zpu d4.fn T M XTb N0 N1 N2 N3 N4 N5 N6 N7 N8 N9 N10 N11 N12 N13 N14 N15 N16 N17 N18 N19 D1 D2 D3
theorem walk{l:PySem.W.OpenLaw}{q:Program}{loose:List Str}{XP:(Str->Option Value)->Heap->Prop}{YP:World->Heap->Prop}{d:DefRec}{K:Params->qA}(hn:l.most=some 63)(hdf:d.params.defaults=[])
  (hY:∀(w:World) (h:Heap),YP w h->(K w.params).In h)
  (F:∀(w:World)(mg:Str->Option Value)(fa:Addr)(h:Heap),(K w.params).In h->h.Ns qV mg->mg d.name=some (.ref fa)->
   ∃fd:qk,(∀(s:Shared)(u:Value),BindsTo s fd ⟨[u],[]⟩ [("_law_script",u)])/\∀base:Heap,(K w.params).In base->base.Ns qV mg->FnOk l.prog w (K w.params) mg base CX0 4 fa fd ["_law_script"] (zky (K w.params))) :
  PySem.W.WalkO q loose XP YP l.row.toRowW d [] (λf vs=>PySem.call f vs):=
 L2.walk_of (n:=63) (k:=4) (x:="_law_script") (CX:=λ_=>CX0) (sp:=λw=>zky (K w.params)) hn (by decide) hdf ⟨rfl,by decide,by decide,rfl⟩ hY F (λ_ _ a ns hl _ hS=>⟨a,ns,rfl,hS,λ_=>rfl⟩) λ_ _ _ _ _ z=>z
end Bc
theorem PySem.W.Fast.tw6171466419564127575:True:=trivial
theorem PySem.W.Fast.tw1034832261217144482:True:=trivial
theorem PySem.W.Fast.tw1352337369704332726:True:=trivial
theorem PySem.W.Fast.tw13861573162156035016:True:=trivial
theorem PySem.W.Fast.tw4641404292816447415:True:=trivial
theorem PySem.W.Fast.tw2232797449645460942:True:=trivial
theorem PySem.W.Fast.tw1678929012826084959:True:=trivial
theorem PySem.W.Fast.tw2472831915366507739:True:=trivial
theorem PySem.W.Fast.tw13330615860114484880:True:=trivial
theorem PySem.W.Fast.tw13326047299621019647:True:=trivial
theorem PySem.W.Fast.tw16616065001587902115:True:=trivial
theorem PySem.W.Fast.tw16320237634378293659:True:=trivial
theorem PySem.W.Fast.tw8596218816537833996:True:=trivial
theorem PySem.W.Fast.tw3928709073725433583:True:=trivial
theorem PySem.W.Fast.tw3987124233308574608:True:=trivial
theorem PySem.W.Fast.tw13919752687632388197:True:=trivial
theorem PySem.W.Fast.tw6743789661567393813:True:=trivial
theorem PySem.W.Fast.tw11992707332298237272:True:=trivial
open PySem PySem.W PyProof.Rows
set_option maxRecDepth 100000 in
set_option maxHeartbeats 0 in
theorem PySem.Challenge.cw_bestcalls_k98_each_refusal_of_one_class_holds : PySem.Challenge.rw_bestcalls_k98_each_refusal_of_one_class.Holds := by
 w_on;o_law;k_head;(case hw=>w_witness2)
 k_fill
 refine Bc.walk (l:=PySem.Challenge.rw_bestcalls_k98_each_refusal_of_one_class) rfl rfl (λw h Y=>PySem.W.kIn_of Y) ?F
 case F=>
  intro w mg fa h KX G hmg
  refine' Bc.all_mk KX G hmg ?_ ?_ ?_ ?_ ?_ ?_ ?_ ?_ ?_ ?_ ?_ ?_ ?_ ?_ ?_ ?_ ?_ ?_ ?_ ?_ ?_ ?_ ?_ ?_ ?_ ?_ ?_ ?_ ?_ ?_ ?_ ?_ ?_ ?_ ?_ ?_ ?_ ?_ ?_ ?_ ?_ ?_ ?_ ?_ ?_ ?tb ?ta ?_ ?_ ?_ ?_
  any_goals (first|refine' L2.def_mk ?_ ?_ ?_ ?_|refine' L2.cls_mk ?_ ?_ ?_|refine' L2.xin_mk ?_ ?_ ?_ ?_ ?_ ?_ ?_ ?_ ?_ ?_ ?_ ?_ ?_|refine' L2.init_mk ?_ ?_ ?_)
  any_goals (try k_is)
  (case tb=>kernel_rfl)
  (case ta=>kernel_rfl)
  all_goals rfl
