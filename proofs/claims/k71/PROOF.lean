import PyProof.Rows.All
import KE.KRevSl
import KE.KFromBytes
import KE.KIntText
import KE.KRevIter
import KE.KSortTup
import KE.KTryMore
import PySem.Challenge.RW_askedpairs_k71_worth_together
open PySem renaming Value->Qd,Addr->Qe,Shared->Qf,PyData->Qg,Expr->Qh,wpAny_bind->Qi,wpAny->Qj,World->Qk,model->Ql,Heap->Qm,Program->Qn,Stmt->Qo,wpAny_pure->Qp,starEach->Qq,Around->Qr,eval->Qs,sizeLine->Qv,wpAny_mono->Qw,Scope->Qx,backTo->QH,FuncData->QJ,cellsFrom->QM,mainGlobals->QS,again->QT,IsPair->QZ,codeAny->Rh,foldedSetIterable->Rl,sizeLine_eq->Rm,binaryOp->Rz,assign->RD,pyNext->RE,Keyword->RG,NameKind->RH,wpAny_standAt->RL,wpAny_field->RO,standAt->RQ,assignEach->RW,bootBuiltins->Sb,wpAny_newObj_type->Sd,rawInt->Se,Builtin->Sk,holding->Sn,swapsWith->So,Fin->Sy,sysModules->SB,compareOp->SD,wpAny_loadPart'->SH,wpAny_holding->SL,letOwnedTupleGo->SM,getItem->SN,wpAny_rule->Ta,wpAny_call_entry->Td,compTurn->Te,behindInMarks->Tj,call_meets->Tq,wpAny_seqItems->Tr,wpAny_passesOwn->Tz,wpAny_callSpecial?_slot->TB,sliceBounds->TF,attributeBase->TH,keywordEach->TJ,wpAny_setField_rec->Ua,wpAny_execs_cons->Uk,swapsWithSole->Ul,swappedStores->Um,wpAny_pyIter_tuple->Uo,codeAny_mono->Uq,wpAny_Call_Name_kw->Ur,mem_of_lookup->Us,wpAny_typeOf->Uu,typeIs_int->Uv,codeAny_loop->Uz,codeAny_builtin->UA,wpAny_loadPart_at->UH,wpAny_execs_nil->UN,importedModules->Vp,wpAny_updateSeq_pair->VC,wpAny_comprehension_free->VM
open List renaming replicate->Qu,length_map->Qz,map_cons->QB,getElem?_map->QD,map_map->QE,nil_append->QI,mem_append_right->QL,size_toArray->QN,Nodup->QO,getElem?_set_ne->QQ,getElem?_eq_getElem->QR,mem_cons->QV,length_cons->Rk,all_eq_true->Rp,not_mem_nil->Rq,getElem?_set_self->Rt,map_nil->Rw,append_nil->RF,mem_append->RK,length_append->RN,range->RV,length_set->RY,flatten_cons->Si,mem_cons_of_mem->Sm,getElem?_append_left->Sr,cons_append->Su,ext_getElem?->Sx,lookup_cons->SG,filter_eq_self->SJ,append_assoc->SQ,map_congr_left->SV,find?_cons->SW,mem_cons_self->SY,nodup_cons->Tc,getD_eq_getElem?_getD->Tf,getElem?_of_mem->Tg,replicate_succ->Tp,mem_map->Tu,mem_filter->Tv,toArray->TL,map_append->TM,filterMap_cons->TQ,foldl->TV,drop_eq_getElem_cons->Ub,drop_eq_nil_of_le->Uc,nodup_append->Ud,mem_range->Uj,lookup->Uy,any_eq_false->UC,sum_cons->UE,lookup_append->UG,getElem?_eq_none->UI,mem_flatten->UK,mem_append_left->UL,length_take->UP,getElem?_append_right->UQ,getElem?_cons_succ->Vc,findIdx?_eq_none_iff->Vd,getElem_mem->Ve,getElem?_modify->Vf,mem_of_mem_take->Vn,mem_or_eq_of_mem_set->Vo,mem_filterMap->Vr,getElem?_replicate->Vu,length_replicate->Vv,take_of_length_le->VA,mem_singleton->VG,map_inj_right->VH,length_pos_iff->VO,set_cons_succ->VP,set_cons_zero->VQ,findIdx?_eq_some_iff_getElem->VV
open Int renaming gcd->Qy,mul_assoc->QX,mul_pos->Rx,mul_comm->RI,toNat_natCast->Sg,zero_lt_one->SA,zero_add->Th,le_of_lt->Ug,dvd_refl->UF,natAbs_mul->UV,fdiv_mul_cancel->UW,eq_of_mul_eq_mul_right->Vg,natAbs_dvd_natAbs->Vh,mul_nonneg->Vi,emod_nonneg->Vk,emod_lt_of_pos->Vm,mul_le_mul_of_nonneg_right->VL,lt_of_lt_of_le->VN
open PySem.Heap renaming lt_size->QA,get?_push_of_some->QG,get?_push_size->Rf,size_push->Sl,SameBut->SZ
open Option renaming bind_some->QC,map_some->RP,getD_some->Ux,isSome_iff_exists->Vt
open PyProof.Rows renaming envOfC->QF,kindOf->RX,AllBare->SC,slot_tuple_getitem->TC,boot_isinstance->Ui,callWith_type1->UO
open Ne renaming symm->QK
open Nat renaming le_trans->QP,ne_of_lt->Rg,lt_of_lt_of_le->Rr,le_refl->RJ,zero_le->Ss,lt_irrefl->SK,zero_add->Ti,le_of_lt->Tx,Coprime->Ue,lt_trans->Uw,le_add_right->UJ,lt_of_le_of_lt->Vy,pow_le_pow_right->Vz
open Bool renaming and_eq_true->QU,false_ne_true->RM,and_self->TZ,false_eq_true->UX
open PySem.Builtin.Range renaming rangeSize->QW,small->SX
open Option.some renaming inj->QY,injEq->Tw
open PySem.PassesOwn renaming never->Re
open PySem.Str renaming ofString->Rj,empty->Tb
open PySem.PyData renaming depth->Ro,canLay0->RB,strOk->RC,depthAll->RT,eqv->RU,canLayAll0->RZ,shownAll->SF,showableAll->TX,eqvAll->UD
open PySem.SeqAt renaming shaped->Ru,canLay_of_shaped->Vb
open False renaming elim->Ry
open PySem.NameKind renaming free->RS,cell->TK
open PySem.W renaming kitOne->Sa,fnOf->Sf,nsIn->Sj,mg_of->SE,keepIn->Tn,hideAll->TN,isStarred->TY,excIn->Uh,findIn->Up,codeIn->Ut,methodObj->Vq,callWith_K->Vs
open PySem.Obj renaming mapSeq->SO
open ForInStep renaming yield->SR
open PySem.Builtin.SmallTypes renaming nextOf->SU,ownedTupleIsFree->UZ,ownedTupleHandOut->VU
open PySem.Builtin.Tuple renaming tupleExact->To,tupleTooMany->VF,tupleItemsOf->VT
open And renaming intro->Ts
open PySem.Challenge renaming pw_askedpairs_k71_worth_together->Tt,rw_askedpairs_k71_worth_together->VR
open PySem.F renaming slot_tuple_mul->UB,slot_list_append->US,slot_int_rmul->UT,slot_tuple_iterator_next->UY,slot_zip_next->Va,slot_enumerate_next->VD,plainAttrs_list->VI,type_list_append->VJ
open Array renaming length_toList->UM
open PySem.Builtin.Slice renaming slicePlaces->UR,sliceAdjust->Vw,sliceApplied->VS
open PySem.Value renaming builtin->Vj
open PySem.Builtin.List renaming listTooLong->Vx,listExtendWith->VB
open PySem.AutoSeq1 renaming idx_int->VE
set_option Elab.async false
set_option linter.all false
set_option maxRecDepth 100000
noncomputable section
local macro_rules|`(∅)=>`(by rfl)
local macro_rules|`(⋯)=>`(by decide)
local macro_rules|`(↥0)=>`(by lia)|`(↥1)=>`(by simp)|`(↥2)=>`(by decide+kernel)|`(↥3)=>`(Or.inl rfl)|`(↥4)=>`(λ_ _=>rfl)|`(↥5)=>`(by intro _;rfl)|`(↥6)=>`(by kernel_rfl)|`(↥7)=>`(by simp;lia)|`(↥8)=>`(RJ _)
local macro_rules|`(⇑0)=>`(PySem.W.Frag)
local macro_rules|`(↑$x)=>`(($x).heap.objs.size)
namespace L2
open PySem PySem.Spec PyProof.Rows
theorem P8{α:Type _}{β:Type _}{o:Option α}{f:α->Option β}{b:β}(h:o.bind f=some b):∃a,o=some a/\f a=some b:=Option.bind_eq_some_iff.mp h
theorem P9{α:Type _}{β:Type _}{o:Option α}{f:α->β}{b:β}(h:o.map f=some b):∃a,o=some a/\f a=b:=Option.map_eq_some_iff.mp h
theorem P_{α:Type _}{l:List α}{i:Nat}{a:α}(h:l[i]?=some a):∃w:i<l.length,l[i]=a:=List.getElem?_eq_some_iff.mp h
theorem P'{α:Type _}{a:α}{s t:List α}(h:a∈s++t):a∈s\/a∈t:=RK.mp h
theorem Qa{α:Type _}{β:Type _}{b:β}{f:α->β}{l:List α}(h:b∈l.map f):∃a,a∈l/\f a=b:=Tu.mp h
theorem Qb{α:Type _}{a b:α}{l:List α}(h:a∈b::l):a=b\/a∈l:=QV.mp h
theorem Qc{α:Type _}{l:List α}{i:Nat}{a:α}(h:l[i]?=some a):a∈l:=List.mem_of_getElem? h
abbrev gS:=Sum Int Str
def qI:gS->Qd->Bool|.inl k,v=>Value.isInt k v|.inr x,v=>Value.isStrOf x v
def LP(w:Qk):gS->Int|.inl k=>hashInt k|.inr x=>hashStr w x
theorem bX:∀{k:gS}{v:Qd},qI k v=true->(∃i t,k=Sum.inl i/\v=Value.int i t)\/(∃x t,k=Sum.inr x/\v=Value.str x t)|.inl i,v,h=>by obtain⟨t,e⟩:=Value.isInt_shape (k:=i) (v:=v) h;exact .inl ⟨i,t,rfl,e⟩|.inr x,v,h=>by obtain⟨t,e⟩:=Value.isStrOf_shape (x:=x) (v:=v) h;exact .inr ⟨x,t,rfl,e⟩
theorem AQ(i:Int)(t:Tok):qI (.inl i) (.int i t)=true:=by simp[qI,Value.isInt]
theorem AR(x:Str)(t:Tok):qI (.inr x) (.str x t)=true:=by simp[qI,Value.isStrOf]
theorem HY(a b:Int):decide ((Sum.inl a:gS)=Sum.inl b)=(a==b):=by
 by_cases e:a=b;·subst e;simp
 ·have h:¬(Sum.inl a:gS)=Sum.inl b:=λq=>e (Sum.inl.inj q);rw[decide_eq_false h];exact(beq_eq_false_iff_ne.mpr e).symm
theorem Ia(a b:Str):decide ((Sum.inr a:gS)=Sum.inr b)=decide (a=b):=by
 by_cases e:a=b;·subst e;simp
 ·have h:¬(Sum.inr a:gS)=Sum.inr b:=λq=>e (Sum.inr.inj q);rw[decide_eq_false h,decide_eq_false e]
theorem HZ(a:Int)(b:Str):decide ((Sum.inl a:gS)=Sum.inr b)=false:=decide_eq_false (λq=>nomatch q)
theorem H_(a:Str)(b:Int):decide ((Sum.inr a:gS)=Sum.inl b)=false:=decide_eq_false (λq=>nomatch q)
def dO(prog:Qn)(w:Qk):PySem.KeyKind prog w gS where
 is:=qI;hash:=LP w;inj:=λv a b ha hb=>by
  rcases bX ha with⟨i,t,rfl,rfl⟩|⟨x,t,rfl,rfl⟩
  ·rcases bX hb with⟨j,u,rfl,e⟩|⟨y,u,rfl,e⟩;·injection e with e1 _;rw[e1]
   ·exact nomatch e
  ·rcases bX hb with⟨j,u,rfl,e⟩|⟨y,u,rfl,e⟩;·exact nomatch e
   ·injection e with e1 _;rw[e1]
 byValue:=λk v h=>by rcases bX h with⟨i,t,rfl,rfl⟩|⟨x,t,rfl,rfl⟩<;>rfl
 pyHash:=λhv h=>by
  rcases bX hv with⟨i,t,rfl,rfl⟩|⟨x,t,rfl,rfl⟩;·exact wpAny_pyHash_int h
  ·exact wpAny_pyHash_str h
 eqBool:=λhu hv h=>by
  rcases bX hu with⟨i,t,rfl,rfl⟩|⟨x,t,rfl,rfl⟩
  ·rcases bX hv with⟨j,u,rfl,rfl⟩|⟨y,u,rfl,rfl⟩;·rw[HY]at h;exact wpAny_eqBool_int h
   ·rw[HZ]at h;exact SeqAt.EqAt.int_str i t y u _ _ _ _ h
  ·rcases bX hv with⟨j,u,rfl,rfl⟩|⟨y,u,rfl,rfl⟩;·rw[H_]at h;exact SeqAt.EqAt.str_int x t j u _ _ _ _ h
   ·rw[Ia]at h;exact wpAny_eqBool_str h
 «strs»:=λk x t v h=>by
  rcases bX h with⟨i,u,rfl,e⟩|⟨y,u,rfl,e⟩;·exact nomatch e
  ·injection e with e1 _;subst e1;cases v<;>rfl
theorem wO(prog:Qn)(w:Qk)(i:Int)(t:Tok):(dO prog w).is (.inl i) (.int i t)=true:=AQ i t
theorem wQ(prog:Qn)(w:Qk)(x:Str)(t:Tok):(dO prog w).is (.inr x) (.str x t)=true:=AR x t
inductive V where|non|bl (b:Bool)|int (i:Int)|str (x:Str)|byt (b:Array UInt8)|flt (b:UInt64)|ref (a:Qe)|ty (n:String)deriving DecidableEq
def bC:V->Qd->Prop|.non,u=>u=Value.none|.bl b,u=>u=Value.bool b|.int i,u=>∃t,u=Value.int i t|.str x,u=>∃t,u=Value.str x t|.byt b,u=>∃t,u=Value.bytes b t|.flt b,u=>∃t,u=Value.float b t|.ref a,u=>u=Value.ref a|.ty n,u=>u=Value.type n
abbrev a':List V->List Qd->Prop:=Paired bC
theorem a'.length{xs:List V}{us:List Qd}(r:a' xs us):xs.length=us.length:=Paired.length r
theorem a'.get:∀{xs:List V}{us:List Qd}{i:Nat}{x:V},a' xs us->xs[i]?=some x->∃u,us[i]?=some u/\bC x u|_,_,_,_,.nil,e=>by simp at e|_,_,0,_,.cons r _,e=>by simp at e;subst e;exact⟨_,rfl,r⟩|_,_,i+1,x,.cons _ t,e=>by obtain⟨u,h1,h2⟩:=a'.get (i:=i) (x:=x) t (by simpa using e);exact⟨u,by simpa using h1,h2⟩
theorem a'.set{x:V}{u:Qd}(r:bC x u):∀{xs:List V}{us:List Qd}(i:Nat),a' xs us->a' (xs.set i x) (us.set i u)|_,_,_,.nil=>.nil|_,_,0,.cons _ t=>.cons r t|_,_,i+1,.cons q t=>.cons q (a'.set r i t)
theorem a'.append:∀{xs ys:List V}{us ws:List Qd},a' xs us->a' ys ws->a' (xs++ys) (us++ws)|_,_,_,_,.nil,s=>s|_,_,_,_,.cons r t,s=>.cons r (a'.append t s)
theorem a'.take:∀{xs:List V}{us:List Qd}(n:Nat),a' xs us->a' (xs.take n) (us.take n)|_,_,0,_=>.nil|_,_,_+1,.nil=>.nil|_,_,n+1,.cons r t=>.cons r (a'.take n t)
theorem a'.drop:∀{xs:List V}{us:List Qd}(n:Nat),a' xs us->a' (xs.drop n) (us.drop n)|_,_,0,r=>r|_,_,_+1,.nil=>.nil|_,_,n+1,.cons _ t=>a'.drop n t
def vL:Option V->Option Qd->Prop|some v,some u=>bC v u|none,none=>True|_,_=>False
def KV{κ:Type}:List (κ×V)->List (κ×Qd)->Prop:=Paired fun(p:κ×V) (q:κ×Qd)=>p.1=q.1/\bC p.2 q.2
def kV:gS->V|.inl i=>.int i|.inr x=>.str x
inductive HO where/--a list -/|lst (xs:List V)/--a tuple (never changes) -/|tup (xs:List V)/--a dict whose keys are ints and texts; one whose keys are tuples of ints and texts (the empty one is both) -/|dK (kvs:List (gS×V))|dT (kvs:List (List gS×V))/--a set of ints: its members, its size -/|set (S:Int->Bool) (n:Nat)/--an instance of the class at C, its dict at dx, its attributes -/|ins (C dx:Qe) (fs:List (Str×V))/--the dict of the instance at x -/|own (x:Qe)/--the dict of an exception -/|xd (fs:List (Str×V))/--a bound method, f of x -/|met (f x:Qe)/--a range object lo, lo + 1, .. below hi -/|rng (lo hi:Int)/--a thing that is known to the object (the script; a dict while a loop walks it): read, never written while it is so -/|frz (o:Obj) (u:HO)/--a code object's table -/|tbl (ps:Array Qd)/--any other thing, by what is true of its one object (a def of one's own: SetO a S n := HO.ext fun h => ..) -/|ext (φ:Qm->Prop)
abbrev Hp:=Qe->Option HO
def bz(H:Hp)(a:Qe)(o:HO):Hp:=λb=>if b=a then some o else H b
theorem aw{H:Hp}{a:Qe}{o:HO}:bz H a o a=some o:=by unfold bz;rw[if_pos rfl]
theorem aA{H:Hp}{a b:Qe}{o:HO}(h:b≠a):bz H a o b=H b:=by unfold bz;rw[if_neg h]
theorem fN{H:Hp}{a b:Qe}{o:HO}(h:H a=some o)(h':H b=none):a≠b:=by intro e;subst e;rw[h]at h';cases h'
def p_(h:Qm)(a:Qe)(items:Array Qd):Prop:=∃o,h.get? a=some o/\o.cls=.type "tuple"/\∃n,o.data=.seq items n/\o.dict=none
theorem p_.tup{h:Qm}{a:Qe}{items:Array Qd}(x:p_ h a items):IsTup h a items:=let⟨o,ho,hc,n,hd,_⟩:=x;⟨o,ho,hc,n,hd⟩
theorem p_.new(h:Qm)(items:Array Qd):p_ (h.push {cls:=.type "tuple",data:=.seq items}) h.objs.size items:=⟨_,Rf _ rfl,rfl,_,rfl,rfl⟩
section
variable(P:Qn)(w:Qk)
def dg(H:Hp)(h:Qm)(a:Qe):HO->Prop|.lst xs=>xs.length<=Qv/\∃(its:List Qd) (n:Nat),a' xs its/\h.get? a=some {cls:=.type "list",data:=.seq its.toArray n}|.tup xs=>xs.length<=Qv/\∃its:List Qd,a' xs its/\p_ h a its.toArray|.dK kvs=>kvs.length<=Qv/\(a==SB)=false/\∃vs,KV kvs vs/\h.DictOf (dO P w) a vs|.dT kvs=>kvs.length<=Qv/\(a==SB)=false/\∃xs:List (List gS×Qe×Qd),Paired (fun(p:List gS×V) (q:List gS×Qe×Qd)=>p.1=q.1/\H q.2.1=some (.tup (p.1.map kV))/\bC p.2 q.2.2) kvs xs/\∃o es ep,h.get? a=some o/\o.ExactDict/\o.data=.dict es ep/\es.toList=xs.map (entryOfKey (tupleKind (dO P w)))/\(xs.map (·.1)).Nodup|.set S n=>h.SetOf (intKind P w) a S n|.ins C dx fs=>H dx=some (.own a)/\fs.length<=1000/\dx≠a/\h.get? a=some (PySem.W.instObj C dx)/\∃mA,h.Ns1 dx mA/\(∀f,vL (fs.lookup f) (mA f))/\PySem.Within mA (fs.map (·.1))|.own _=>∃o,h.get? a=some o|.xd fs=>∃mA,h.Ns1 a mA/\∀f,vL (fs.lookup f) (mA f)|.rng lo hi=>∃t u v,h.get? a=some {cls:=.type "range",data:=.fields #[.int lo t,.int hi u,.int 1 v]}|.frz o u=>h.get? a=some o/\dg H h a u|.tbl ps=>h.get? a=some {cls:=.none,data:=.fields ps}|.met f x=>h.get? a=some (Vq (.ref f) (.ref x))|.ext φ=>φ h/\(∃o,h.get? a=some o)/\∀h1 h2:Qm,φ h1->(∀o,h1.get? a=some o->h2.get? a=some o)->φ h2
def mC(H:Hp)(h:Qm):Prop:=∀a o,H a=some o->dg P w H h a o
end
section
variable{P:Qn}{w:Qk}{H H':Hp}{h h':Qm}{a:Qe}{o:HO}
theorem dg.lt(x:dg P w H h a o):a<h.objs.size:=by cases o with|lst xs=>obtain⟨_,_,_,_,e⟩:=x;exact QA e|tup xs=>obtain⟨_,_,_,p⟩:=x;exact p.tup.lt|dK kvs=>obtain⟨_,_,_,_,o,_,_,e,_⟩:=x;exact QA e|dT kvs=>obtain⟨_,_,_,_,o,_,_,e,_⟩:=x;exact QA e|set S n=>obtain⟨o,_,_,_,e,_⟩:=x;exact QA e|ins C dx fs=>obtain⟨_,_,_,e,_⟩:=x;exact QA e|own y=>obtain⟨_,e⟩:=x;exact QA e|xd fs=>obtain⟨_,⟨_,_,_,e,_⟩,_⟩:=x;exact QA e|rng lo hi=>obtain⟨_,_,_,e⟩:=x;exact QA e|frz ob u=>obtain⟨e,_⟩:=x;exact QA e|tbl ps=>exact QA (show h.get? a=some _ from x)|met f y=>exact QA (show h.get? a=some _ from x)|ext φ=>obtain⟨_,⟨_,e⟩,_⟩:=x;exact QA e
theorem Paired.mapP{α β:Type}{F G:α->β->Prop}:∀{l₁:List α}{l₂:List β},Paired F l₁ l₂->(∀a b,F a b->G a b)->Paired G l₁ l₂|_,_,.nil,_=>.nil|_,_,.cons r t,f=>.cons (f _ _ r) (Paired.mapP t f)
theorem dg.stay(x:dg P w H h a o)(k:∀b u,(b=a\/H b=some (.own a))->h.get? b=some u->h'.get? b=some u)(ho:∀b,H b=some (.own a)->H' b=some (.own a))(ht:∀b xs,H b=some (.tup xs)->H' b=some (.tup xs)):dg P w H' h' a o:=by induction o with|lst xs=>obtain⟨z,its,n,r,e⟩:=x;exact⟨z,its,n,r,k _ _ (.inl rfl) e⟩|tup xs=>obtain⟨z,its,r,ob,e,c⟩:=x;exact⟨z,its,r,ob,k _ _ (.inl rfl) e,c⟩|dK kvs=>obtain⟨z,y,vs,r,ob,es,ep,e,c⟩:=x;exact⟨z,y,vs,r,ob,es,ep,k _ _ (.inl rfl) e,c⟩|dT kvs=>obtain⟨z,y,xs,r,ob,es,ep,e,c⟩:=x;exact⟨z,y,xs,Paired.mapP r λp q z=>⟨z.1,ht _ _ z.2.1,z.2.2⟩,ob,es,ep,k _ _ (.inl rfl) e,c⟩|set S n=>obtain⟨ob,es,ep,t,e,c⟩:=x;exact⟨ob,es,ep,t,k _ _ (.inl rfl) e,c⟩|ins C dx fs=>obtain⟨d,z,ne,e,mA,⟨od,es,ep,e2,c⟩,r⟩:=x;exact⟨ho _ d,z,ne,k _ _ (.inl rfl) e,mA,⟨od,es,ep,k _ _ (.inr d) e2,c⟩,r⟩|own y=>obtain⟨ob,e⟩:=x;exact⟨ob,k _ _ (.inl rfl) e⟩|xd fs=>obtain⟨mA,⟨od,es,ep,e,c⟩,r⟩:=x;exact⟨mA,⟨od,es,ep,k _ _ (.inl rfl) e,c⟩,r⟩|rng lo hi=>obtain⟨t,u,v,e⟩:=x;exact⟨t,u,v,k _ _ (.inl rfl) e⟩|frz ob u ih=>obtain⟨e,q⟩:=x;exact⟨k _ _ (.inl rfl) e,ih q⟩|tbl ps=>have e:h.get? a=some {cls:=.none,data:=.fields ps}:=x;show h'.get? a=some {cls:=.none,data:=.fields ps};exact k a _ (.inl rfl) e|met f y=>have e:h.get? a=some (Vq (.ref f) (.ref y)):=x;show h'.get? a=some (Vq (.ref f) (.ref y));exact k a _ (.inl rfl) e|ext φ=>obtain⟨p,⟨o,e⟩,st⟩:=x;exact⟨st _ _ p λo q=>k _ _ (.inl rfl) q,⟨o,k _ _ (.inl rfl) e⟩,st⟩
theorem mC.lt(x:mC P w H h)(e:H a=some o):a<h.objs.size:=(x a o e).lt
theorem mC.fresh(x:mC P w H h)(e:h.objs.size<=a):H a=none:=by cases q:H a with|none=>rfl|some u=>exact absurd (Rr (x.lt q) e) (SK _)
theorem mC.kept(x:mC P w H h)(k:∀b u,h.get? b=some u->h'.get? b=some u):mC P w H h':=λa o e=>(x a o e).stay (λb u _ q=>k b u q) (λ_ q=>q) λ_ _ q=>q
theorem mC.laid(x:mC P w H h)(k:∀b u,h.get? b=some u->h'.get? b=some u)(hp:h.objs.size<=a)(new:dg P w (bz H a o) h' a o):mC P w (bz H a o) h':=λb u e=>by
 have hn:=x.fresh hp;by_cases hb:b=a;·subst hb;rw[aw]at e;cases e;exact new
 ·rw[aA hb]at e;exact(x b u e).stay (λc v _ q=>k c v q) (λc q=>by rw[aA (fN q hn)];exact q) λc xs q=>by rw[aA (fN q hn)];exact q
end
def Rd(H:Hp)(a:Qe)(u:HO):Prop:=H a=some u\/∃o,H a=some (.frz o u)
theorem Rd.ok{P:Qn}{w:Qk}{H:Hp}{h:Qm}{a:Qe}{u:HO}(r:Rd H a u)(x:mC P w H h):dg P w H h a u:=by
 rcases r with r|⟨o,r⟩;·exact x a u r
 ·obtain⟨_,q⟩:=x a _ r;exact q
def JK:Option HO->Prop|some (.lst _)=>True|some (.dK _)=>True|some (.dT _)=>True|some (.set _ _)=>True|some (.ins _ _ _)=>True|some (.ext _)=>True|_=>False
section
variable{P:Qn}{w:Qk}{H:Hp}{h h':Qm}{x e:Qe}{o':HO}
theorem mC.write(ok:mC P w H h)(mu:JK (H x))(he:e=x\/H e=some (.own x))(k:∀b u,b≠e->h.get? b=some u->h'.get? b=some u)(heo:∃u,h'.get? e=some u)(new:dg P w (bz H x o') h' x o'):mC P w (bz H x o') h':=λb u q=>by
 have nown:∀c y,H c=some (.own y)->c≠x:=λc y r z=>by subst z;rw[r]at mu;exact mu
 have ntup:∀c xs,H c=some (.tup xs)->c≠x:=λc xs r z=>by subst z;rw[r]at mu;exact mu
 by_cases hb:b=x;·subst hb;rw[aw]at q;cases q;exact new
 ·rw[aA hb]at q;by_cases hbe:b=e
  ·have q':H b=some (.own x):=by
    rcases he with z|z;·exact absurd (hbe.trans z) hb
    ·rw[hbe];exact z
   rw[q]at q';cases q';obtain⟨v,hv⟩:=heo;exact⟨v,by rw[hbe];exact hv⟩
  ·refine(ok b u q).stay (λc v hc r=>k c v ?_ r) (λc r=>by rw[aA (nown c b r)];exact r) λc xs r=>by rw[aA (ntup c xs r)];exact r
   rcases hc with rfl|hc;·exact hbe
   ·rintro rfl;rcases he with z|z;·exact nown c b hc z
    ·rw[hc]at z;cases z;exact hb rfl
end
structure Un (fs ex:List Qe) (H H':Hp) (h h':Qm):Prop where
 keep:∀b o,h.get? b=some o->H b=none->b∉fs->b∉ex->h'.get? b=some o
 slot:∀b o,h.get? b=some o->H b=none->b∈fs->b∉ex->∃sl,h'.get? b=some {o with slots:=sl}free:∀b o,h.get? b=some o->H b=none->b∉ex->H' b=none
 there:∀b o,h.get? b=some o->b∉ex->∃o',h'.get? b=some o'
 tups:∀b xs,H b=some (.tup xs)->H' b=some (.tup xs)frzs:∀b o u,H b=some (.frz o u)->H' b=some (.frz o u)tbls:∀b ps,H b=some (.tbl ps)->∃more,H' b=some (.tbl (ps++more))
section
variable{fs fs' ex ex':List Qe}{H H1 H2:Hp}{h h1 h2 h':Qm}{a x e:Qe}{o:HO}
theorem Un.any(u:Un fs ex H H1 h h1){b:Qe}{ob:Obj}(q:h.get? b=some ob)(n:H b=none)(hx:b∉ex):∃sl,h1.get? b=some {ob with slots:=sl}:=by
 by_cases hb:b∈fs;·exact u.slot b ob q n hb hx
 ·exact⟨ob.slots,u.keep b ob q n hb hx⟩
theorem Un.kept(k:∀b u,h.get? b=some u->h'.get? b=some u):Un fs ex H H h h':=⟨λb ob q _ _ _=>k b ob q,λb ob q _ _ _=>⟨ob.slots,k b ob q⟩,λ_ _ _ n _=>n,λb ob q _=>⟨ob,k b ob q⟩,λ_ _ q=>q,λ_ _ _ q=>q,λ_ ps q=>⟨#[],by rw[q];simp⟩⟩
theorem Un.refl:Un fs ex H H h h:=Un.kept λ_ _ q=>q
theorem Un.laid(k:∀b u,h.get? b=some u->h'.get? b=some u)(hp:h.objs.size<=a)(hn:H a=none):Un fs ex H (bz H a o) h h' where
 keep:=λb u q _ _ _=>k b u q;slot:=λb u q _ _ _=>⟨u.slots,k b u q⟩;free:=λb u q n _=>by rw[aA (Rg (Rr (QA q) hp))];exact n
 there:=λb u q _=>⟨u,k b u q⟩;tups:=λb xs q=>by rw[aA (fN q hn)];exact q
 frzs:=λb u xs q=>by rw[aA (fN q hn)];exact q
 tbls:=λb ps q=>⟨#[],by rw[aA (fN q hn),q];simp⟩
theorem Un.write(mu:JK (H x))(he:e=x\/H e=some (.own x))(k:∀b u,b≠e->h.get? b=some u->h'.get? b=some u)(heo:∃u,h'.get? e=some u):Un fs ex H (bz H x o) h h':=by
 have hx:∀b,H b=none->b≠x:=λb n z=>by subst z;rw[n]at mu;exact mu
 have hb:∀b,H b=none->b≠e:=λb n z=>by
  subst z;rcases he with r|r;·exact hx b n r
  ·rw[n]at r;cases r
 have hm:∀b u,H b=some u->¬JK (some u)->b≠x:=λb u q nm z=>by subst z;rw[q]at mu;exact nm mu
 refine⟨λb u q n _ _=>k b u (hb b n) q,λb u q n _ _=>⟨u.slots,k b u (hb b n) q⟩,λb u q n _=>by rw[aA (hx b n)];exact n,λb u q _=>?_,λb xs q=>by rw[aA (hm b _ q λz=>z)];exact q,λb u xs q=>by rw[aA (hm b _ q λz=>z)];exact q,λb ps q=>⟨#[],by rw[aA (hm b _ q λz=>z),q];simp⟩⟩;by_cases hbe:b=e;·subst hbe;exact heo
 ·exact⟨u,k b u hbe q⟩
end
def Lh(h:Qm)(H:Hp):List Qe:=(RV h.objs.size).filter λa=>(H a).isSome
def uQ(h:Qm)(H:Hp):Qm:=TN h (Lh h H)
theorem AK(h:Qm)(H:Hp):(uQ h H).objs.size=h.objs.size:=PySem.W.hideAll_size _ _
theorem Ck{h:Qm}{H:Hp}{b:Qe}{o:Obj}(e:h.get? b=some o)(n:H b=none):(uQ h H).get? b=some o:=PySem.W.hideAll_get _ e λhm=>by have q:(H b).isSome=true:=(Tv.mp hm).2;rw[n]at q;simp at q
theorem Fq{h:Qm}{H:Hp}{b:Qe}{o:Obj}(e:(uQ h H).get? b=some o):h.get? b=some o/\H b=none:=by have e':h.get? b=some o:=PySem.W.of_hideAll (Lh h H) e;refine⟨e',?_⟩;cases q:H b with|none=>rfl|some x=>have hm:b∈Lh h H:=Tv.mpr ⟨Uj.mpr (QA e'),by simp[q]⟩;have z:(uQ h H).get? b=none:=PySem.W.hideAll_none (Lh h H) hm;rw[z]at e;cases e
def ut(g h:Qm)(L:Qe):List (Qe×Obj):=(RV h.objs.size).filterMap λa=>if a=L\/(g.get? a).isSome=true then none else(h.get? a).map λo=>(a,o)
theorem qY{g h:Qm}{L:Qe}{p:Qe×Obj}(hp:p∈ut g h L):p.1≠L/\g.get? p.1=none/\h.get? p.1=some p.2:=by
 obtain⟨b,_,e⟩:=Vr.mp hp;split at e;·cases e
 ·rename_i hn;cases q:h.get? b with|none=>rw[q]at e;simp at e|some u=>rw[q]at e;simp only[RP,Tw]at e;subst e;refine⟨λz=>hn (.inl z),?_,q⟩;show g.get? b=none;cases r:g.get? b with|none=>rfl|some v=>exact(hn (.inr (by simp[r]))).elim
def ic(g h:Qm)(L d:Qe):List (Qe×Obj):=(ut g h L).filter λp=>decide (p.1≠d)
theorem CN{g h:Qm}{L:Qe}:News g L h (ut g h L):=λp hp=>let⟨a,b,c⟩:=qY hp;⟨c,a,b⟩
structure Mod (K:⇑0) (mg:Str->Option Qd) (base:Qm):Prop where
 kin:K.In base
 glob:base.Ns QS mg
 blt:∃mb,base.Ns builtinsNs mb/\∀x:Str,x≠"__name__"->mb x=Sb x
 nolimit:base.NoLimit
structure Cx where
 prog:Qn
 w:Qk
 K:⇑0
 mg:Str->Option Qd
 base:Qm
 A:Qr
 N:List Str
 s₀:Qf
 H₀:Hp
 env:Env
 outer:List Env
 stack:List Env
 ex:List Qe
 fn:Str->Bool
 calm:Bool
 pn:List (Qe×Obj)xe:Qd->Qf->Prop
def jA(l:List Env):List Qe:=l.filterMap (·.frame)
abbrev Cx.fs(X:Cx):List Qe:=jA X.outer
def Bw(sc:Qx)(x:Str):Prop:=sc.names.lookup x=some .local\/sc.names.lookup x=some .cell\/sc.names.lookup x=some .free
def Hz(sc:Qx)(x:Str):Prop:=sc.names.lookup x=some .local\/sc.names.lookup x=some .cell
def Lp(env:Env)(h:Qm)(m:Str->Option Qd)(x:Str)(u:Qd):Prop:=(env.kindOf x=some .local/\m x=some u)\/((env.kindOf x=some .cell\/env.kindOf x=some .free)/\∃c,env.cells.lookup x=some c/\h.IsCell c (some u))
structure Cx.Ok (X:Cx):Prop where
 mod:Mod X.K X.mg X.base
 kind:X.env.scope.kind=.function
 glob:X.env.globals=QS
 blt:X.env.builtins=builtinsNs
 above:X.s₀.heap.objs.size<=X.env.locals
 inj:∀x y c,X.env.cells.lookup x=some c->X.env.cells.lookup y=some c->x=y
 has:∀x,(X.env.kindOf x=some .cell\/X.env.kindOf x=some .free)->∃c,X.env.cells.lookup x=some c
 cab:∀x c,X.fn x=true->X.env.cells.lookup x=some c->X.s₀.heap.objs.size<=c
 hd:X.calm=true->X.A.handled=none
 frames:X.A.frames=some X.stack
 stk:X.stack=X.outer\/(X.stack=X.env::X.outer/\X.env.frame=some X.env.locals)exf:∀b∈X.ex,b≠X.env.locals/\∀x c,X.env.cells.lookup x=some c->c≠b
 bs:∀b o,X.base.get? b=some o->X.s₀.heap.get? b=some o/\X.H₀ b=none
 bsz:X.base.objs.size<=X.s₀.heap.objs.size
 noex:∀b o,X.base.get? b=some o->b∉X.ex
 exfs:∀b∈X.ex,b∉X.fs
 funs:X.s₀.heap.FunFrames X.base X.outer
 frf:∀b∈X.fs,X.H₀ b=none
structure aJ (X:Cx) (pins:List (Qe×Obj)) (σ:List (Option V)) (H:Hp) (s:Qf):Prop where
 ok:X.Ok
 os:s.os=X.s₀.os
 bare:SC s.gens
 base:Un X.fs X.ex X.H₀ H X.s₀.heap s.heap
 loc:∃m,s.heap.Ns X.env.locals m/\∀(i:Nat) (x:Str) (v:V),X.N[i]?=some x->σ[i]?=some (some v)->Bw X.env.scope x->∃u,bC v u/\Lp X.env s.heap m x u
 cell:∀x c,X.env.cells.lookup x=some c->∃v,s.heap.IsCell c v
 free:H X.env.locals=none
 freeC:∀x c,X.env.cells.lookup x=some c->H c=none
 pin:∀p∈X.pn++pins,s.heap.get? p.1=some p.2/\H p.1=none/\p.1≠X.env.locals/\p.1∉X.fs/\∀v,p.2.data≠.cell v
 hok:mC X.prog X.w H s.heap
 len:σ.length=X.N.length
section
variable{X:Cx}{pins:List (Qe×Obj)}{σ:List (Option V)}{H H':Hp}{s:Qf}{h':Qm}
theorem Cx.Ok.nofr(ok:X.Ok){b:Qe}{o:Obj}(e:X.base.get? b=some o):b∉X.fs:=λhb=>by have:=(ok.funs.mem hb).1;rw[e]at this;cases this
theorem aJ.bs(I:aJ X pins σ H s):∀b o,X.base.get? b=some o->s.heap.get? b=some o/\H b=none:=λb o e=>⟨I.base.keep b o (I.ok.bs b o e).1 (I.ok.bs b o e).2 (I.ok.nofr e) (I.ok.noex b o e),I.base.free b o (I.ok.bs b o e).1 (I.ok.bs b o e).2 (I.ok.noex b o e)⟩
theorem aJ.bk(I:aJ X pins σ H s):∀b o,X.base.get? b=some o->s.heap.get? b=some o:=λb o e=>(I.bs b o e).1
theorem aJ.mod(I:aJ X pins σ H s):Mod X.K X.mg X.base:=I.ok.mod
theorem aJ.kIn(I:aJ X pins σ H s):X.K.In s.heap:=I.ok.mod.kin.keeps I.bk
theorem aJ.fr(I:aJ X pins σ H s):∃m,Fr X.base X.env.locals s.heap m:=let⟨m,hn,_⟩:=I.loc;⟨m,hn,I.bk,QP I.ok.bsz I.ok.above⟩
theorem aJ.lt(I:aJ X pins σ H s):X.env.locals<↑s:=let⟨_,hn,_⟩:=I.loc;hn.lt
theorem aJ.sz(I:aJ X pins σ H s):X.s₀.heap.objs.size<=↑s:=QP I.ok.above (Tx I.lt)
theorem aJ.nofs(I:aJ X pins σ H s){a:Qe}(h:↑s<=a):a∉X.fs:=λhb=>by obtain⟨_,o,ho,_⟩:=I.ok.funs.mem hb;exact absurd (Rr (QA ho) (QP I.sz h)) (SK _)
theorem aJ.cne(I:aJ X pins σ H s):∀x c,X.env.cells.lookup x=some c->c≠X.env.locals:=λx c e z=>by obtain⟨v,o,ho,hd⟩:=I.cell x c e;obtain⟨m,⟨o',es,ep,ho',hd',_⟩,_⟩:=I.loc;rw[z,ho']at ho;cases ho;rw[hd']at hd;cases hd
theorem aJ.funs(I:aJ X pins σ H s):s.heap.FunFrames X.base X.outer:=by
 have all:∀(l:List Env),(∀b∈jA l,b∈X.fs)->X.s₀.heap.FunFrames X.base l->s.heap.FunFrames X.base l:=by intro l;induction l with|nil=>intro _ _;trivial|cons env r ih=>intro hs hl;obtain⟨hk,⟨L,o,hf,hn,ho,hd⟩,hr⟩:=hl;have hL:L∈X.fs:=hs L (by unfold jA;rw[TQ,hf];exact SY);obtain⟨sl,e⟩:=I.base.slot L o ho (I.ok.frf L hL) hL λz=>I.ok.exfs L z hL;exact⟨hk,⟨L,_,hf,hn,e,hd⟩,ih (λb hb=>hs b (by unfold jA;rw[TQ,hf];exact Sm _ hb)) hr⟩
 exact all X.outer (λ_ hb=>hb) I.ok.funs
theorem aJ.stack(I:aJ X pins σ H s):s.heap.FunFrames X.base X.stack:=by
 rcases I.ok.stk with e|⟨e,hf⟩;·rw[e];exact I.funs
 ·rw[e];obtain⟨m,hn,_⟩:=I.loc;refine .cons (by rw[I.ok.kind];decide) hf hn ?_ I.funs;exact Heap.get?_none_of_le (QP I.ok.bsz I.ok.above)
theorem aJ.stkSub(I:aJ X pins σ H s):∀b∈jA X.stack,b∈X.env.locals::X.fs:=λb hb=>by
 rcases I.ok.stk with e|⟨e,hf⟩;·rw[e]at hb;exact Sm _ hb
 ·rw[e]at hb;unfold jA at hb;rw[TQ,hf]at hb;exact hb
theorem aJ.stkFree(I:aJ X pins σ H s):∀b∈jA X.stack,H b=none:=λb hb=>by
 rcases Qb (I.stkSub b hb) with e|hb;·rw[e];exact I.free
 ·obtain⟨_,o,ho,_⟩:=I.ok.funs.mem hb;exact I.base.free b o ho (I.ok.frf b hb) λz=>I.ok.exfs b z hb
theorem aJ.step{g':Array GenState}{t':Nat}{d':Drawn}{ch:List Qe}(I:aJ X pins σ H s)(hch:∀b∈ch,(b∈X.ex\/X.s₀.heap.objs.size<=b)/\b≠X.env.locals/\(∀x c,X.env.cells.lookup x=some c->c≠b)/\∀p∈X.pn++pins,p.1≠b)(keep:∀b o,b≠X.env.locals->b∉X.fs->b∉ch->s.heap.get? b=some o->H b=none->h'.get? b=some o)(slot:∀b o,b≠X.env.locals->b∈X.fs->b∉ch->s.heap.get? b=some o->H b=none->∃sl,h'.get? b=some {o with slots:=sl})(free:∀b o,b∉ch->s.heap.get? b=some o->H b=none->H' b=none)(there:∀b o,b∉ch->s.heap.get? b=some o->∃o',h'.get? b=some o')(tups:∀b xs,H b=some (.tup xs)->H' b=some (.tup xs))(frzs:∀b o u,H b=some (.frz o u)->H' b=some (.frz o u))(tbls:∀b ps,H b=some (.tbl ps)->∃more,H' b=some (.tbl (ps++more)))(ns:∀m,s.heap.Ns X.env.locals m->h'.Ns X.env.locals m)(hok:mC X.prog X.w H' h')(hg:SC g'):aJ X pins σ H' {s with heap:=h',gens:=g',drawn:=d',toks:=t'}:=by
 have neL:∀b o,X.s₀.heap.get? b=some o->b≠X.env.locals:=λb o e=>Rg (Rr (QA e) I.ok.above);have neC:∀b o,X.s₀.heap.get? b=some o->b∉X.ex->b∉ch:=λb o e hx hb=>by
  rcases(hch b hb).1 with z|z;·exact hx z
  ·exact absurd (Rr (QA e) z) (SK _)
 have cellK:∀x c,X.env.cells.lookup x=some c->∀v,s.heap.IsCell c v->h'.IsCell c v:=λx c e v⟨o,ho,hd⟩=>by
  have nch:c∉ch:=λz=>(hch c z).2.2.1 x c e rfl;by_cases hc:c∈X.fs;·obtain⟨sl,q⟩:=slot c o (I.cne x c e) hc nch ho (I.freeC x c e);exact⟨_,q,hd⟩
  ·exact⟨o,keep c o (I.cne x c e) hc nch ho (I.freeC x c e),hd⟩
 refine⟨I.ok,I.os,hg,⟨λb o e n hb hx=>?_,λb o e n hb hx=>?_,λb o e n hx=>?_,λb o e hx=>?_,λb xs e=>tups b xs (I.base.tups b xs e),λb o xs e=>frzs b o xs (I.base.frzs b o xs e),λb ps e=>?_⟩,?_,λx c e=>?_,?_,λx c e=>?_,λp hp=>?_,hok,I.len⟩;·exact keep b o (neL b o e) hb (neC b o e hx) (I.base.keep b o e n hb hx) (I.base.free b o e n hx)
 ·obtain⟨sl,e1⟩:=I.base.slot b o e n hb hx;obtain⟨sl',e2⟩:=slot b _ (neL b o e) hb (neC b o e hx) e1 (I.base.free b o e n hx);exact⟨sl',e2⟩
 ·obtain⟨o',e1⟩:=I.base.there b o e hx;exact free b o' (neC b o e hx) e1 (I.base.free b o e n hx)
 ·obtain⟨o',e1⟩:=I.base.there b o e hx;exact there b o' (neC b o e hx) e1
 ·obtain⟨m1,e1⟩:=I.base.tbls b ps e;obtain⟨m2,e2⟩:=tbls b _ e1;exact⟨m1++m2,by rw[e2,Array.append_assoc]⟩
 ·obtain⟨m,hn,hl⟩:=I.loc;refine⟨m,ns m hn,λi x v e1 e2 e3=>?_⟩;obtain⟨u,r,l⟩:=hl i x v e1 e2 e3;refine⟨u,r,?_⟩;rcases l with l|⟨k,c,e,z⟩;·exact .inl l
  ·exact .inr ⟨k,c,e,cellK x c e _ z⟩
 ·obtain⟨v,z⟩:=I.cell x c e;exact⟨v,cellK x c e v z⟩
 ·obtain⟨m,⟨o,_,_,ho,_⟩,_⟩:=I.loc;exact free _ o (λz=>(hch _ z).2.1 rfl) ho I.free
 ·obtain⟨v,o,ho,hd⟩:=I.cell x c e;exact free c o (λz=>(hch c z).2.2.1 x c e rfl) ho (I.freeC x c e)
 ·obtain⟨e,n,ne,nf,d⟩:=I.pin p hp;have nch:p.1∉ch:=λz=>(hch p.1 z).2.2.2 p hp rfl;exact⟨keep p.1 p.2 ne nf nch e n,free p.1 p.2 nch e n,ne,nf,d⟩
theorem aJ.un{t':Nat}(I:aJ X pins σ H s)(u:Un X.fs [] H H' s.heap h')(hok:mC X.prog X.w H' h'):aJ X pins σ H' {s with heap:=h',toks:=t'}:=by obtain⟨m,⟨o,es,ep,ho,r⟩,_⟩:=id I.loc;obtain⟨sl,hL⟩:=u.any ho I.free ↥1;exact I.step (g':=s.gens) (d':=s.drawn) (ch:=[]) (λ_ z=>nomatch z) (λb o _ hb _ e n=>u.keep b o e n hb ↥1) (λb o _ hb _ e n=>u.slot b o e n hb ↥1) (λb o _ e n=>u.free b o e n ↥1) (λb o _ e=>u.there b o e ↥1) u.tups u.frzs u.tbls (λm' hm=>by obtain⟨o',es',ep',ho',r'⟩:=hm;rw[ho]at ho';cases ho';exact⟨_,es',ep',hL,r'⟩) hok I.bare
theorem aJ.call{g':Array GenState}{t':Nat}{d':Drawn}{ch:List Qe}(I:aJ X pins σ H s)(u:Un (jA X.stack) ch H H' s.heap h')(hok:mC X.prog X.w H' h')(hg:SC g')(hch:∀b∈ch,(b∈X.ex\/X.s₀.heap.objs.size<=b)/\b≠X.env.locals/\(∀x c,X.env.cells.lookup x=some c->c≠b)/\∀p∈X.pn++pins,p.1≠b):aJ X pins σ H' {s with heap:=h',gens:=g',drawn:=d',toks:=t'}:=by obtain⟨m,⟨o,es,ep,ho,r⟩,_⟩:=id I.loc;obtain⟨sl,hL⟩:=u.any ho I.free λz=>(hch _ z).2.1 rfl;exact I.step (ch:=ch) hch (λb o hL hb hc e n=>u.keep b o e n (λz=>(Qb (I.stkSub b z)).elim hL hb) hc) (λb o _ _ hc e n=>u.any e n hc) (λb o hc e n=>u.free b o e n hc) (λb o hc e=>u.there b o e hc) u.tups u.frzs u.tbls (λm' hm=>by obtain⟨o',es',ep',ho',r'⟩:=hm;rw[ho]at ho';cases ho';exact⟨_,es',ep',hL,r'⟩) hok hg
theorem aJ.turned{t':Nat}{it:Qe}(I:aJ X pins σ H s)(k:∀b o,b≠it->s.heap.get? b=some o->h'.get? b=some o)(hn:H it=none)(hL:it≠X.env.locals)(h1:it∈X.ex\/X.s₀.heap.objs.size<=it)(h2:∀x c,X.env.cells.lookup x=some c->c≠it)(h3:∀p∈X.pn++pins,p.1≠it):aJ X pins σ H {s with heap:=h',toks:=t'}:=by
 have nit:∀b u,H b=some u->b≠it:=λb u e z=>by rw[z,hn]at e;cases e
 refine I.step (g':=s.gens) (d':=s.drawn) (ch:=[it]) (λb hb=>?_) (λb o _ _ hc e _=>k b o (λz=>hc (by simp[z])) e) (λb o _ _ hc e _=>⟨o.slots,k b o (λz=>hc (by simp[z])) e⟩) (λ_ _ _ _ n=>n) (λb o hc e=>⟨o,k b o (λz=>hc (by simp[z])) e⟩) (λ_ _ e=>e) (λ_ _ _ e=>e) (λb ps e=>⟨#[],by rw[e];simp⟩) (λm hm=>?_) (λb u e=>?_) I.bare
 ·have e:b=it:=by simpa using hb
  subst e;exact⟨h1,hL,h2,h3⟩
 ·obtain⟨o,es,ep,ho,r⟩:=hm;exact⟨o,es,ep,k _ o (QK hL) ho,r⟩
 ·refine(I.hok b u e).stay (λc v hc q=>k c v ?_ q) (λ_ q=>q) λ_ _ q=>q;rcases hc with z|z;·rw[z];exact nit b u e
  ·exact nit c _ z
theorem aJ.tok(I:aJ X pins σ H s)(t:Nat):aJ X pins σ H {s with toks:=t}:=I.un (h':=s.heap) (t':=t) Un.refl I.hok
theorem aJ.kept{t':Nat}(I:aJ X pins σ H s)(k:∀b u,s.heap.get? b=some u->h'.get? b=some u):aJ X pins σ H {s with heap:=h',toks:=t'}:=I.un (Un.kept k) (I.hok.kept k)
theorem aJ.laid{a:Qe}{o:HO}{t':Nat}(I:aJ X pins σ H s)(k:∀b u,s.heap.get? b=some u->h'.get? b=some u)(hp:↑s<=a)(new:dg X.prog X.w (bz H a o) h' a o):aJ X pins σ (bz H a o) {s with heap:=h',toks:=t'}:=I.un (Un.laid k hp (I.hok.fresh hp)) (I.hok.laid k hp new)
theorem aJ.write{x e:Qe}{o:HO}{t':Nat}(I:aJ X pins σ H s)(mu:JK (H x))(he:e=x\/H e=some (.own x))(k:∀b u,b≠e->s.heap.get? b=some u->h'.get? b=some u)(heo:∃u,h'.get? e=some u)(new:dg X.prog X.w (bz H x o) h' x o):aJ X pins σ (bz H x o) {s with heap:=h',toks:=t'}:=I.un (Un.write mu he k heo) (I.hok.write mu he k heo new)
theorem aJ.pins_of{pins':List (Qe×Obj)}(I:aJ X pins σ H s)(h:∀p∈pins',s.heap.get? p.1=some p.2/\H p.1=none/\p.1≠X.env.locals/\p.1∉X.fs/\∀v,p.2.data≠.cell v):aJ X pins' σ H s:=⟨I.ok,I.os,I.bare,I.base,I.loc,I.cell,I.free,I.freeC,λp hp=>(P' hp).elim (λz=>I.pin p (UL _ z)) (h p),I.hok,I.len⟩
theorem qW{N:List Str}(hN:N.Nodup){i j:Nat}{x:Str}(a:N[i]?=some x)(b:N[j]?=some x):i=j:=by obtain⟨h1,e1⟩:=P_ a;obtain⟨h2,e2⟩:=P_ b;exact(List.getElem_inj hN).mp (e1.trans e2.symm)
theorem uf{M:Model}{A:Qr}{E:Qd->Qf->Prop}{i:Nat}{x:Str}{v:V}{u:Qd}{Q:Unit->Qf->Prop}(I:aJ X pins σ H s)(hN:X.N.Nodup)(hi:X.N[i]?=some x)(hx:Hz X.env.scope x)(r:bC v u)(h:∀s',aJ X pins (σ.set i (some v)) H s'->(∃a,SZ a s.heap s'.heap/\(a=X.env.locals\/X.env.cells.lookup x=some a))->Q () s')(hf:X.fn x=true\/X.env.scope.names.lookup x=some .local:=by first|exact .inl rfl|exact .inr rfl|assumption):Qj M A (storeName X.env x u) Q E s:=by
 obtain⟨m,hn,hl⟩:=id I.loc;have hcls:(X.env.scope.kind==.class||(X.env.scope.kind==.module&&X.env.locals !=X.env.globals))=false:=by rw[I.ok.kind];rfl
 have hiσ:i<σ.length:=by rw[I.len];exact(P_ hi).1
 have cne:=I.cne;have tracked:∀{a:Qe}{h':Qm},(∃o,s.heap.get? a=some o/\H a=none)->SZ a s.heap h'->mC X.prog X.w H h':=fun{a h'}ha hs b ob e=>by
  obtain⟨_,_,hfree⟩:=ha;refine(I.hok b ob e).stay (λc w' hc q=>(hs.2 c ?_).trans q) (λ_ q=>q) λ_ _ q=>q;rintro rfl;rcases hc with rfl|hc;·rw[hfree]at e;cases e
  ·rw[hfree]at hc;cases hc
 rcases hx with hk|hk
 ·refine wpAny_storeName_local hk hn (λh' hn' hs=>?_) hcls;obtain⟨oL,_,_,hoL,_⟩:=id hn;refine h _ ⟨I.ok,I.os,I.bare,⟨λb o e n hb hx=>?_,λb o e n hb hx=>?_,I.base.free,λb o e hx=>?_,I.base.tups,I.base.frzs,I.base.tbls⟩,⟨_,hn',λj y v' e1 e2 e3=>?_⟩,λy c e=>?_,I.free,I.freeC,λp hp=>?_,tracked ⟨oL,hoL,I.free⟩ hs,by simpa using I.len⟩ ⟨_,hs,.inl rfl⟩;·exact(hs.2 b (Rg (Rr (QA e) I.ok.above))).trans (I.base.keep b o e n hb hx)
  ·obtain⟨sl,e1⟩:=I.base.slot b o e n hb hx;exact⟨sl,(hs.2 b (Rg (Rr (QA e) I.ok.above))).trans e1⟩
  ·obtain⟨o',e1⟩:=I.base.there b o e hx;exact⟨o',(hs.2 b (Rg (Rr (QA e) I.ok.above))).trans e1⟩
  ·by_cases hj:j=i;·subst hj;rw[hi]at e1;cases e1;rw[Rt hiσ]at e2;cases e2;exact⟨u,r,.inl ⟨hk,by simp⟩⟩
   ·rw[QQ (QK hj)]at e2;obtain⟨u',r',q⟩:=hl j y v' e1 e2 e3;refine⟨u',r',?_⟩;rcases q with⟨k,e⟩|⟨k,c,e,z⟩;·refine .inl ⟨k,?_⟩;have:y≠x:=λe=>hj (qW hN e1 (e▸hi));simp[this,e]
    ·exact .inr ⟨k,c,e,z.sameBut hs (cne y c e)⟩
  ·obtain⟨w',z⟩:=I.cell y c e;exact⟨w',z.sameBut hs (cne y c e)⟩
  ·obtain⟨e,n,ne,nf,d⟩:=I.pin p hp;exact⟨(hs.2 p.1 ne).trans e,n,ne,nf,d⟩
 ·have hfn:X.fn x=true:=by
   rcases hf with z|z;·exact z
   ·rw[z]at hk;cases hk
  obtain⟨c,hc⟩:=I.ok.has x (.inl hk);obtain⟨w',z⟩:=I.cell x c hc;refine wpAny_storeName_cell I.ok.kind hk hc z (λh' hc' hs=>?_);obtain⟨oc,hoc,hocd⟩:=id z;refine h {s with heap:=h'} ⟨I.ok,I.os,I.bare,⟨λb o e n hb hx=>?_,λb o e n hb hx=>?_,I.base.free,λb o e hx=>?_,I.base.tups,I.base.frzs,I.base.tbls⟩,⟨m,hn.sameBut hs (QK (cne x c hc)),λj y v' e1 e2 e3=>?_⟩,λy c' e=>?_,I.free,I.freeC,λp hp=>?_,tracked ⟨oc,hoc,I.freeC x c hc⟩ hs,by simpa using I.len⟩ ⟨c,hs,.inr hc⟩;·exact(hs.2 b (Rg (Rr (QA e) (I.ok.cab x c hfn hc)))).trans (I.base.keep b o e n hb hx)
  ·obtain⟨sl,e1⟩:=I.base.slot b o e n hb hx;exact⟨sl,(hs.2 b (Rg (Rr (QA e) (I.ok.cab x c hfn hc)))).trans e1⟩
  ·obtain⟨o',e1⟩:=I.base.there b o e hx;exact⟨o',(hs.2 b (Rg (Rr (QA e) (I.ok.cab x c hfn hc)))).trans e1⟩
  ·by_cases hj:j=i;·subst hj;rw[hi]at e1;cases e1;rw[Rt hiσ]at e2;cases e2;exact⟨u,r,.inr ⟨.inl hk,c,hc,hc'⟩⟩
   ·rw[QQ (QK hj)]at e2;obtain⟨u',r',q⟩:=hl j y v' e1 e2 e3;refine⟨u',r',?_⟩;rcases q with q|⟨k,c',e,z'⟩;·exact .inl q
    ·refine .inr ⟨k,c',e,z'.sameBut hs ?_⟩;rintro rfl;exact hj (qW hN e1 (I.ok.inj _ _ _ e hc▸hi))
  ·by_cases hcc:c'=c;·subst hcc;exact⟨_,hc'⟩
   ·obtain⟨w2,z2⟩:=I.cell y c' e;exact⟨w2,z2.sameBut hs hcc⟩
  ·obtain⟨e,n,ne,nf,d⟩:=I.pin p hp;refine⟨(hs.2 p.1 ?_).trans e,n,ne,nf,d⟩;intro q;rw[q,hoc]at e;have q':oc=p.2:=QY e;exact d w' (by rw[<-q'];exact hocd)
theorem lr{M:Model}{A:Qr}{E:Qd->Qf->Prop}{i:Nat}{x:Str}{v:V}{u:Qd}{Q:Unit->Qf->Prop}(I:aJ X pins σ H s)(hN:X.N.Nodup)(hi:X.N[i]?=some x)(hx:Hz X.env.scope x)(r:bC v u)(h:∀s',aJ X pins (σ.set i (some v)) H s'->Q () s')(hf:X.fn x=true\/X.env.scope.names.lookup x=some .local:=by first|exact .inl rfl|exact .inr rfl|assumption):Qj M A (storeName X.env x u) Q E s:=uf I hN hi hx r (λs' I' _=>h s' I') hf
theorem aJ.call'{s':Qf}{ch:List Qe}(I:aJ X pins σ H s)(ho:s'.os=s.os)(u:Un (jA X.stack) ch H H' s.heap s'.heap)(hok:mC X.prog X.w H' s'.heap)(hg:SC s'.gens)(hch:∀b∈ch,(b∈X.ex\/X.s₀.heap.objs.size<=b)/\b≠X.env.locals/\(∀x c,X.env.cells.lookup x=some c->c≠b)/\∀p∈X.pn++pins,p.1≠b):aJ X pins σ H' s':=by obtain⟨h',g',d',t',o'⟩:=s';have e:o'=s.os:=ho;subst e;exact I.call (g':=g') (t':=t') (d':=d') u hok hg hch
end
abbrev XK:=Qd->Option Qe->Hp->Prop
abbrev St:=List (Option V)
abbrev VK:=V->Hp->Prop
abbrev TE:=St->Hp->VK->Prop
abbrev TT:=St->Hp->(Bool->Hp->Prop)->Prop
abbrev TA:=St->Hp->(List V->Hp->Prop)->Prop
structure su where
 nx:St->Hp->Prop
 rt:VK
 bk:St->Hp->Prop:=λ_ _=>False
 ct:St->Hp->Prop:=λ_ _=>False
abbrev TS:=su->St->Hp->Prop
def EP(X:Cx)(pins:List (Qe×Obj))(σ:St)(Q:VK)(u:Qd)(s':Qf):Prop:=∃v H',aJ X pins σ H' s'/\bC v u/\Q v H'
def TP(X:Cx)(pins:List (Qe×Obj))(σ:St)(Q:Bool->Hp->Prop)(b:Bool)(s':Qf):Prop:=∃H',aJ X pins σ H' s'/\Q b H'
def AP(X:Cx)(pins:List (Qe×Obj))(σ:St)(Q:List V->Hp->Prop)(us:List Qd)(s':Qf):Prop:=∃vs H',aJ X pins σ H' s'/\a' vs us/\Q vs H'
def SP(X:Cx)(pins:List (Qe×Obj))(D:su)(f:Flow)(s':Qf):Prop:=match f with|.next=>∃σ' H',aJ X pins σ' H' s'/\D.nx σ' H'|.brk=>∃σ' H',aJ X pins σ' H' s'/\D.bk σ' H'|.cont=>∃σ' H',aJ X pins σ' H' s'/\D.ct σ' H'|.ret u=>∃v σ' H',aJ X pins σ' H' s'/\bC v u/\D.rt v H'
def PE(X:Cx)(e:Qh)(t:TE):Prop:=∀(pins:List (Qe×Obj)) (s:Qf) (σ:St) (H:Hp) (Q:VK),aJ X pins σ H s->t σ H Q->Qj (Ql X.prog X.w) X.A (Qs e X.env) (EP X pins σ Q) X.xe s
def PT(X:Cx)(e:Qh)(t:TT):Prop:=∀(pins:List (Qe×Obj)) (s:Qf) (σ:St) (H:Hp) (Q:Bool->Hp->Prop),aJ X pins σ H s->t σ H Q->Qj (Ql X.prog X.w) X.A (isTrue e X.env (Qs e X.env)) (TP X pins σ Q) X.xe s
def PW(X:Cx)(e:Qh)(t:TT):Prop:=∀(whole:Sem Qd) (pins:List (Qe×Obj)) (s:Qf) (σ:St) (H:Hp) (Q:Bool->Hp->Prop),aJ X pins σ H s->t σ H Q->Qj (Ql X.prog X.w) X.A (isTrue e X.env whole) (TP X pins σ Q) X.xe s
theorem PW.pt{X:Cx}{e:Qh}{t:TT}(h:PW X e t):PT X e t:=h _
def PA(X:Cx)(es:List Qh)(t:TA):Prop:=∀(pos:Pos) (pins:List (Qe×Obj)) (s:Qf) (σ:St) (H:Hp) (Q:List V->Hp->Prop),aJ X pins σ H s->t σ H Q->Qj (Ql X.prog X.w) X.A (spliced (QH pos (Qq es X.env))) (AP X pins σ Q) X.xe s
def PS(X:Cx)(st:Qo)(t:TS):Prop:=∀(pins:List (Qe×Obj)) (s:Qf) (σ:St) (H:Hp) (D:su),aJ X pins σ H s->t D σ H->Qj (Ql X.prog X.w) X.A (exec st X.env) (SP X pins D) X.xe s
def mD(X:Cx)(st:List Qo)(t:TS):Prop:=∀(pins:List (Qe×Obj)) (s:Qf) (σ:St) (H:Hp) (D:su),aJ X pins σ H s->t D σ H->Qj (Ql X.prog X.w) X.A (execs st X.env) (SP X pins D) X.xe s
theorem cj{α:Type}{t:Sem α}{Q Q':α->Qf->Prop}{M:Model}{A:Qr}{E:Qd->Qf->Prop}{s:Qf}(h:Qj M A t Q E s)(hQ:∀a s,Q a s->Q' a s):Qj M A t Q' E s:=Qw h hQ λ_ _ x=>x
section
variable{X:Cx}
def pN(i:Nat):TE:=λσ H Q=>∃v,σ[i]?=some (some v)/\Q v H
def tC(v:V):TE:=λ_ H Q=>Q v H
theorem hJ{i:Nat}{x:Str}{pos:Pos}(hN:X.N[i]?=some x)(hv:Bw X.env.scope x)(hd:(x==("__debug__":Str))=false:=by decide)(hcd:(x==("__classdict__":Str))=false:=by decide):PE X (.Name x pos) (pN i):=by
 intro pins s σ H Q I h;obtain⟨v,e,h⟩:=h;obtain⟨m,hn,hl⟩:=I.loc;obtain⟨u,r,l⟩:=hl i x v hN e hv;have fin:EP X pins σ Q u s:=⟨v,H,I,r,h⟩;rcases l with⟨hk,hm⟩|⟨hk,c,hc,hcell⟩;·exact wpAny_Name (wpAny_loadName_local I.ok.kind hk hn hm fin) hd
 ·rcases hk with hk|hk;·exact wpAny_Name (wpAny_loadName_cell I.ok.kind hk hc hcell fin) hd
  ·exact wpAny_Name (wpAny_loadName_free I.ok.kind hk hc hcell fin hcd) hd
theorem C6{i j pos}:PE X (.Constant (.int i) j pos) (tC (.int i)):=λ_ _ _ H _ I h=>wpAny_Constant_int ⟨.int i,H,I.tok _,⟨_,rfl⟩,h⟩
theorem rk{b j pos}:PE X (.Constant (.bool b) j pos) (tC (.bl b)):=λ_ _ _ H _ I h=>Constant_bool ⟨.bl b,H,I,rfl,h⟩
theorem IH{j pos}:PE X (.Constant .none j pos) (tC .non):=λ_ _ _ H _ I h=>Constant_none ⟨.non,H,I,rfl,h⟩
theorem II{x j pos}:PE X (.Constant (.str x) j pos) (tC (.str x)):=λ_ _ _ H _ I h=>Calls.Constant_str ⟨.str x,H,I.tok _,⟨_,rfl⟩,h⟩
def Gl(X:Cx)(x:Str):Prop:=X.env.kindOf x=some .globalImplicit
theorem lF{E:Qd->Qf->Prop}{pins:List (Qe×Obj)}{s:Qf}{σ:St}{H:Hp}{x:Str}{u:Qd}{pos:Pos}{Q:Qd->Qf->Prop}(I:aJ X pins σ H s)(hg:Gl X x)(hm:X.mg x=some u)(h:Q u s)(hd:(x==("__debug__":Str))=false:=by decide):Qj (Ql X.prog X.w) X.A (Qs (.Name x pos) X.env) Q E s:=Calls.Name_function_global I.ok.kind hg (Calls.loadGlobal_global (by rw[I.ok.glob];exact I.mod.glob.keeps I.bk) hm h) hd
theorem nX{E:Qd->Qf->Prop}{pins:List (Qe×Obj)}{s:Qf}{σ:St}{H:Hp}{x:Str}{u:Qd}{pos:Pos}{Q:Qd->Qf->Prop}(I:aJ X pins σ H s)(hg:Gl X x)(hm:X.mg x=none)(hv:Sb x=some u)(h:Q u s)(hn:x≠"__name__":=by decide)(hd:(x==("__debug__":Str))=false:=by decide):Qj (Ql X.prog X.w) X.A (Qs (.Name x pos) X.env) Q E s:=by obtain⟨mb,h1,h2⟩:=I.mod.blt;exact Calls.Name_function_global I.ok.kind hg (Calls.loadGlobal_builtin (by rw[I.ok.glob];exact I.mod.glob.keeps I.bk) hm (by rw[I.ok.blt];exact h1.keeps I.bk) ((h2 x hn).trans hv) h) hd
theorem lL{x:Str}{v:V}{u:Qd}{pos:Pos}(hg:Gl X x)(hm:X.mg x=some u)(r:bC v u)(hd:(x==("__debug__":Str))=false:=by decide):PE X (.Name x pos) (tC v):=λ_ _ _ H _ I h=>lF I hg hm ⟨v,H,I,r,h⟩ hd
variable{a b:Qh}{ta tb:TE}{pos:Pos}
def tB(t:TE):TT:=λσ H Q=>t σ H λx H1=>∃c,x=.bl c/\Q c H1
theorem IS{e:Qh}{t:TE}(h:PE X e t)(he:∀whole,isTrue e X.env whole=(do let v<-whole;RQ e.pos;Sn [v] (truthy v)):=by intro _;rfl):PT X e (tB t):=by intro pins s σ H Q I hw;refine isTrue_plain (cj (h pins s σ H _ I hw) λv s1⟨x,H1,I1,r1,q1⟩=>?_) (he _);obtain⟨d,rfl,q⟩:=q1;cases r1;exact wpAny_truthy_bool ⟨H1,I1,q⟩
variable{tA tB':TT}{ic:List Qh}
def KR(t u:TT):TT:=λσ H Q=>t σ H λc H1=>if c=true then u σ H1 Q else Q false H1
def Mr(t u:TT):TT:=λσ H Q=>t σ H λc H1=>if c=true then Q true H1 else u σ H1 Q
def KY(t:TT):TT:=λσ H Q=>t σ H λc H1=>Q (!c) H1
theorem Ge(ha:PT X a tA):PW X (.BoolOp .And [a] pos) tA:=by intro wh pins s σ H Q I h;refine isTrue_and (cj (ha pins s σ H Q I h) λc s1 e=>?_);cases c with|true=>exact isTrue_and_nil e|false=>exact e
theorem IU(ha:PT X a tA):PW X (.BoolOp .Or [a] pos) tA:=by intro wh pins s σ H Q I h;refine isTrue_or (cj (ha pins s σ H Q I h) λc s1 e=>?_);cases c with|false=>exact isTrue_or_nil e|true=>exact e
theorem IT(ha:PT X a tA)(hb:PW X (.BoolOp .And (b::ic) pos) tB'):PW X (.BoolOp .And (a::b::ic) pos) (KR tA tB'):=by intro wh pins s σ H Q I h;refine isTrue_and (cj (ha pins s σ H _ I h) λc s1⟨H1,I1,q1⟩=>?_);cases c with|true=>exact hb wh pins s1 σ H1 Q I1 q1|false=>exact⟨H1,I1,q1⟩
theorem Ku(ha:PT X a tA)(hb:PW X (.BoolOp .Or (b::ic) pos) tB'):PW X (.BoolOp .Or (a::b::ic) pos) (Mr tA tB'):=by intro wh pins s σ H Q I h;refine isTrue_or (cj (ha pins s σ H _ I h) λc s1⟨H1,I1,q1⟩=>?_);cases c with|true=>exact⟨H1,I1,q1⟩|false=>exact hb wh pins s1 σ H1 Q I1 q1
theorem IR(ha:PT X a tA):PT X (.UnaryOp .Not a pos) (KY tA):=by intro pins s σ H Q I h;exact isTrue_not (ha pins s σ H (λc H1=>Q (!c) H1) I h)
def ML(t:TT)(ta tb:TE):TE:=λσ H Q=>t σ H λc H1=>if c=true then ta σ H1 Q else tb σ H1 Q
theorem C5{c:Qh}(hc:PT X c tA)(ha:PE X a ta)(hb:PE X b tb):PE X (.IfExp c a b pos) (ML tA ta tb):=by intro pins s σ H Q I h;refine wpAny_IfExp (cj (hc pins s σ H _ I h) λd s1⟨H1,I1,q1⟩=>?_);cases d with|true=>exact ha pins s1 σ H1 Q I1 q1|false=>exact hb pins s1 σ H1 Q I1 q1
end
def jR(K:⇑0)(H:Hp)(a:Qe)(xs:List V):Prop:=Rd H a (.lst xs)\/∃(o:Obj) (its:Array Qd) (n:Nat),K.lookup a=some o/\o.cls=.type "list"/\o.dict=none/\o.data=.seq its n/\its.size<=Qv/\a' xs its.toList
def eO(K:⇑0)(H:Hp)(a:Qe)(xs:List V):Prop:=Rd H a (.tup xs)\/∃(o:Obj) (its:Array Qd) (n:Nat),K.lookup a=some o/\o.cls=.type "tuple"/\o.dict=none/\o.data=.seq its n/\its.size<=Qv/\a' xs its.toList
def Lx:Qd->Option V|.none=>some .non|.bool b=>some (.bl b)|.int i _=>some (.int i)|.str x _=>some (.str x)|.bytes b _=>some (.byt b)|.float b _=>some (.flt b)|.ref a=>some (.ref a)|.type n=>some (.ty n)|_=>none
theorem bC.abs{x:V}{u:Qd}(r:bC x u):Lx u=some x:=by cases x with|non=>cases r;rfl|bl _=>cases r;rfl|int _=>obtain⟨t,rfl⟩:=r;rfl|str _=>obtain⟨t,rfl⟩:=r;rfl|byt _=>obtain⟨t,rfl⟩:=r;rfl|flt _=>obtain⟨t,rfl⟩:=r;rfl|ref _=>cases r;rfl|ty _=>cases r;rfl
theorem bC.inj{x y:V}{u:Qd}(r:bC x u)(q:bC y u):x=y:=QY (r.abs.symm.trans q.abs)
theorem a'.inj:∀{xs ys:List V}{us:List Qd},a' xs us->a' ys us->xs=ys|_,_,_,.nil,.nil=>rfl|_,_,_,.cons r t,.cons r' t'=>by rw[r.inj r',a'.inj t t']
section
variable{X:Cx}{pins:List (Qe×Obj)}{σ:St}{H:Hp}{s:Qf}{a:Qe}{xs ys:List V}
theorem jR.of{K:⇑0}(h:H a=some (.lst xs)):jR K H a xs:=.inl (.inl h)
theorem eO.of{K:⇑0}(h:H a=some (.tup xs)):eO K H a xs:=.inl (.inl h)
theorem aJ.list(I:aJ X pins σ H s)(h:jR X.K H a xs):∃its:List Qd,a' xs its/\PlainL s.heap a its.toArray/\xs.length<=Qv:=by
 rcases h with h|⟨o,its,n,hk,hc,hd,hs,hz,r⟩;·obtain⟨z,its,n,r,e⟩:=h.ok I.hok;exact⟨its,r,⟨_,n,e,rfl,rfl,rfl⟩,z⟩
 ·refine⟨its.toList,r,⟨o,n,I.kIn a o hk,hc,hd,by simpa using hs⟩,?_⟩;have e:=r.length;simp only[UM]at e;lia
theorem aJ.tuple(I:aJ X pins σ H s)(h:eO X.K H a xs):∃its:List Qd,a' xs its/\IsTup s.heap a its.toArray/\xs.length<=Qv:=by
 rcases h with h|⟨o,its,n,hk,hc,_,hs,hz,r⟩;·obtain⟨z,its,r,p⟩:=h.ok I.hok;exact⟨its,r,p.tup,z⟩
 ·refine⟨its.toList,r,⟨o,I.kIn a o hk,hc,n,by simpa using hs⟩,?_⟩;have e:=r.length;simp only[UM]at e;lia
theorem aJ.list_inj(I:aJ X pins σ H s)(h:jR X.K H a xs)(h':jR X.K H a ys):xs=ys:=by
 obtain⟨its,r,⟨o,n,e,_,_,d⟩,_⟩:=I.list h;obtain⟨its',r',⟨o',n',e',_,_,d'⟩,_⟩:=I.list h';rw[e]at e';cases e';rw[d]at d';injection d' with d1 _;have:its=its':=by simpa using congrArg Array.toList d1
 subst this;exact r.inj r'
theorem aJ.tuple_inj(I:aJ X pins σ H s)(h:eO X.K H a xs)(h':eO X.K H a ys):xs=ys:=by
 obtain⟨its,r,⟨o,e,_,n,d⟩,_⟩:=I.tuple h;obtain⟨its',r',⟨o',e',_,n',d'⟩,_⟩:=I.tuple h';rw[e]at e';cases e';rw[d]at d';injection d' with d1 _;have:its=its':=by simpa using congrArg Array.toList d1
 subst this;exact r.inj r'
end
abbrev Cx.wish(X:Cx)(E:Qd->Qf->Prop):Cx:={X with xe:=E}
abbrev Cx.nox(X:Cx):Cx:=X.wish λ_ _=>False
theorem Cx.Ok.wish{X:Cx}(ok:X.Ok)(E:Qd->Qf->Prop):(X.wish E).Ok:=⟨ok.mod,ok.kind,ok.glob,ok.blt,ok.above,ok.inj,ok.has,ok.cab,ok.hd,ok.frames,ok.stk,ok.exf,ok.bs,ok.bsz,ok.noex,ok.exfs,ok.funs,ok.frf⟩
theorem Cx.Ok.unwish{X:Cx}{E:Qd->Qf->Prop}(ok:(X.wish E).Ok):X.Ok:=⟨ok.mod,ok.kind,ok.glob,ok.blt,ok.above,ok.inj,ok.has,ok.cab,ok.hd,ok.frames,ok.stk,ok.exf,ok.bs,ok.bsz,ok.noex,ok.exfs,ok.funs,ok.frf⟩
section
variable{X:Cx}{pins:List (Qe×Obj)}{σ:St}{H:Hp}{s:Qf}{E:Qd->Qf->Prop}
theorem aJ.wish(I:aJ X pins σ H s)(E:Qd->Qf->Prop):aJ (X.wish E) pins σ H s:=⟨I.ok.wish E,I.os,I.bare,I.base,I.loc,I.cell,I.free,I.freeC,I.pin,I.hok,I.len⟩
theorem aJ.unwish(I:aJ (X.wish E) pins σ H s):aJ X pins σ H s:=⟨I.ok.unwish,I.os,I.bare,I.base,I.loc,I.cell,I.free,I.freeC,I.pin,I.hok,I.len⟩
theorem SP.unwish{D:su}{f:Flow}{s':Qf}(h:SP (X.wish E) pins D f s'):SP X pins D f s':=by cases f with|next=>obtain⟨σ',H',I,q⟩:=h;exact⟨σ',H',I.unwish,q⟩|brk=>obtain⟨σ',H',I,q⟩:=h;exact⟨σ',H',I.unwish,q⟩|cont=>obtain⟨σ',H',I,q⟩:=h;exact⟨σ',H',I.unwish,q⟩|ret u=>obtain⟨v,σ',H',I,r,q⟩:=h;exact⟨v,σ',H',I.unwish,r,q⟩
theorem PT.nox{e:Qh}{t:TT}(h:PT X.nox e t):PT X e t:=λpins s σ H Q I hw=>Qw (h pins s σ H Q (I.wish _) hw) (λ_ _⟨H',I',q⟩=>⟨H',I'.unwish,q⟩) λ_ _ z=>Ry z
theorem mD.nox{st:List Qo}{t:TS}(h:mD X.nox st t):mD X st t:=λpins s σ H D I hw=>Qw (h pins s σ H D (I.wish _) hw) (λ_ _ q=>q.unwish) λ_ _ z=>Ry z
end
section
variable{X:Cx}{st:Qo}{ic:List Qo}{t u:TS}{e:Qh}{te:TE}{pos:Pos}
def KW:TS:=λD σ H=>D.nx σ H
def K0(t u:TS):TS:=λD σ H=>t {D with nx:=u D} σ H
theorem zL:mD X [] KW:=λ_ _ σ H _ I h=>UN ⟨σ,H,I,h⟩
theorem nc(h1:PS X st t)(h2:mD X ic u):mD X (st::ic) (K0 t u):=by intro pins s σ H D I h;refine Uk (cj (h1 pins s σ H {D with nx:=u D} I h) λf s1 q=>?_);cases f with|next=>obtain⟨σ',H',I',q⟩:=q;exact h2 pins s1 σ' H' D I' q|ret v=>exact q|brk=>exact q|cont=>exact q
theorem ng(h1:PS X st t):mD X [st] t:=by intro pins s σ H D I h;refine Uk (cj (h1 pins s σ H D I h) λf s1 q=>?_);cases f with|next=>exact UN q|ret v=>exact q|brk=>exact q|cont=>exact q
theorem aJ.quiet{pins:List (Qe×Obj)}{σ:St}{H:Hp}{s:Qf}(I:aJ X pins σ H s):interactive X.env=false:=by simp[interactive,I.ok.kind]
def KU(te:TE):TS:=λD σ H=>te σ H λ_ H1=>D.nx σ H1
theorem Gb(he:PE X e te)(hs:So e none pos.line X.env=pure false:=by rfl):PS X (.Expr e pos) (KU te):=by intro pins s σ H D I h;exact wpAny_Expr_any (cj (he pins s σ H _ I h) λv s1⟨x,H1,I1,r1,q1⟩=>⟨σ,H1,I1,q1⟩) I.quiet hs
def Jp(te:TE):TS:=λD σ H=>te σ H D.rt
theorem yK(he:PE X e te):PS X (.Return (some e) pos) (Jp te):=by intro pins s σ H D I h;exact wpAny_Return_some (cj (he pins s σ H _ I h) λv s1⟨x,H1,I1,r1,q1⟩=>⟨x,σ,H1,I1,r1,q1⟩)
def L7(c:TT)(t u:TS):TS:=λD σ H=>c σ H λb H1=>if b=true then t D σ H1 else u D σ H1
theorem Hh{c:Qh}{a b:List Qo}{tc:TT}(hc:PT X c tc)(ha:mD X a t)(hb:mD X b u):PS X (.If c a b pos) (L7 tc t u):=by intro pins s σ H D I h;refine wpAny_If (cj (hc pins s σ H _ I h) λd s1⟨H1,I1,q1⟩=>?_);cases d with|true=>exact ha pins s1 σ H1 D I1 q1|false=>exact hb pins s1 σ H1 D I1 q1
end
abbrev TG:=V->St->Hp->(St->Hp->Prop)->Prop
abbrev Eo:=List V->St->Hp->(St->Hp->Prop)->Prop
def PG(X:Cx)(target:Qh)(t:TG):Prop:=∀(pins:List (Qe×Obj)) (s:Qf) (σ:St) (H:Hp) (v:V) (u:Qd) (Q:St->Hp->Prop),aJ X pins σ H s->bC v u->t v σ H Q->Qj (Ql X.prog X.w) X.A (RD target X.env u) (λ_ s'=>∃σ' H',aJ X pins σ' H' s'/\Q σ' H') X.xe s
def Bv(X:Cx)(ts:List Qh)(t:Eo):Prop:=∀(pins:List (Qe×Obj)) (s:Qf) (σ:St) (H:Hp) (vs:List V) (us:List Qd) (Q:St->Hp->Prop),aJ X pins σ H s->a' vs us->t vs σ H Q->Qj (Ql X.prog X.w) X.A (assignInOrder ((RW ts X.env).map (·.2)) us) (λ_ s'=>∃σ' H',aJ X pins σ' H' s'/\Q σ' H') X.xe s
abbrev HD:=V->V->V->Hp->(Hp->Prop)->Prop
def JL(X:Cx)(t:HD):Prop:=∀(pins:List (Qe×Obj)) (s:Qf) (σ:St) (H:Hp) (o i v:V) (ov iv u:Qd) (Q:Hp->Prop),aJ X pins σ H s->bC o ov->bC i iv->bC v u->t o i v H Q->Qj (Ql X.prog X.w) X.A (setItem ov iv u) (λ_ s'=>∃H',aJ X pins σ H' s'/\Q H') X.xe s
section
variable{X:Cx}{pos:Pos}
def wu(i:Nat):TG:=λv σ H Q=>Q (σ.set i (some v)) H
theorem FU{i:Nat}{x:Str}(hN:X.N.Nodup)(hi:X.N[i]?=some x)(hx:Hz X.env.scope x)(hf:X.fn x=true\/X.env.scope.names.lookup x=some .local:=by first|exact .inl rfl|exact .inr rfl|assumption):PG X (.Name x pos) (wu i):=by intro pins s σ H v u Q I r h;exact wpAny_assign_Name (lr I hN hi hx r (λs' I'=>⟨_,H,I',h⟩) hf)
def Lz:Eo:=λvs σ H Q=>vs=[]/\Q σ H
def JZ(t:TG)(u:Eo):Eo:=λvs σ H Q=>∃v r,vs=v::r/\t v σ H λσ' H'=>u r σ' H' Q
theorem FW:Bv X [] Lz:=by intro pins s σ H vs us Q I r h;obtain⟨e,h⟩:=h;subst e;cases r;exact assignInOrder_nil ⟨σ,H,I,h⟩
theorem Da{e:Qh}{es:List Qh}{t:TG}{u:Eo}(h1:PG X e t)(h2:Bv X es u)(hs:(RW (e::es) X.env).map (·.2)=RD e X.env::(RW es X.env).map (·.2):=by rfl):Bv X (e::es) (JZ t u):=by intro pins s σ H vs us Q I r h;obtain⟨v,vr,e1,h⟩:=h;subst e1;cases r with|cons r rr=>rw[hs];refine assignInOrder_cons (cj (h1 pins s σ H _ _ _ I r h) λ_ s1⟨σ1,H1,I1,q1⟩=>?_);exact h2 pins s1 σ1 H1 _ _ Q I1 rr q1
def J0(K:⇑0)(n:Nat)(t:Eo):TG:=λv σ H Q=>∃a xs,v=.ref a/\eO K H a xs/\xs.length=n/\t xs σ H Q
theorem IL{es:List Qh}{k:Nat}{t:Eo}{n:Nat}(hc:X.calm=true)(h:Bv X es t)(hn:(RW es X.env).length=n:=by rfl)(hst:(RW es X.env).findIdx? (·.1)=none:=by rfl):PG X (.Tuple es k pos) (J0 X.K n t):=by intro pins s σ H v u Q I r hw;obtain⟨a,xs,e1,hq,hl,hw⟩:=hw;subst e1;cases r;obtain⟨its,rv,ht,hz⟩:=I.tuple hq;refine assign_Tuple_tuple (I.ok.hd hc) ht (by simp[hn,<-hl,rv.length]) hst λh' hx=>?_;have I1:aJ X pins σ H {s with heap:=h'}:=I.kept (t':=s.toks) λb o e=>hx b o (Rg (QA e)) e;exact h pins _ σ H xs _ Q I1 (by simpa using rv) hw
def LC(to ti:TE)(t:HD):TG:=λv σ H Q=>to σ H λo H1=>ti σ H1 λi H2=>t o i v H2 λH3=>Q σ H3
theorem IK{o i:Qh}{to ti:TE}{t:HD}(ho:PE X o to)(hi:PE X i ti)(hs:JL X t)(ha:∀v,RD (.Subscript o i pos) X.env v=(do
 let ov<-Sn [v] (Qs o X.env)let iv<-Sn [v,ov] (Qs i X.env)RQ pos
 Sn [v,ov,iv] (setItem ov iv v)release [v,ov,iv] []):=by intro _;rfl):PG X (.Subscript o i pos) (LC to ti t):=by intro pins s σ H v u Q I r h;rw[ha];refine Qi (SL (cj (ho pins s σ H _ I h) λov s1⟨x,H1,I1,r1,q1⟩=>?_));refine Qi (SL (cj (hi pins s1 σ H1 _ I1 q1) λiv s2⟨y,H2,I2,r2,q2⟩=>?_));refine Qi (RL (Qi (SL (cj (hs pins s2 σ H2 x y v ov iv u _ I2 r1 r2 r q2) λ_ s3⟨H3,I3,q3⟩=>?_))));exact wpAny_release ⟨σ,H3,I3,q3⟩
def D4(te:TE)(g:TG):TS:=λD σ H=>te σ H λx H1=>g x σ H1 D.nx
theorem Di{tg e:Qh}{te:TE}{g:TG}(he:PE X e te)(hg:PG X tg g)(hs:Ul [tg] e pos.line X.env=pure false:=by rfl)(hw:Um [tg] e X.env=pure none:=by rfl)(h1:(RW [tg] X.env).map (·.2)=[RD tg X.env]:=by rfl):PS X (.Assign [tg] e pos) (D4 te g):=by intro pins s σ H D I h;refine wpAny_Assign_stores (cj (he pins s σ H _ I h) λv s1⟨x,H1,I1,r1,q1⟩=>?_) hs hw;rw[h1];exact cj (hg pins s1 σ H1 x v _ I1 r1 q1) λ_ s2 q=>q
theorem rC{i:Nat}{x:Str}{e:Qh}{te:TE}{pos':Pos}(hN:X.N.Nodup)(hi:X.N[i]?=some x)(hx:Hz X.env.scope x)(he:PE X e te)(hs:So e (some (.Name x pos')) pos.line X.env=pure false:=by rfl)(hf:X.fn x=true\/X.env.scope.names.lookup x=some .local:=by first|exact .inl rfl|exact .inr rfl|assumption):PS X (.Assign [.Name x pos'] e pos) (D4 te (wu i)):=by intro pins s σ H D I h;refine wpAny_Assign_Name (cj (he pins s σ H _ I h) λv s1⟨y,H1,I1,r1,q1⟩=>?_) hs;exact lr I1 hN hi hx r1 (λs2 I2=>⟨_,H1,I2,q1⟩) hf
def L9(i j:Nat)(ta:TA):TS:=λD σ H=>ta σ H λvs H1=>∃v w,vs=[v,w]/\D.nx ((σ.set i (some v)).set j (some w)) H1
theorem IQ{i j:Nat}{x y:Str}{a b:Qh}{ta:TA}{px py pt:Pos}{kt k2 pt2}(hc:X.calm=true)(hN:X.N.Nodup)(hi:X.N[i]?=some x)(hj:X.N[j]?=some y)(hij:i≠j)(hx:X.env.scope.names.lookup x=some .local)(hy:X.env.scope.names.lookup y=some .local)(ha:PA X [a,b] ta)(hw:Um [.Tuple [.Name x px,.Name y py] kt pt] (.Tuple [a,b] k2 pt2) X.env=pure (some [x,y]))(hs:Ul [.Tuple [.Name x px,.Name y py] kt pt] (.Tuple [a,b] k2 pt2) pos.line X.env=pure false:=by rfl):PS X (.Assign [.Tuple [.Name x px,.Name y py] kt pt] (.Tuple [a,b] k2 pt2) pos) (L9 i j ta):=by
 intro pins s σ H D I h;rw[exec_Assign_arm];refine Qi (RL ?_);rw[hs];refine Qi (Qp ?_);rw[if_neg ⋯];refine Qi (Tuple_ (cj (ha _ pins s σ H _ I h) λus s1⟨vs,H1,I1,r1,q1⟩=>?_));obtain⟨v,w,e1,q1⟩:=q1;subst e1;obtain⟨u1,u2,rfl,rv,rw'⟩:∃u1 u2,us=[u1,u2]/\bC v u1/\bC w u2:=by cases r1 with|cons p q=>cases q with|cons p' q'=>cases q';exact⟨_,_,rfl,p,p'⟩
 refine Sd ?_ (by show 2<=Qv;decide);have I2:aJ X pins σ H1 {s1 with heap:=s1.heap.push {cls:=.type "tuple",data:=.seq [u1,u2].toArray}}:=I1.kept (t':=s1.toks) λb o e=>QG _ e;rw[hw];refine Qi (Qp ?_);show Qj (Ql X.prog X.w) X.A (do rule "assign.swapped-stores";let items<-unpackItems (.ref ↑s1) 2 none;assignInOrder [λv=>bindName X.env y v,λv=>bindName X.env x v] items.reverse;pure Flow.next) _ _ _;refine Qi (Ta (Qi (unpackItems_tuple (items:=#[u1,u2]) (I.ok.hd hc) (IsTup.new s1.heap _) λh' hx'=>?_)));have I3:=I2.kept (h':=h') (t':=s1.toks) λb o e=>hx' b o (Rg (QA e)) e;show Qj _ _ (assignInOrder [λv=>bindName X.env y v,λv=>bindName X.env x v] [u2,u1]>>=λ_=>pure Flow.next) _ _ _;refine Qi (assignInOrder_cons (wpAny_bindName (lr I3 hN hj (.inl hy) rw' (λs2 I4=>?_) (.inr hy))));refine assignInOrder_cons (wpAny_bindName (lr I4 hN hi (.inl hx) rv (λs3 I5=>assignInOrder_nil (Qp ?_)) (.inr hx)));rw[List.set_comm _ _ (QK hij)]at I5;exact⟨_,H1,I5,q1⟩
end
section
variable{X:Cx}{pos:Pos}
def Jq(c:TT)(tb:TS):TS:=λD σ H=>∃W:Nat->St->Hp->Prop,(∃m,W m σ H)/\∀m σ H,W m σ H->c σ H λb H1=>if b=true then∃N:St->Hp->Prop,(∀σ' H',N σ' H'->∃m',m'<m/\W m' σ' H')/\tb {D with nx:=N,ct:=N,bk:=D.nx} σ H1 else D.nx σ H1
theorem Dm{c:Qh}{body:List Qo}{tc:TT}{tb:TS}(hp:PassesOwn (Ql X.prog X.w) X.A X.env X.xe)(hc:PT X c tc)(hb:mD X body tb):PS X (.While c body [] pos) (Jq tc tb):=by intro pins s σ H D I h;obtain⟨W,⟨m0,w0⟩,turn⟩:=h;refine wpAny_While (codeAny_whileLoop (λn s'=>∃σ' H',aJ X pins σ' H' s'/\W n σ' H') ?_ m0 ⟨σ,H,I,w0⟩);rintro n s1⟨σ1,H1,I1,w1⟩;refine Tz hp (cj (hc pins s1 σ1 H1 _ I1 (turn n σ1 H1 w1)) λb s2⟨H2,I2,q2⟩=>?_);cases b with
 |true=>obtain⟨N,hN,q2⟩:=q2;rw[if_pos rfl];refine Tz hp (cj (hb pins s2 σ1 H2 _ I2 q2) λf s3 q3=>?_);cases f with|next=>obtain⟨σ3,H3,I3,n3⟩:=q3;obtain⟨m',hm,w3⟩:=hN σ3 H3 n3;exact⟨m',hm,σ3,H3,I3,w3⟩|cont=>obtain⟨σ3,H3,I3,n3⟩:=q3;obtain⟨m',hm,w3⟩:=hN σ3 H3 n3;exact⟨m',hm,σ3,H3,I3,w3⟩|brk=>exact q3|ret v=>exact q3
 |false=>rw[if_neg RM];exact UN ⟨σ1,H2,I2,q2⟩
end
structure It where
 go:Nat->Hp->Prop
 yld:Nat->Hp->V->Hp->Prop
 stop:Nat->Hp->Prop
def gR(X:Cx)(pins:List (Qe×Obj))(H:Hp)(b:Qe):Prop:=H b=none/\b≠X.env.locals/\b∉X.fs/\(b∈X.ex\/X.s₀.heap.objs.size<=b)/\(∀x c,X.env.cells.lookup x=some c->c≠b)/\∀p∈X.pn++pins,p.1≠b
theorem aJ.fpOk{X:Cx}{pins:List (Qe×Obj)}{σ:St}{H H':Hp}{s:Qf}{b:Qe}(I:aJ X pins σ H s)(hb:↑s<=b)(hn:H' b=none):gR X pins H' b:=by
 refine⟨hn,Nat.ne_of_gt (Rr I.lt hb),I.nofs hb,.inr (QP I.sz hb),λx c e z=>?_,λp hp z=>?_⟩;·obtain⟨v,q⟩:=I.cell x c e;exact absurd (Rr q.lt (by rw[z];exact hb)) (SK _)
 ·exact absurd (Rr (QA (I.pin p hp).1) (by rw[z];exact hb)) (SK _)
structure Ar (P:Qn) (w:Qk) (K:⇑0) (tg:Qh) (J:It) (fp:List Qe) (it:Qe) (tn:Nat->Qm->Prop):Prop where
 mem:it∈fp
 obj:∀i h,tn i h->∀b∈fp,∃o,h.get? b=some o/\∀v,o.data≠.cell v
 keep:∀i h h',tn i h->(∀b∈fp,∀o,h.get? b=some o->h'.get? b=some o)->tn i h'
 item:∀(X:Cx),X.prog=P->X.w=w->X.K=K->X.calm=true->∀(i:Nat) (pins:List (Qe×Obj)) (s:Qf) (σ:St) (H:Hp) (E:Qd->Qf->Prop),aJ X pins σ H s->(∀b∈fp,gR X pins H b)->tn i s.heap->J.go i H->Qj (Ql P w) X.A (RE (.ref it)) (λr s1=>∃u,r=some u/\Qj (Ql P w) X.A (SM tg (.ref it) u) (λ_ s2=>∃x H',aJ X pins σ H' s2/\bC x u/\J.yld i H x H'/\tn (i+1) s2.heap/\∀b∈fp,H' b=none) E s1) E s
 done:∀(X:Cx),X.prog=P->X.w=w->X.K=K->X.calm=true->∀(i:Nat) (pins:List (Qe×Obj)) (s:Qf) (σ:St) (H:Hp) (E:Qd->Qf->Prop),aJ X pins σ H s->(∀b∈fp,gR X pins H b)->tn i s.heap->J.stop i H->Qj (Ql P w) X.A (RE (.ref it)) (λr s1=>r=none/\aJ X pins σ H s1) E s
 self:∀(A:Qr) (i:Nat) (s:Qf) (Q:Qd->Qf->Prop) (E:Qd->Qf->Prop),tn i s.heap->Q (.ref it) s->Qj (Ql P w) A (pyIter (.ref it)) Q E s
abbrev TI:=St->Hp->(It->Hp->Prop)->Prop
def Mf(X:Cx)(pins:List (Qe×Obj))(σ:St)(tg:Qh)(R:It->Hp->Prop)(itv:Qd)(s2:Qf):Prop:=∃(it:Qe) (fp:List Qe) (tn:Nat->Qm->Prop) (J:It) (H':Hp),itv=.ref it/\aJ X pins σ H' s2/\Ar X.prog X.w X.K tg J fp it tn/\tn 0 s2.heap/\(∀b∈fp,gR X pins H' b)/\R J H'
def PI(X:Cx)(tg iter:Qh)(wi:TI):Prop:=∀(pins:List (Qe×Obj)) (s:Qf) (σ:St) (H:Hp) (R:It->Hp->Prop),aJ X pins σ H s->wi σ H R->Qj (Ql X.prog X.w) X.A (Qs iter X.env) (λv s1=>Qj (Ql X.prog X.w) X.A (pyIter v) (Mf X pins σ tg R) X.xe s1) X.xe s
theorem Cj{M:Model}{A:Qr}{E:Qd->Qf->Prop}{s:Qf}{tg:Qh}{it:Qe}{u:Qd}{o:Obj}{n:String}{vs:Array Qd}{Q:Unit->Qf->Prop}(ho:s.heap.get? it=some o)(hc:o.cls=.type n)(hd:o.data=.fields vs)(hn:["enumerate","zip","dict_itemiterator","dict_reverseitemiterator","odict_iterator","itertools.zip_longest","itertools.pairwise"].contains n=false)(hQ:Q () s):Qj M A (SM tg (.ref it) u) Q E s:=by unfold SM;cases tg<;>first|exact Qp hQ|(cases u<;>first|exact Qp hQ| (refine Qi (wpAny_load ho ?_);rw[hc,hd];show Qj M A (if (["enumerate","zip","dict_itemiterator","dict_reverseitemiterator","odict_iterator","itertools.zip_longest","itertools.pairwise"].contains n&&vs[0]?==some (Se _))=true then _ else _) Q E s;rw[if_neg (by intro h;rw[hn,Bool.false_and]at h;cases h)];exact Qp hQ))
def Lm(K:⇑0)(a:Qe):It:=⟨λi H=>∃xs x,jR K H a xs/\xs[i]?=some x,λi H x H'=>H'=H/\∀xs,jR K H a xs->xs[i]?=some x,λi H=>∃xs,jR K H a xs/\xs.length<=i⟩
def Ln(K:⇑0)(a:Qe):It:=⟨λi H=>∃xs x,eO K H a xs/\xs[i]?=some x,λi H x H'=>H'=H/\∀xs,eO K H a xs->xs[i]?=some x,λi H=>∃xs,eO K H a xs/\xs.length<=i⟩
def K7(lo:Int)(n:Nat):It:=⟨λi _=>i<n,λi H x H'=>H'=H/\x=.int (lo+i),λi _=>n<=i⟩
theorem Bn{P:Qn}{w:Qk}{K:⇑0}{tg:Qh}(a it:Qe):Ar P w K tg (Lm K a) [it] it (λi h=>h.IsListIter it a i) where
 mem:=by simp
 obj:=λi h st b hb=>by
  have e:b=it:=by simpa using hb
  subst e;obtain⟨o,e,c,d⟩:=st;exact⟨o,e,λv z=>by rw[d]at z;cases z⟩
 keep:=λi h h' st k=>st.at λo e=>k it ↥1 o e;item:=by intro X hP hw hK hc i pins s σ H E I hf st hg;subst hP hw hK;obtain⟨xs,x,hq,hx⟩:=hg;obtain⟨its,rv,p,hz⟩:=I.list hq;obtain⟨u,hu,ru⟩:=rv.get hx;obtain⟨f0,f1,f2,f3,f4,f5⟩:=hf it ↥1;refine wpAny_pyNext_list_item st p.isList (x:=u) (by simpa using hu) λh' st' sb=>?_;have I1:aJ X pins σ H {s with heap:=h'}:=I.turned (t':=s.toks) (λb o hb e=>(sb.2 b hb).trans e) f0 f1 f3 f4 f5;obtain⟨o,e,c,d⟩:=id st';exact⟨u,rfl,Cj (s:={s with heap:=h'}) e c d ⋯ ⟨x,H,I1,ru,⟨rfl,λys hy=>by rw[I.list_inj hy hq];exact hx⟩,st',λb hb=>(hf b hb).1⟩⟩
 done:=by intro X hP hw hK hc i pins s σ H E I hf st hg;subst hP hw hK;obtain⟨xs,hq,hx⟩:=hg;obtain⟨its,rv,p,hz⟩:=I.list hq;obtain⟨f0,f1,f2,f3,f4,f5⟩:=hf it ↥1;have hl:=rv.length;exact wpAny_pyNext_list_end (I.ok.hd hc) st p.isList ↥7 λh' eb=>⟨rfl,I.turned (t':=s.toks) (λb o hb e=>eb b o hb e) f0 f1 f3 f4 f5⟩
 self:=λ_ _ _ _ _ st h=>wpAny_pyIter_listiter st h
theorem yZ{P:Qn}{w:Qk}{K:⇑0}{tg:Qh}(a it:Qe):Ar P w K tg (Ln K a) [it] it (λi h=>h.IsTupleIter it a i) where
 mem:=by simp
 obj:=λi h st b hb=>by
  have e:b=it:=by simpa using hb
  subst e;obtain⟨o,e,c,d⟩:=st;exact⟨o,e,λv z=>by rw[d]at z;cases z⟩
 keep:=λi h h' st k=>st.at λo e=>k it ↥1 o e;item:=by intro X hP hw hK hc i pins s σ H E I hf st hg;subst hP hw hK;obtain⟨xs,x,hq,hx⟩:=hg;obtain⟨its,rv,p,hz⟩:=I.tuple hq;obtain⟨u,hu,ru⟩:=rv.get hx;obtain⟨f0,f1,f2,f3,f4,f5⟩:=hf it ↥1;refine wpAny_pyNext_tuple_item st (show s.heap.IsTuple a its.toArray from p) (x:=u) (by simpa using hu) λh' st' sb=>?_;have I1:aJ X pins σ H {s with heap:=h'}:=I.turned (t':=s.toks) (λb o hb e=>(sb.2 b hb).trans e) f0 f1 f3 f4 f5;obtain⟨o,e,c,d⟩:=id st';exact⟨u,rfl,Cj (s:={s with heap:=h'}) e c d ⋯ ⟨x,H,I1,ru,⟨rfl,λys hy=>by rw[I.tuple_inj hy hq];exact hx⟩,st',λb hb=>(hf b hb).1⟩⟩
 done:=by intro X hP hw hK hc i pins s σ H E I hf st hg;subst hP hw hK;obtain⟨xs,hq,hx⟩:=hg;obtain⟨its,rv,p,hz⟩:=I.tuple hq;obtain⟨f0,f1,f2,f3,f4,f5⟩:=hf it ↥1;have hl:=rv.length;exact wpAny_pyNext_tuple_end (I.ok.hd hc) st (show s.heap.IsTuple a its.toArray from p) ↥7 λh' eb=>⟨rfl,I.turned (t':=s.toks) (λb o hb e=>eb b o hb e) f0 f1 f3 f4 f5⟩
 self:=λ_ _ _ _ _ st h=>wpAny_pyIter_tupleiter st h
theorem yY{P:Qn}{w:Qk}{K:⇑0}{tg:Qh}(it:Qe)(lo:Int)(n:Nat):Ar P w K tg (K7 lo n) [it] it (λi h=>IsRangeIter h it (lo+(i:Nat)*1) ((n:Int)-(i:Nat)) 1) where
 mem:=by simp
 obj:=λi h st b hb=>by
  have e:b=it:=by simpa using hb
  subst e;exact⟨_,st,λv z=>by have z':Data.fields _=Data.cell v:=z;cases z'⟩
 keep:=λi h h' st k=>k it ↥1 _ st;item:=by intro X hP hw hK hc i pins s σ H E I hf st hg;subst hP hw hK;obtain⟨f0,f1,f2,f3,f4,f5⟩:=hf it ↥1;have W:=Walks.range (prog:=X.prog) (w:=X.w) (I.ok.hd hc) it lo 1 n;refine W.item i s _ _ hg st λv h' tk hv st' kk=>?_;obtain⟨t,rfl⟩:=hv;have I1:aJ X pins σ H {s with heap:=h',toks:=tk}:=I.turned (λb o hb e=>kk b o (by simpa using hb) e) f0 f1 f3 f4 f5;refine⟨_,rfl,Cj (s:={s with heap:=h',toks:=tk}) (n:="range_iterator") st' rfl rfl ⋯ ⟨.int (lo+i),H,I1,⟨t,?_⟩,⟨rfl,rfl⟩,st',λb hb=>(hf b hb).1⟩⟩;rw[Int.mul_one]
 done:=by intro X hP hw hK hc i pins s σ H E I hf st hg;subst hP hw hK;obtain⟨f0,f1,f2,f3,f4,f5⟩:=hf it ↥1;exact wpAny_pyNext_range_end (I.ok.hd hc) st (by have:n<=i:=hg;lia) λh' eb=>⟨rfl,I.turned (t':=s.toks) (λb o hb e=>eb b o hb e) f0 f1 f3 f4 f5⟩
 self:=λ_ _ _ _ _ st h=>wpAny_pyIter_rangeiter st h
section
variable{X:Cx}{tg:Qh}
def Hc(K:⇑0)(tl:TE):TI:=λσ H R=>tl σ H λx H1=>∃a,x=.ref a/\(∃xs,jR K H1 a xs)/\R (Lm K a) H1
def HU(K:⇑0)(tl:TE):TI:=λσ H R=>tl σ H λx H1=>∃a,x=.ref a/\(∃xs,eO K H1 a xs)/\R (Ln K a) H1
theorem FX{l:Qh}{tl:TE}(hl:PE X l tl):PI X tg l (Hc X.K tl):=by
 intro pins s σ H R I h;refine cj (hl pins s σ H _ I h) λv s1⟨x,H1,I1,r1,q1⟩=>?_;obtain⟨a,e,⟨xs,hq⟩,q⟩:=q1;subst e;cases r1;obtain⟨its,rv,p,hz⟩:=I1.list hq;refine wpAny_pyIter_list p.isList ?_;refine⟨↑s1,[↑s1],_,_,H1,rfl,I1.kept (t':=s1.toks) λb o e=>QG _ e,Bn a _,⟨_,Rf _ rfl,rfl,rfl⟩,λb hb=>?_,q⟩;have e:b=↑s1:=by simpa using hb
 subst e;exact I1.fpOk ↥8 (I1.hok.fresh ↥8)
theorem Dd{l:Qh}{tl:TE}(hl:PE X l tl):PI X tg l (HU X.K tl):=by
 intro pins s σ H R I h;refine cj (hl pins s σ H _ I h) λv s1⟨x,H1,I1,r1,q1⟩=>?_;obtain⟨a,e,⟨xs,hq⟩,q⟩:=q1;subst e;cases r1;obtain⟨its,rv,p,hz⟩:=I1.tuple hq;refine Uo (show s1.heap.IsTuple a its.toArray from p) ?_;refine⟨↑s1,[↑s1],_,_,H1,rfl,I1.kept (t':=s1.toks) λb o e=>QG _ e,yZ a _,⟨_,Rf _ rfl,rfl,rfl⟩,λb hb=>?_,q⟩;have e:b=↑s1:=by simpa using hb
 subst e;exact I1.fpOk ↥8 (I1.hok.fresh ↥8)
theorem DC{pins:List (Qe×Obj)}{σ:St}{H:Hp}{s:Qf}{R:It->Hp->Prop}{E:Qd->Qf->Prop}{lo hi:Int}{t u v:Tok}{tk:Nat}(I:aJ X pins σ H s)(h1:-(2^62)<=lo)(h2:lo<2^62)(h3:-(2^62)<=hi)(h4:hi<2^62)(q:R (K7 lo (hi-lo).toNat) H):Qj (Ql X.prog X.w) X.A (pyIter (.ref ↑s)) (Mf X pins σ tg R) E {s with heap:=s.heap.push {cls:=.type "range",data:=.fields #[.int lo t,.int hi u,.int 1 v]},toks:=tk}:=by
 refine wpAny_pyIter_range (IsRange.new ..) (small_one h1 h2 h3 h4) ?_;have I1:aJ X pins σ H {s with heap:=s.heap.push {cls:=.type "range",data:=.fields #[.int lo t,.int hi u,.int 1 v]},toks:=tk}:=I.kept λb o e=>QG _ e;refine⟨(s.heap.push {cls:=.type "range",data:=.fields #[.int lo t,.int hi u,.int 1 v]}).objs.size,[(s.heap.push {cls:=.type "range",data:=.fields #[.int lo t,.int hi u,.int 1 v]}).objs.size],_,_,H,rfl,I1.kept (t':=tk) λb o e=>QG _ e,yY _ lo (hi-lo).toNat,?_,λb hb=>?_,q⟩
 ·have e1:lo+((0:Nat):Int)*1=lo:=by simp
  have e2:(((hi-lo).toNat:Nat):Int)-((0:Nat):Int)=QW lo hi 1:=by rw[rangeSize_one];split<;>lia
  show IsRangeIter _ _ (lo+((0:Nat):Int)*1) ((((hi-lo).toNat:Nat):Int)-((0:Nat):Int)) 1;rw[e1,e2];exact Rf _ rfl
 ·have e:b=(s.heap.push {cls:=.type "range",data:=.fields #[.int lo t,.int hi u,.int 1 v]}).objs.size:=by simpa using hb
  subst e;exact I1.fpOk ↥8 (I1.hok.fresh ↥8)
def J1(ta:TA):TI:=λσ H R=>ta σ H λvs H1=>∃j:Int,vs=[.int j]/\-(2^62)<=j/\j<2^62/\R (K7 0 j.toNat) H1
theorem A7{a:Qh}{ta:TA}{p pos:Pos}(hg:Gl X "range")(hm:X.mg "range"=none)(ha:PA X [a] ta)(hs:Qq [a] X.env=[(false,Qs a X.env)]:=by rfl):PI X tg (.Call (.Name "range" p) [a] [] pos) (J1 ta):=by intro pins s σ H R I h;refine Call_ (nX I hg hm boot_range (UO (cj (ha pos pins s σ H _ I h) λus s1⟨vs,H1,I1,r1,q1⟩=>?_) hs rfl));obtain⟨j,e,q1,q2,q⟩:=q1;subst e;cases r1 with|cons r rr=>cases rr;obtain⟨t,rfl⟩:=r;exact call_range_1 (DC I1 ↥0 ↥0 q1 q2 (by simpa using q))
def L6(wi:TI)(g:TG)(tb:TS):TS:=λD σ H=>wi σ H λJ H1=>∃W:Nat->Nat->St->Hp->Prop,(∃m,W 0 m σ H1)/\∀i m σ H,W i m σ H->(J.stop i H/\D.nx σ H)\/(J.go i H/\∃N:St->Hp->Prop,(∀σ' H',N σ' H'->∃m',m'<m/\W (i+1) m' σ' H')/\∀x H',J.yld i H x H'->g x σ H' λσ2 H2=>tb {D with nx:=N,ct:=N,bk:=D.nx} σ2 H2)
def ka(fp:List Qe)(h:Qm):List (Qe×Obj):=fp.filterMap λb=>(h.get? b).map λo=>(b,o)
theorem bQ{fp:List Qe}{h:Qm}{b:Qe}{o:Obj}(hb:b∈fp)(e:h.get? b=some o):(b,o)∈ka fp h:=Vr.mpr ⟨b,hb,by rw[e];rfl⟩
theorem AZ{fp:List Qe}{h:Qm}{p:Qe×Obj}(hp:p∈ka fp h):p.1∈fp/\h.get? p.1=some p.2:=by obtain⟨b,hb,e⟩:=Vr.mp hp;cases q:h.get? b with|none=>rw[q]at e;cases e|some o=>rw[q]at e;have e':(b,o)=p:=QY e;subst e';exact⟨hb,q⟩
theorem aJ.pinned{pins:List (Qe×Obj)}{σ:St}{H:Hp}{s:Qf}{fp:List Qe}(I:aJ X pins σ H s)(hf:∀b∈fp,gR X pins H b)(ho:∀b∈fp,∃o,s.heap.get? b=some o/\∀v,o.data≠.cell v):aJ X (pins++ka fp s.heap) σ H s:=I.pins_of λp hp=>(P' hp).elim (λz=>I.pin p (QL _ z)) λz=>by obtain⟨hb,e⟩:=AZ z;obtain⟨f0,f1,f2,_⟩:=hf p.1 hb;obtain⟨o,e',d⟩:=ho p.1 hb;rw[e]at e';cases e';exact⟨e,f0,f1,f2,d⟩
theorem aJ.unpinned{pins pl:List (Qe×Obj)}{σ:St}{H:Hp}{s:Qf}(I:aJ X (pins++pl) σ H s):aJ X pins σ H s:=I.pins_of λp hp=>I.pin p (QL _ (UL _ hp))
theorem IP{iter:Qh}{body:List Qo}{wi:TI}{g:TG}{tb:TS}{pos:Pos}(hp:PassesOwn (Ql X.prog X.w) X.A X.env X.xe)(hc:X.calm=true)(hi:PI X tg iter wi)(hg:PG X tg g)(hb:mD X body tb)(hs:∀x,Rl iter X.env x=pure x:=by intro _;rfl):PS X (.For tg iter body [] pos) (L6 wi g tb):=by
 intro pins s σ H D I h;refine wpAny_For (cj (hi pins s σ H _ I h) λv s1 h1=>cj h1 λitv s2 h2=>?_) hs;obtain⟨it,fp,tn,J,H2,e,I2,T,st2,f2,W,⟨m0,w0⟩,turn⟩:=h2;subst e;have stat:∀{H':Hp},(∀b∈fp,H' b=none)->∀b∈fp,gR X pins H' b:=λhn b hb=>⟨hn b hb,(f2 b hb).2⟩;refine codeAny_forLoop_any (λn s'=>∃i σ' H',aJ X pins σ' H' s'/\tn i s'.heap/\(∀b∈fp,H' b=none)/\W i n σ' H') ?_ m0 ⟨0,σ,H2,I2,st2,λb hb=>(f2 b hb).1,w0⟩;rintro n s3⟨i,σ3,H3,I3,st3,fr3,w3⟩;rcases turn i n σ3 H3 w3 with⟨stop,qn⟩|⟨go,N,hN,step⟩;·refine Tz hp (cj (T.done X rfl rfl rfl hc i pins s3 σ3 H3 X.xe I3 (stat fr3) st3 stop) λr s4⟨hr,I4⟩=>?_);subst hr;exact UN ⟨σ3,H3,I4,qn⟩
 ·refine Tz hp (cj (T.item X rfl rfl rfl hc i pins s3 σ3 H3 X.xe I3 (stat fr3) st3 go) λr s4⟨u,hr,h4⟩=>?_);subst hr;refine Tz hp (cj h4 λ_ s5⟨x,H5,I5,r5,y5,st5,fr5⟩=>?_);have I5':=I5.pinned (stat fr5) (T.obj _ _ st5);refine Tz hp (cj (hg _ s5 σ3 H5 x u _ I5' r5 (step x H5 y5)) λ_ s6⟨σ6,H6,I6,q6⟩=>?_);refine Tz hp (cj (hb _ s6 σ6 H6 _ I6 q6) λf s7 q7=>?_);have QT:∀{σ7:St}{H7:Hp},aJ X (pins++ka fp s5.heap) σ7 H7 s7->N σ7 H7->∃m,m<n/\∃i σ' H',aJ X pins σ' H' s7/\tn i s7.heap/\(∀b∈fp,H' b=none)/\W i m σ' H':=fun{σ7 H7}I7 n7=>by obtain⟨m',hm,w7⟩:=hN σ7 H7 n7;refine⟨m',hm,i+1,σ7,H7,I7.unpinned,T.keep _ _ _ st5 λb hb o e=>(I7.pin (b,o) (QL _ (QL _ (bQ hb e)))).1,λb hb=>?_,w7⟩;obtain⟨o,e,d⟩:=T.obj _ _ st5 b hb;exact(I7.pin (b,o) (QL _ (QL _ (bQ hb e)))).2.1
  cases f with|next=>obtain⟨σ7,H7,I7,n7⟩:=q7;exact QT I7 n7|cont=>obtain⟨σ7,H7,I7,n7⟩:=q7;exact QT I7 n7|brk=>obtain⟨σ7,H7,I7,q7⟩:=q7;exact⟨σ7,H7,I7.unpinned,q7⟩|ret v=>obtain⟨x7,σ7,H7,I7,r7,q7⟩:=q7;exact⟨x7,σ7,H7,I7.unpinned,r7,q7⟩
end
abbrev R2:=V->V->Hp->VK->Prop
def kB(X:Cx)(f:Qd->Qd->Sem Qd)(r:R2):Prop:=∀(pins:List (Qe×Obj)) (s:Qf) (σ:St) (H:Hp) (x y:V) (v u:Qd) (Q:VK),aJ X pins σ H s->bC x v->bC y u->r x y H Q->Qj (Ql X.prog X.w) X.A (f v u) (EP X pins σ Q) X.xe s
def K'(X:Cx)(f:Qd->Sem Qd)(r:V->Hp->VK->Prop):Prop:=∀(pins:List (Qe×Obj)) (s:Qf) (σ:St) (H:Hp) (x:V) (v:Qd) (Q:VK),aJ X pins σ H s->bC x v->r x H Q->Qj (Ql X.prog X.w) X.A (f v) (EP X pins σ Q) X.xe s
def eA(X:Cx)(f:Qd)(r:List V->Hp->VK->Prop):Prop:=∀(pins:List (Qe×Obj)) (s:Qf) (σ:St) (H:Hp) (xs:List V) (us:List Qd) (Q:VK),aJ X pins σ H s->a' xs us->r xs H Q->Qj (Ql X.prog X.w) X.A (call f us) (EP X pins σ Q) X.xe s
def Jo(r:R2)(ta tb:TE):TE:=λσ H Q=>ta σ H λx H1=>tb σ H1 λy H2=>r x y H2 Q
def Ms(r:V->Hp->VK->Prop)(ta:TE):TE:=λσ H Q=>ta σ H λx H1=>r x H1 Q
def rI(C:Int->Int->Prop)(g:Int->Int->V):R2:=λx y H Q=>∃i j,x=.int i/\y=.int j/\C i j/\Q (g i j) H
def Ba(g:Int->Int->V):R2:=λx y H Q=>∃i j,x=.int i/\y=.int j/\Q (g i j) H
def rU(g:Int->V):V->Hp->VK->Prop:=λx H Q=>∃i,x=.int i/\Q (g i) H
section
variable{X:Cx}{a b c:Qh}{ta tb tc:TE}{pos:Pos}
theorem HF(ha:PE X a ta)(hb:PE X b tb){pins:List (Qe×Obj)}{s:Qf}{σ:St}{H:Hp}{R:V->V->Hp->Prop}(I:aJ X pins σ H s)(h:ta σ H λx H1=>tb σ H1 λy H2=>R x y H2){Q:Qd->Qf->Prop}{f:Qd->Qd->Sem Qd}(hf:∀v u s2 x y H2,aJ X pins σ H2 s2->bC x v->bC y u->R x y H2->Qj (Ql X.prog X.w) X.A (f v u) Q X.xe s2):Qj (Ql X.prog X.w) X.A (Qs a X.env) (λv s₁=>Qj (Ql X.prog X.w) X.A (Qs b X.env) (λu s₂=>Qj (Ql X.prog X.w) X.A (f v u) Q X.xe s₂) X.xe s₁) X.xe s:=by refine cj (ha pins s σ H _ I h) λv s1⟨x,H1,I1,r1,q1⟩=>?_;refine cj (hb pins s1 σ H1 _ I1 q1) λu s2⟨y,H2,I2,r2,q2⟩=>?_;exact hf v u s2 x y H2 I2 r1 r2 q2
theorem C8{op:Operator}{r:R2}(ho:kB X (Rz op) r)(ha:PE X a ta)(hb:PE X b tb):PE X (.BinOp a op b pos) (Jo r ta tb):=by intro pins s σ H Q I h;exact wpAny_BinOp (HF ha hb I h λv u s2 x y H2 I2 rx ry q=>ho pins s2 σ H2 x y v u Q I2 rx ry q)
theorem Ks{op:UnaryOp}{r:V->Hp->VK->Prop}(ho:K' X (unaryOp op) r)(ha:PE X a ta):PE X (.UnaryOp op a pos) (Ms r ta):=by intro pins s σ H Q I h;exact UnaryOp_ (cj (ha pins s σ H _ I h) λv s1⟨x,H1,I1,r1,q1⟩=>ho pins s1 σ H1 x v Q I1 r1 q1)
theorem Kl{f:Qd->Qd->Sem Qd}{C:Int->Int->Prop}{g:Int->Int->Int}(rule:∀(i j:Int) (t u:Tok) (s:Qf) (Q:Qd->Qf->Prop) (E:Qd->Qf->Prop),C i j->Q (.int (g i j) s.toks) {s with toks:=s.toks+1}->Qj (Ql X.prog X.w) X.A (f (.int i t) (.int j u)) Q E s):kB X f (rI C λi j=>.int (g i j)):=by intro pins s σ H x y v u Q I rx ry h;obtain⟨i,j,rfl,rfl,hc,q⟩:=h;obtain⟨t,rfl⟩:=rx;obtain⟨t',rfl⟩:=ry;exact rule i j t t' s _ _ hc ⟨.int (g i j),H,I.tok _,⟨_,rfl⟩,q⟩
theorem Km{f:Qd->Qd->Sem Qd}{g:Int->Int->Int}(rule:∀(i j:Int) (t u:Tok) (s:Qf) (Q:Qd->Qf->Prop) (E:Qd->Qf->Prop),Q (.int (g i j) s.toks) {s with toks:=s.toks+1}->Qj (Ql X.prog X.w) X.A (f (.int i t) (.int j u)) Q E s):kB X f (Ba λi j=>.int (g i j)):=by intro pins s σ H x y v u Q I rx ry h;obtain⟨i,j,rfl,rfl,q⟩:=h;obtain⟨t,rfl⟩:=rx;obtain⟨t',rfl⟩:=ry;exact rule i j t t' s _ _ ⟨.int (g i j),H,I.tok _,⟨_,rfl⟩,q⟩
theorem IA{f:Qd->Qd->Sem Qd}{g:Int->Int->Bool}(rule:∀(i j:Int) (t u:Tok) (s:Qf) (Q:Qd->Qf->Prop) (E:Qd->Qf->Prop),Q (.bool (g i j)) s->Qj (Ql X.prog X.w) X.A (f (.int i t) (.int j u)) Q E s):kB X f (Ba λi j=>.bl (g i j)):=by intro pins s σ H x y v u Q I rx ry h;obtain⟨i,j,rfl,rfl,q⟩:=h;obtain⟨t,rfl⟩:=rx;obtain⟨t',rfl⟩:=ry;exact rule i j t t' s _ _ ⟨.bl (g i j),H,I,rfl,q⟩
def Hv(i j:Int):Prop:=0<=j/\j<=1000000/\i.natAbs<2^64
def Ex(i j:Int):Prop:=(-(2^64)<i/\i<2^64)\/(-(2^64)<j/\j<2^64)
theorem Ex.ok{i j:Int}(h:Ex i j):IntMulOk i j:=by
 rcases h with⟨h1,h2⟩|⟨h1,h2⟩;·exact .of_left (intBits_le_64 h1 h2)
 ·exact .of_right (intBits_le_64 h1 h2)
theorem CY:kB X (Rz .Add) (Ba λi j=>.int (i+j)):=Km λ_ _ _ _ _ _ _ q=>add_int q
theorem IG:kB X (Rz .Sub) (Ba λi j=>.int (i-j)):=Km λ_ _ _ _ _ _ _ q=>sub_int q
theorem IC:kB X (Rz .Mult) (rI Ex λi j=>.int (i*j)):=Kl λ_ _ _ _ _ _ _ hc q=>mul_int q hc.ok
theorem FH:kB X (Rz .Mod) (rI (λ_ j=>j≠0) λi j=>.int (i.fmod j)):=Kl λ_ _ _ _ _ _ _ hc q=>mod_int' hc q
theorem IE:kB X (Rz .Pow) (rI Hv λi j=>.int (i^j.toNat)):=Kl λ_ _ _ _ _ _ _ hc q=>pow_int_small hc.1 hc.2.1 hc.2.2 q
theorem MO{f:Qd->Sem Qd}{g:Int->Int}(rule:∀(i:Int) (t:Tok) (s:Qf) (Q:Qd->Qf->Prop) (E:Qd->Qf->Prop),Q (.int (g i) s.toks) {s with toks:=s.toks+1}->Qj (Ql X.prog X.w) X.A (f (.int i t)) Q E s):K' X f (rU λi=>.int (g i)):=by intro pins s σ H x v Q I rx h;obtain⟨i,rfl,q⟩:=h;obtain⟨t,rfl⟩:=rx;exact rule i t s _ _ ⟨.int (g i),H,I.tok _,⟨_,rfl⟩,q⟩
theorem Jy:K' X (unaryOp .USub) (rU λi=>.int (-i)):=MO λ_ _ _ _ _ q=>neg_int q
end
section
variable{X:Cx}{a b c:Qh}{ta tb tc:TE}{pos:Pos}
theorem Kq:kB X (SD .Lt) (Ba λi j=>.bl (decide (i<j))):=IA λ_ _ _ _ _ _ _ q=>lt_int q
theorem Ko:kB X (SD .Gt) (Ba λi j=>.bl (decide (j<i))):=IA λ_ _ _ _ _ _ _ q=>gt_int q
theorem Kn:kB X (SD .GtE) (Ba λi j=>.bl (decide (j<=i))):=IA λ_ _ _ _ _ _ _ q=>ge_int q
theorem kB.or{f:Qd->Qd->Sem Qd}{r r':R2}(h:kB X f r)(h':kB X f r'):kB X f (λx y H Q=>r x y H Q\/r' x y H Q):=by
 intro pins s σ H x y v u Q I rx ry q;rcases q with q|q;·exact h pins s σ H x y v u Q I rx ry q
 ·exact h' pins s σ H x y v u Q I rx ry q
theorem bg(b:Qh){op:CmpOp}(h:op≠.In:=by decide)(h2:op≠.NotIn:=by decide):Tj op b=false:=by
 have e1:(op==CmpOp.In)=false:=by cases op<;>first|rfl|exact absurd rfl h
 have e2:(op==CmpOp.NotIn)=false:=by cases op<;>first|rfl|exact absurd rfl h2
 cases b<;>simp[Tj,e1,e2]
theorem zH{op:CmpOp}{r:R2}(ho:kB X (SD op) r)(ha:PE X a ta)(hb:PE X b tb)(hm:Tj op b=false):PE X (.Compare a [op] [b] pos) (Jo r ta tb):=by intro pins s σ H Q I h;exact wpAny_Compare1 (HF ha hb I h λv u s2 x y H2 I2 rx ry q=>ho pins s2 σ H2 x y v u Q I2 rx ry q) hm
def K1(t:TE):TT:=λσ H Q=>t σ H λx H'=>∃k,x=.bl k/\Q k H'
theorem Gc{op:CmpOp}{r:R2}(ho:kB X (SD op) r)(ha:PE X a ta)(hb:PE X b tb)(hm:Tj op b=false):PT X (.Compare a [op] [b] pos) (K1 (Jo r ta tb)):=by intro pins s σ H Q I h;refine wpAny_isTrue_Compare1 (cj (ha pins s σ H _ I h) λv s1⟨x,H1,I1,r1,q1⟩=>cj (hb pins s1 σ H1 _ I1 q1) λu s2⟨y,H2,I2,r2,q2⟩=>cj (ho pins s2 σ H2 x y v u _ I2 r1 r2 q2) λc s3⟨z,H3,I3,r3,k,e,q3⟩=>?_) hm;subst e;cases r3;exact wpAny_truthy_bool ⟨H3,I3,q3⟩
theorem uX:(Qv:Nat)<2^63:=by rw[Rm];decide
theorem xU{x:V}{us:List Qd}(r:a' [x] us):∃u,us=[u]/\bC x u:=by cases r with|cons r1 r2=>cases r2;exact⟨_,rfl,r1⟩
theorem Hu{x y:V}{us:List Qd}(r:a' [x,y] us):∃u w',us=[u,w']/\bC x u/\bC y w':=by cases r with|cons r1 r2=>cases r2 with|cons r3 r4=>cases r4;exact⟨_,_,rfl,r1,r3⟩
theorem BR:eA X (.builtin "abs") (λxs H Q=>∃i,xs=[.int i]/\Q (.int (if i<0 then-i else i)) H):=by intro pins s σ H xs us Q I r h;obtain⟨i,rfl,q⟩:=h;obtain⟨u,rfl,t,rfl⟩:=xU r;exact call_abs_int λu tk=>⟨.int (if i<0 then-i else i),H,I.tok _,⟨_,rfl⟩,q⟩
theorem Ay(hc:X.calm=true):eA X (.builtin "max") (λxs H Q=>∃i j,xs=[.int i,.int j]/\Q (.int (if j>i then j else i)) H):=by
 intro pins s σ H xs us Q I r h;obtain⟨i,j,rfl,q⟩:=h;obtain⟨u,w',rfl,⟨t,rfl⟩,⟨t',rfl⟩⟩:=Hu r;refine max_two_ints (I.ok.hd hc) λh' tk k=>⟨_,H,I.kept k,?_,q⟩;by_cases hj:j>i;·rw[if_pos hj,if_pos hj];exact⟨_,rfl⟩
 ·rw[if_neg hj,if_neg hj];exact⟨_,rfl⟩
theorem Az(hc:X.calm=true):eA X (.builtin "min") (λxs H Q=>∃i j,xs=[.int i,.int j]/\Q (.int (if j<i then j else i)) H):=by
 intro pins s σ H xs us Q I r h;obtain⟨i,j,rfl,q⟩:=h;obtain⟨u,w',rfl,⟨t,rfl⟩,⟨t',rfl⟩⟩:=Hu r;refine min_two_ints (I.ok.hd hc) λh' tk k=>⟨_,H,I.kept k,?_,q⟩;by_cases hj:j<i;·rw[if_pos hj,if_pos hj];exact⟨_,rfl⟩
 ·rw[if_neg hj,if_neg hj];exact⟨_,rfl⟩
theorem Aw:eA X (.type "int") (λxs H Q=>(∃i,xs=[.int i]/\Q (.int i) H)\/∃k,xs=[.bl k]/\Q (.int (if k then 1 else 0)) H):=by
 intro pins s σ H xs us Q I r h;rcases h with⟨i,rfl,q⟩|⟨k,rfl,q⟩;·obtain⟨u,rfl,t,rfl⟩:=xU r;exact call_int_int ⟨.int i,H,I,⟨_,rfl⟩,q⟩
 ·obtain⟨u,rfl,r1⟩:=xU r;cases r1;exact call_int_bool ⟨.int (if k then 1 else 0),H,I.tok _,⟨_,rfl⟩,q⟩
end
structure MA (h:Qm) (x dx C:Qe) (mA:Str->Option Qd):Prop where
 obj:h.get? x=some (PySem.W.instObj C dx)ns:h.Ns1 dx mA
 ne:dx≠x
section
variable{prog:Qn}{w:Qk}{A:Qr}{E:Qd->Qf->Prop}{s:Qf}{K:⇑0}{x dx C f:Qe}{mA:Str->Option Qd}{name:Str}{v:Qd}
end
theorem vL.some_of{v:V}{o:Option Qd}(r:vL (some v) o):∃u,o=some u/\bC v u:=by cases o with|none=>exact(show False from r).elim|some u=>exact⟨u,rfl,r⟩
section
variable{P:Qn}{w:Qk}{H H':Hp}{h h':Qm}{a C dx:Qe}{fs fs':List (Str×V)}
end
structure Mw (K:⇑0) (C:Qe):Prop where
 pg:PySem.W.plainGet K C Tb=true
 hd:PySem.W.hasDictIn K C=true
 po:PySem.W.plainOver K C=true
 sa:Up K (.ref C) "__setattr__"=some (some (.builtin "object.__setattr__"))
structure MQ (K:⇑0) (C:Qe) (f:Str) (v:V) (u:Qd):Prop where
 at_:Up K (.ref C) f=some (some u)rel:bC v u
 get:PySem.W.specialIn K u "__get__"=some none
 cp:PySem.W.copiedNames.contains f=false
structure Mz (K:⇑0) (C:Qe) (m:Str) (f:Qe):Prop where
 at_:Up K (.ref C) m=some (some (.ref f))fn:PySem.W.isFn K (.ref f)=true
 kp:Tn K (.ref f)=true
section
variable{X:Cx}{pins:List (Qe×Obj)}{σ:St}{H:Hp}{s:Qf}{a C dx:Qe}{fs:List (Str×V)}{f:Str}{v:V}{A:Qr}{E:Qd->Qf->Prop}
end
section
variable{X:Cx}{o e value:Qh}{f:Str}{pos pos' tpos:Pos}{ta tv:TE}
end
section
variable{X:Cx}{pins:List (Qe×Obj)}{σ:St}{H:Hp}{s:Qf}{A:Qr}{E:Qd->Qf->Prop}{Q:Qd->Qf->Prop}{c:Qd}{b:Bool}
inductive qc (K:⇑0) (H:Hp):V->Qd->Prop where|non:qc K H .non (.type "NoneType")|bl (x:Bool):qc K H (.bl x) (.type "bool")|int (i:Int):qc K H (.int i) (.type "int")|str (x:Str):qc K H (.str x) (.type "str")|flt (x:UInt64):qc K H (.flt x) (.type "float")|lst{a:Qe}{xs:List V}(e:H a=some (.lst xs)):qc K H (.ref a) (.type "list")|frz{a:Qe}{o:Obj}{xs:List V}(e:H a=some (.frz o (.lst xs))):qc K H (.ref a) (.type "list")|tup{a:Qe}{xs:List V}(e:H a=some (.tup xs)):qc K H (.ref a) (.type "tuple")|dK{a:Qe}{kvs:List (gS×V)}(e:H a=some (.dK kvs)):qc K H (.ref a) (.type "dict")|dT{a:Qe}{kvs:List (List gS×V)}(e:H a=some (.dT kvs)):qc K H (.ref a) (.type "dict")|ins{a C dx:Qe}{fs:List (Str×V)}(e:H a=some (.ins C dx fs)) (cl:Mw K C) (ha:Up K (.ref C) "__class__"=some (some (.builtin "object.__class__")))(hn:PySem.W.specialIn K (.builtin "object.__class__") "__get__"=some (some (.builtin "getset_descriptor.__get__"))) (htk:PySem.W.takesIn K (.builtin "object.__class__")=some true)(hm:PySem.W.mroIn K C (.type "object")=some true):qc K H (.ref a) (.ref C)
end
structure dt (k:Nat) (A:Qr):Prop where
 hd:A.handled=none
 dp:A.depth+3*k+5<recursionLimit
 un:A.units+16*k+200<cLine
 gd:A.guards=some []
theorem dt.mono{j k:Nat}{A:Qr}(r:dt k A)(h:j<=k):dt j A:=⟨r.hd,by have:=r.dp;lia,by have:=r.un;lia,r.gd⟩
theorem dt.deeper{k:Nat}{A:Qr}(r:dt (k+1) A)(env:Env):dt k (A.deeper env):=⟨r.hd,by have:=r.dp;show A.depth+1+3*k+5<_;lia,by have:=r.un;show A.units+3+16*k+200<_;lia,r.gd⟩
theorem dt.depth{k:Nat}{A:Qr}(r:dt k A):A.depth<recursionLimit:=by have:=r.dp;lia
theorem dt.units{k:Nat}{A:Qr}(r:dt k A):A.units+64<cLine:=by have:=r.un;lia
def D8:TA:=λ_ H Q=>Q [] H
def nJ(ta:TE)(tr:TA):TA:=λσ H Q=>ta σ H λx H1=>tr σ H1 λxs H2=>Q (x::xs) H2
section
variable{X:Cx}{e:Qh}{es:List Qh}{te:TE}{t:TA}{pos:Pos}
theorem g_:PA X [] D8:=λ_ _ _ _ H Q I h=>Calls.spliced_nil ⟨[],H,I,.nil,h⟩
theorem bO(ha:PE X e te)(hr:PA X es t)(hs:Qq (e::es) X.env=(false,Qs e X.env)::Qq es X.env:=by rfl):PA X (e::es) (nJ te t):=by intro pos pins s σ H Q I h;rw[hs];show Qj _ _ (spliced ((false,Qs e X.env)::QH pos (Qq es X.env))) _ _ s;refine Calls.spliced_cons (cj (ha pins s σ H _ I h) λu s1⟨x,H1,I1,r1,q1⟩=>?_);exact cj (hr pos pins s1 σ H1 _ I1 q1) λus s2⟨xs,H2,I2,r2,q2⟩=>⟨x::xs,H2,I2,.cons r1 r2,q2⟩
def K2(t:TA):TE:=λσ H Q=>t σ H λxs H1=>xs.length<=Qv/\∀p,H1 p=none->Q (.ref p) (bz H1 p (.tup xs))
def Jn(t:TA):TE:=λσ H Q=>t σ H λxs H1=>xs.length<=Qv/\∀p,H1 p=none->Q (.ref p) (bz H1 p (.lst xs))
theorem IJ{x1}(h:PA X es t):PE X (.Tuple es x1 pos) (K2 t):=by intro pins s σ H Q I hq;refine wpAny_Tuple_spliced (cj (h pos pins s σ H _ I hq) λus s1⟨xs,H1,I1,r,z,q⟩=>⟨by rw[<-r.length];exact z,?_⟩);have hf:H1 ↑s1=none:=I1.hok.fresh ↥8;refine⟨.ref ↑s1,bz H1 ↑s1 (.tup xs),I1.laid (t':=s1.toks) (λb u e=>QG _ e) ↥8 ?_,rfl,q _ hf⟩;exact⟨z,us,r,⟨_,Rf _ rfl,rfl,_,rfl,rfl⟩⟩
theorem rA(h:PA X es t):PE X (.List es pos) (Jn t):=by intro pins s σ H Q I hq;refine wpAny_List_spliced (cj (h pos pins s σ H _ I hq) λus s1⟨xs,H1,I1,r,z,q⟩=>⟨by rw[<-r.length];exact z,?_⟩);have hf:H1 ↑s1=none:=I1.hok.fresh ↥8;refine⟨.ref ↑s1,bz H1 ↑s1 (.lst xs),I1.laid (t':=s1.toks) (λb u e=>QG _ e) ↥8 ?_,rfl,q _ hf⟩;exact⟨z,us,0,r,Rf _ rfl⟩
end
abbrev Sp:=List V->Hp->VK->XK->Prop
abbrev sr:=List Env->Hp->Qf->XK->Qd->Qf->Prop
structure Ey (P:Qn) (w:Qk) (K:⇑0) (mg:Str->Option Qd) (base:Qm) (A:Qr) (outer:List Env) (s:Qf) (H:Hp):Prop where
 frames:A.frames=some outer
 mod:Mod K mg base
 bs:∀b o,base.get? b=some o->s.heap.get? b=some o/\H b=none
 bsz:base.objs.size<=↑s
 funs:s.heap.FunFrames base outer
 frf:∀b∈jA outer,H b=none
 hok:mC P w H s.heap
 bare:SC s.gens
def CE(outer:List Env)(P:Qn)(w:Qk)(H:Hp)(s:Qf)(Q:VK)(u:Qd)(s':Qf):Prop:=∃v H',s'.os=s.os/\SC s'.gens/\Un (jA outer) [] H H' s.heap s'.heap/\mC P w H' s'.heap/\bC v u/\Q v H'
def CR(CX:sr)(outer:List Env)(P:Qn)(w:Qk)(H:Hp)(s:Qf)(Q:VK)(E:XK)(r:Result)(s':Qf):Prop:=match r with|.ok (.ret u)=>CE outer P w H s Q u s'|.ok _=>False|.error e=>CX outer H s E e s'
structure bu (P:Qn) (w:Qk) (K:⇑0) (mg:Str->Option Qd) (base:Qm) (CX:sr) (k:Nat) (f:Qe) (fd:QJ) (ps:List Str) (sp:Sp):Prop where
 len:∀vs H Q E,sp vs H Q E->vs.length=ps.length
 run:∀(A:Qr) (outer:List Env) (s:Qf) (H:Hp) (args:Args) (us:List Qd) (vs:List V) (Q:VK) (E:XK),dt k A->Ey P w K mg base A outer s H->BindsTo s fd args (ps.zip us)->a' vs us->sp vs H Q E->Rh (Ql P w) A (.call (.ref f) args) (CR CX outer P w H s Q E) s
section
variable{X:Cx}{pins:List (Qe×Obj)}{σ:St}{H:Hp}{s s':Qf}
theorem aJ.env0(I:aJ X pins σ H s):Ey X.prog X.w X.K X.mg X.base X.A X.stack s H:=⟨I.ok.frames,I.ok.mod,I.bs,QP I.ok.bsz I.sz,I.stack,I.stkFree,I.hok,I.bare⟩
theorem aJ.after{Q:VK}{u:Qd}(I:aJ X pins σ H s)(h:CE X.stack X.prog X.w H s Q u s'):EP X pins σ Q u s':=by obtain⟨v,H',os,bare,un,hok,r,q⟩:=h;obtain⟨hh,g,d,t,os'⟩:=s';obtain rfl:os'=s.os:=os;exact⟨v,H',I.call (h':=hh) (g':=g) (d':=d) (t':=t) (ch:=[]) un hok bare (λb z=>absurd z ↥1),r,q⟩
end
def z9(sp:Sp)(dvs:List V)(E:XK)(t:TA):TE:=λσ H Q=>t σ H λvs H1=>sp (vs++dvs) H1 Q E
def p8(K:⇑0)(fd:QJ)(ps:List Str)(ds:List Qd):Prop:=∀(s:Qf) (us:List Qd),K.In s.heap->(us++ds).length=ps.length->BindsTo s fd ⟨us,[]⟩ (ps.zip (us++ds))
theorem p8.all{K:⇑0}{fd:QJ}{ps:List Str}(h:∀us:List Qd,us.length=ps.length->bindArgs fd ⟨us,[]⟩=pure (ps.zip us)):p8 K fd ps []:=λs us _ hl=>by rw[RF]at hl⊢;exact .of_eq (h us hl)
def x6(CX:sr)(X:Cx)(E:XK):Prop:=∀(pins:List (Qe×Obj)) (σ:St) (H:Hp) (s:Qf) (e:Qd) (s':Qf),aJ X pins σ H s->CX X.stack H s E e s'->X.xe e s'
section
variable{X:Cx}{CX:sr}{k:Nat}{f C:Qe}{fd:QJ}{ps:List Str}{sp:Sp}{dvs:List V}{ds:List Qd}{E:XK}{x m:Str}{p pos apos:Pos}{e o:Qh}{es:List Qh}{ta:TE}{t:TA}
theorem Ji{pins:List (Qe×Obj)}{σ:St}{H:Hp}{s:Qf}{Q:VK}{us:List Qd}{vs:List V}(F:bu X.prog X.w X.K X.mg X.base CX k f fd ps sp)(hr:dt k X.A)(hb:p8 X.K fd ps ds)(hd:a' dvs ds)(hx:x6 CX X E)(I:aJ X pins σ H s)(r:a' vs us)(h:sp (vs++dvs) H Q E):Qj (Ql X.prog X.w) X.A (call (.ref f) us) (EP X pins σ Q) X.xe s:=by
 have r2:a' (vs++dvs) (us++ds):=r.append hd;have hl:(us++ds).length=ps.length:=by rw[<-r2.length];exact F.len _ _ _ _ h
 refine wpAny_call (Uq (F.run X.A X.stack s H ⟨us,[]⟩ (us++ds) (vs++dvs) Q E hr I.env0 (hb s us I.kIn hl) r2 h) λr s' hq=>?_);cases r with|error e=>exact hx pins σ H s e s' I hq|ok fl=>cases fl with|ret u=>exact I.after hq|next=>exact Ry hq|brk=>exact Ry hq|cont=>exact Ry hq
theorem zG(F:bu X.prog X.w X.K X.mg X.base CX k f fd ps sp)(hr:dt k X.A)(hg:Gl X x)(hm:X.mg x=some (.ref f))(hk:Tn X.K (.ref f)=true)(hb:p8 X.K fd ps ds)(hd:a' dvs ds)(hx:x6 CX X E)(ha:PA X (e::es) t)(hdb:(x==("__debug__":Str))=false:=by decide)(he:Qq (e::es) X.env=(false,Qs e X.env)::Qq es X.env:=by rfl)(hpl:(QH pos (Qq es X.env)).any (·.1)=false:=by rfl):PE X (.Call (.Name x p) (e::es) [] pos) (z9 sp dvs E t):=by intro pins s σ H Q I h;refine Ur (lF I hg hm ?_ hdb);refine Vs (h₀:=X.base) I.ok.mod.kin hk (cj (ha pos pins s σ H _ I h) λus s1⟨vs,H1,I1,r,q⟩=>⟨I1.kIn,?_⟩) he hpl;exact Ji F hr hb hd hx I1 r q
structure Mk (K:⇑0) (C f:Qe):Prop where
 makes:PySem.W.makesIn K C=true
 init:Up K (.ref C) "__init__"=some (some (.ref f))fn:PySem.W.isFn K (.ref f)=true
 kp:Tn K (.ref C)=true
end
section
variable{X:Cx}{CX:sr}{k:Nat}{f C:Qe}{fd:QJ}{ps ks:List Str}{sp:Sp}{E:XK}{x m:Str}{p pos apos kpos:Pos}{e o:Qh}{es:List Qh}{kws:List RG}{te ta:TE}{t tk:TA}{nm:Option Str}
structure Lo (K:⇑0) (fd:QJ) (ps ks:List Str) (g:List Qd->List Qd->List Qd) (gV:List V->List V->List V):Prop where to:∀(s:Qf) (us ws:List Qd),K.In s.heap->(g us ws).length=ps.length->BindsTo s fd ⟨us,ks.zip ws⟩ (ps.zip (g us ws))rel:∀{vs:List V}{us:List Qd}{zs:List V}{ws:List Qd},a' vs us->a' zs ws->a' (gV vs zs) (g us ws)
variable{g:List Qd->List Qd->List Qd}{gV:List V->List V->List V}
end
structure aH (N P:List Str) (sc:Qx):Prop where
 kind:sc.kind=.function
 co:sc.isCoroutine=false
 gen:sc.isGenerator=false
 nd:N.Nodup
 pre:N.take P.length=P
 par:∀x∈P,sc.names.lookup x=some .local\/sc.names.lookup x=some .cell
 nofree:∀y∈sc.names,y.2≠.free
theorem s_{RX:Str->Option RH}{x:Str}:∀{binds:List (Str×Qd)}{m:Str->Option Qd},(∀v,(x,v)∉binds)->bindL RX binds m x=m x
 |[],_,_=>rfl|(n,v)::r,m,h=>by
  unfold bindL;rw[s_ λw hw=>h w (Sm _ hw)];split
  ·have:x≠n:=by rintro rfl;exact h v SY
   simp[this]
  ·rfl
theorem sY{RX:Str->Option RH}{x:Str}:∀{binds:List (Str×Qd)}{m:Str->Option Qd},(∀v,(x,v)∉binds)->bindC RX binds m x=m x
 |[],_,_=>rfl|(n,v)::r,m,h=>by
  unfold bindC;rw[sY λw hw=>h w (Sm _ hw)];split;·rfl
  ·have:x≠n:=by rintro rfl;exact h v SY
   simp[this]
theorem sZ{RX:Str->Option RH}{x:Str}{v:Qd}:∀{P:List Str}{vs:List Qd}{i:Nat}{m:Str->Option Qd},P.Nodup->P[i]?=some x->vs[i]?=some v->RX x=some .local->bindL RX (P.zip vs) m x=some v|[],_,_,_,_,h,_,_=>by simp at h|_::_,[],_,_,_,_,h,_=>by simp at h|p::P,w::vs,0,m,nd,h1,h2,hk=>by simp at h1 h2;subst h1;subst h2;show bindL RX ((p,w)::P.zip vs) m p=_;unfold bindL;rw[s_ λv hv=>(Tc.mp nd).1 (List.of_mem_zip hv).1,if_pos hk];simp|p::P,w::vs,i+1,m,nd,h1,h2,hk=>by show bindL RX ((p,w)::P.zip vs) m x=_;unfold bindL;exact sZ (i:=i) (Tc.mp nd).2 (by simpa using h1) (by simpa using h2) hk
theorem sX{RX:Str->Option RH}{x:Str}{v:Qd}:∀{P:List Str}{vs:List Qd}{i:Nat}{m:Str->Option Qd},P.Nodup->P[i]?=some x->vs[i]?=some v->RX x≠some .local->bindC RX (P.zip vs) m x=some v|[],_,_,_,_,h,_,_=>by simp at h|_::_,[],_,_,_,_,h,_=>by simp at h|p::P,w::vs,0,m,nd,h1,h2,hk=>by simp at h1 h2;subst h1;subst h2;show bindC RX ((p,w)::P.zip vs) m p=_;unfold bindC;rw[sY λv hv=>(Tc.mp nd).1 (List.of_mem_zip hv).1,if_neg hk];simp|p::P,w::vs,i+1,m,nd,h1,h2,hk=>by show bindC RX ((p,w)::P.zip vs) m x=_;unfold bindC;exact sX (i:=i) (Tc.mp nd).2 (by simpa using h1) (by simpa using h2) hk
def dJ(N:List Str)(vs:List V):St:=vs.map some++Qu (N.length-vs.length) none
def fK(CX:sr)(P:Qn)(w:Qk)(K:⇑0)(mg:Str->Option Qd)(base:Qm)(N:List Str)(qual:Str)(scope:Qx)(f:Qe)(cd:Qd)(A:Qr)(outer:List Env)(s:Qf)(H:Hp)(E:XK):Cx where prog:=P;w:=w;K:=K;mg:=mg;base:=base;A:=A.deeper (QF qual scope ↑s f cd);N:=N;s₀:=s;H₀:=H;env:=QF qual scope ↑s f cd;outer:=outer;stack:=QF qual scope ↑s f cd::outer;ex:=[];calm:=true;fn:=λ_=>true;pn:=[];xe:=λe s'=>Qj (Ql P w) (A.deeper (QF qual scope ↑s f cd)) (leaving (QF qual scope ↑s f cd) e) (λ_ s''=>CX outer H s E e s'') (λe' s''=>CX outer H s E e' s'') s'
theorem vU{sc:Qx}{n:Nat}{x:Str}(h:sc.names.lookup x=some .cell):∃c,(QM n sc.names []).lookup x=some c:=by have q:=PySem.W.cellsFrom_some sc.names n [] (.inl h);exact Vt.mp q
theorem AN{CX:sr}{P:Qn}{w:Qk}{K:⇑0}{mg:Str->Option Qd}{base:Qm}{N ps:List Str}{qual:Str}{scope:Qx}{f:Qe}{cd:Qd}{A:Qr}{outer:List Env}{s s1:Qf}{H:Hp}{E:XK}{us:List Qd}{vs:List V}(S:aH N ps scope)(hd:A.handled=none)(e0:Ey P w K mg base A outer s H)(hl:vs.length=ps.length)(r:a' vs us)(x:InCallC s ↑s (bindL (QF qual scope ↑s f cd).kindOf (ps.zip us) λ_=>none) (QM (↑s+1) scope.names []) (bindC (QF qual scope ↑s f cd).kindOf (ps.zip us) λ_=>none) s1):aJ (fK CX P w K mg base N qual scope f cd A outer s H E) [] (dJ N vs) H s1:=by
 have hpl:ps.length<=N.length:=by have:=congrArg List.length S.pre;rw[UP]at this;lia
 obtain⟨h1,tk,rfl,hk⟩:=x.done;have noA:∀b:Qe,b∉(fK CX P w K mg base N qual scope f cd A outer s H E).ex:=λb z=>absurd (show b∈([]:List Qe) from z) ↥1;refine⟨⟨e0.mod,S.kind,rfl,rfl,RJ _,λy z c h1 h2=>?_,λy hy=>?_,λy c _ h=>?_,λ_=>hd,Around.frames_deeper e0.frames,.inr ⟨rfl,rfl⟩,λb z=>absurd z (noA b),e0.bs,e0.bsz,λb _ _=>noA b,λb z=>absurd z (noA b),e0.funs,e0.frf⟩,rfl,e0.bare,Un.kept hk,⟨_,x.toInCall.ns,λi y v h1 h2 h3=>?_⟩,λy c h=>⟨_,x.cell y c h⟩,e0.hok.fresh ↥8,λy c h=>?_,λp hp=>absurd (show p∈([]:List (Qe×Obj)) from hp) ↥1,e0.hok.kept hk,?_⟩;·exact name_of_addr x.apart (Us h1) (Us h2)
 ·have hy:scope.names.lookup y=some .cell\/scope.names.lookup y=some .free:=hy;rcases hy with hy|hy;·exact vU hy
  ·exact absurd rfl (S.nofree _ (Us hy))
 ·exact Tx (x.above y c (Us h))
 ·have hi:i<vs.length:=by
   unfold dJ at h2;by_cases hi:i<vs.length;·exact hi
   ·rw[UQ (by simpa using hi)]at h2;rw[Vu]at h2;split at h2<;>cases h2
  have ha:vs[i]?=some v:=by unfold dJ at h2;rw[Sr (by simpa using hi),QD]at h2;cases e:vs[i]? with|none=>rw[e]at h2;cases h2|some a=>rw[e]at h2;cases h2;rfl
  obtain⟨u,hu,rv⟩:=r.get ha;have hp:ps[i]?=some y:=by rw[<-S.pre,List.getElem?_take_of_lt ↥0];exact h1
  have ndP:ps.Nodup:=by rw[<-S.pre];exact S.nd.sublist (List.take_sublist _ _)
  refine⟨u,rv,?_⟩;rcases S.par y (Qc hp) with k|k;·exact .inl ⟨k,sZ ndP hp hu k⟩
  ·obtain⟨c,e⟩:=vU (n:=↑s+1) k;refine .inr ⟨.inl k,c,e,?_⟩;have q:=x.cell y c e;rw[sX ndP hp hu (by show scope.names.lookup y≠_;rw[k];decide)]at q;exact q
 ·exact e0.hok.fresh (Tx (x.above y c (Us h)))
 ·unfold dJ;show _=N.length;rw[RN,Qz,Vv];lia
theorem Hb{CX:sr}{P:Qn}{w:Qk}{K:⇑0}{mg:Str->Option Qd}{base:Qm}{k:Nat}{f:Qe}{name qual:Str}{params:Arguments}{body:List Qo}{scope:Qx}{dV kV doc pm cdv ct oc:Qd}{an od:Option Qe}{osl:Array (Option Qd)}{N ps:List Str}{sp:Sp}(lk:K.lookup f=some ⟨oc,od,.func (Sf name qual params body scope dV kV doc pm an cdv ct),osl⟩)(hcd:Ut K cdv qual=true)(S:aH N ps scope)(len:∀vs H Q E,sp vs H Q E->vs.length=ps.length)(hbody:∀(A:Qr) (outer:List Env) (s:Qf) (H:Hp) (vs:List V) (Q:VK) (E:XK),dt k (A.deeper (QF qual scope ↑s f cdv))->sp vs H Q E->∃t,mD (fK CX P w K mg base N qual scope f cdv A outer s H E) body t/\t {nx:=λ_ H'=>Q .non H',rt:=Q} (dJ N vs) H):bu P w K mg base CX (k+1) f (Sf name qual params body scope dV kV doc pm an cdv ct) ps sp:=by
 refine⟨len,λA outer s H args us vs Q E hr e0 hb r hsp=>?_⟩;have hl:=len _ _ _ _ hsp;have KX:K.In s.heap:=e0.mod.kin.keeps λb o e=>(e0.bs b o e).1;have lim:s.heap.NoLimit:=e0.mod.nolimit.keeps λb o e=>(e0.bs b o e).1;have hkind:∀y∈ps.zip us,scope.names.lookup y.1=some .local\/(scope.names.lookup y.1=some .cell/\((QM (↑s+1) scope.names []).lookup y.1).isSome=true):=λ⟨n,v⟩hy=>by
  rcases S.par n (List.of_mem_zip hy).1 with q|q;·exact .inl q
  ·exact .inr ⟨q,PySem.W.cellsFrom_some _ _ _ (.inl q)⟩
 refine codeAny_call_function hr.depth (KX _ _ lk) rfl S.co S.gen rfl (PySem.W.codeRec_of KX hcd) (hb _ _ _ _ ?_);refine wpAny_newFunctionEnv_cells S.kind hkind λenv he s1 x=>?_;subst he;refine⟨lim.keeps x.toInCall.keep,codeAny_func ?_⟩;obtain⟨t,ht,hq⟩:=hbody A outer s H vs Q E (hr.deeper _) hsp;have I:aJ (fK CX P w K mg base N qual scope f cdv A outer s H E) [] (dJ N vs) H s1:=AN S hr.hd e0 hl r x;refine Qw (ht [] s1 (dJ N vs) H _ I hq) (λfl s' hs=>?_) λe s' hs=>hs;have fin:∀{σ':St}{H':Hp}{v:V}{u:Qd},aJ (fK CX P w K mg base N qual scope f cdv A outer s H E) [] σ' H' s'->bC v u->Q v H'->CE outer P w H s Q u s':=fun{σ' H' v u}J rv q=>⟨v,H',J.os,J.bare,J.base,J.hok,rv,q⟩;cases fl with|ret u=>obtain⟨v,σ',H',J,rv,q⟩:=hs;exact fin J rv q|next=>obtain⟨σ',H',J,q⟩:=hs;exact fin (v:=V.non) (u:=Value.none) J rfl q|brk=>obtain⟨_,_,_,q⟩:=hs;exact Ry q|cont=>obtain⟨_,_,_,q⟩:=hs;exact Ry q
section
variable{X:Cx}{x:Str}{p pos:Pos}{e:Qh}{es:List Qh}{t:TA}{id T:String}{r:List V->Hp->VK->Prop}
def L5(r:List V->Hp->VK->Prop)(t:TA):TE:=λσ H Q=>t σ H λvs H1=>r vs H1 Q
theorem rq(hc:eA X (.builtin id) r)(hg:Gl X x)(hm:X.mg x=none)(hv:Sb x=some (.builtin id))(ha:PA X (e::es) t)(hn:x≠"__name__":=by decide)(hdb:(x==("__debug__":Str))=false:=by decide)(he:Qq (e::es) X.env=(false,Qs e X.env)::Qq es X.env:=by rfl)(hpl:(QH pos (Qq es X.env)).any (·.1)=false:=by rfl):PE X (.Call (.Name x p) (e::es) [] pos) (L5 r t):=by intro pins s σ H Q I h;refine Ur (nX I hg hm hv ?_ hn hdb);exact PyProof.Rows.callWith_builtin1 (cj (ha pos pins s σ H _ I h) λus s1⟨vs,H1,I1,r1,q1⟩=>hc pins s1 σ H1 vs us Q I1 r1 q1) he hpl
theorem oh(hc:eA X (.type T) r)(hg:Gl X x)(hm:X.mg x=none)(hv:Sb x=some (.type T))(ha:PA X (e::es) t)(hn:x≠"__name__":=by decide)(hdb:(x==("__debug__":Str))=false:=by decide)(he:Qq (e::es) X.env=(false,Qs e X.env)::Qq es X.env:=by rfl)(hpl:(QH pos (Qq es X.env)).any (·.1)=false:=by rfl):PE X (.Call (.Name x p) (e::es) [] pos) (L5 r t):=by intro pins s σ H Q I h;refine Ur (nX I hg hm hv ?_ hn hdb);exact UO (cj (ha pos pins s σ H _ I h) λus s1⟨vs,H1,I1,r1,q1⟩=>hc pins s1 σ H1 vs us Q I1 r1 q1) he hpl
end
end L2
namespace HT
open PySem PyProof.Rows
section
open PySem.SeqAt
open PySem.AutoSeq1 (wpAny_loadPart')
open PySem.MeetsSeq PySem.MeetsSeq2 PySem.MeetsSeq3
end
section
variable{prog:Qn}{w:Qk}{A:Qr}{E:Qd->Qf->Prop}{s:Qf}
theorem cat_tup{t b:Qe}{vs ws:List Qd}{Q:Qd->Qf->Prop}(ht:IsTup s.heap t vs.toArray)(hb:IsTup s.heap b ws.toArray)(hv:vs≠[])(h1:ws=[]->Q (.ref t) s)(h2:ws≠[]->Q (.ref ↑s) {s with heap:=s.heap.push {cls:=.type "tuple",data:=.seq (vs++ws).toArray}})(hsz:vs.length+ws.length<=Qv):Qj (Ql prog w) A (Rz .Add (.ref t) (.ref b)) Q E s:=by
 obtain⟨⟨cls,dd,data,sl⟩,ho,hc,n,hd⟩:=id ht;obtain⟨⟨cls2,dd2,data2,sl2⟩,ho2,hc2,n2,hd2⟩:=id hb;simp only at hc hd hc2 hd2;subst hc hd hc2 hd2;have e:vs.toArray++ws.toArray=(vs++ws).toArray:=by simp
 by_cases hw:ws=[];·exact concat_meets ⟨_,ho,rfl⟩ ⟨_,ho2,rfl⟩ noFill_tuple_add seq_tuple_add PySem.F.slot_tuple_add PySem.F.entry_tuple_add (PySem.F.args_tuple_add_2 _ _) (tuple_addW1 t b vs.toArray ws.toArray n n2 dd dd2 sl sl2 (by simpa using hv) (by simp[hw])) ⟨ho,ho2,h1 hw⟩
 ·refine concat_meets ⟨_,ho,rfl⟩ ⟨_,ho2,rfl⟩ noFill_tuple_add seq_tuple_add PySem.F.slot_tuple_add PySem.F.entry_tuple_add (PySem.F.args_tuple_add_2 _ _) (tuple_addW2 t b vs.toArray ws.toArray n n2 dd dd2 sl sl2 (by simpa using hv) (by simpa using hw) (by rw[QN,QN];exact hsz)) ⟨ho,ho2,?_⟩;rw[e];exact h2 hw
def sIx(n d:Nat):Option Int->Nat|none=>d|some v=>if v<0 then(v+(n:Int)).toNat else min v.toNat n
theorem sIx_none(n d:Nat):sIx n d none=d:=rfl
theorem sIx_nat(n d k:Nat):sIx n d (some (k:Int))=min k n:=by show(if (k:Int)<0 then((k:Int)+(n:Int)).toNat else min (k:Int).toNat n)=min k n;rw[if_neg ↥0,Sg]
theorem Jj(n d:Nat)(hd:d<=n)(o:Option Int):sIx n d o<=n:=by cases o with|none=>exact hd|some v=>
 show(if v<0 then(v+(n:Int)).toNat else min v.toNat n)<=n;by_cases hv:v<0;·rw[if_pos hv];lia
 ·rw[if_neg hv];exact Nat.min_le_right _ _
theorem zl(v:Int)(n d:Nat):(if v<0 then max (v+(n:Int)) 0 else min v (n:Int))=((sIx n d (some v):Nat):Int):=by
 show(if v<0 then max (v+(n:Int)) 0 else min v (n:Int))=(((if v<0 then(v+(n:Int)).toNat else min v.toNat n):Nat):Int);by_cases hv:v<0;·simp only[if_pos hv];lia
 ·simp only[if_neg hv];lia
theorem x8(lo hi:Option Int)(n:Nat):Vw lo hi 1 (n:Int)=(((sIx n 0 lo:Nat):Int),((sIx n n hi:Nat):Int)):=by
 have h1:¬((1:Int)<0):=by lia
 unfold Vw;simp only[h1,if_false];refine Prod.ext ?_ ?_;·cases lo with|none=>rfl|some v=>exact zl v n 0
 ·cases hi with|none=>rfl|some v=>exact zl v n n
theorem yI(i j:Nat):UR (i:Int) (j:Int) 1=j-i:=by
 unfold UR;have h1:(1:Int)>0:=by lia
 simp only[h1,if_true,Int.ediv_one];split<;>lia
theorem rW{v:Qd}{o:Option Int}{Q:Option Int->Qf->Prop}(p:IsPart v o)(h:Q o s):Qj (Ql prog w) A (Builtin.Slice.slicePartIndex v) Q E s:=by cases p with|none=>exact slicePart_none h|int i t=>exact slicePart_int h
theorem jP{sl:Qe}{vl vu:Qd}{lo hi:Option Int}{n:Nat}{Q:Int×Int×Nat->Qf->Prop}(hs:s.heap.IsSliceOf sl vl vu .none)(pl:IsPart vl lo)(pu:IsPart vu hi)(h:Q (((sIx n 0 lo:Nat):Int),1,sIx n n hi-sIx n 0 lo) s):Qj (Ql prog w) A (VS (.ref sl) (pure (n:Int))) Q E s:=by obtain⟨os,hos,hcs,hds⟩:=id hs;unfold VS Builtin.Slice.sliceFields;refine Qi (Qi (RO hos hds (x:=vl) rfl (Qi (RO hos hds (x:=vu) rfl (Qi (RO hos hds (x:=.none) rfl (Qp ?_)))))));refine Qi (slicePart_none ?_);show Qj _ _ (if ((1:Int)==0)=true then _ else _) _ _ s;rw[if_neg ⋯];refine Qi (rW pl (Qi (rW pu (Qi (Qp ?_)))));show Qj _ _ (match Vw lo hi 1 (n:Int) with|(lo,hi)=>pure (lo,(1:Int),UR lo hi 1)) _ _ s;rw[x8 lo hi n];show Qj _ _ (pure (((sIx n 0 lo:Nat):Int),(1:Int),UR ((sIx n 0 lo:Nat):Int) ((sIx n n hi:Nat):Int) 1)) _ _ s;rw[yI];exact Qp h
theorem De(xs:Array Qd)(i k:Nat):((RV k).filterMap fun(m:Nat)=>xs[((i:Int)+(m:Int)*1).toNat]?).toArray=((xs.toList.drop i).take k).toArray:=by
 have e:(fun(m:Nat)=>xs[((i:Int)+(m:Int)*1).toNat]?)=λm=>xs[i+m]?:=by
  funext m;have:((i:Int)+(m:Int)*1).toNat=i+m:=by lia
  rw[this]
 rw[e];have:=pick_run xs i k;rw[List.filterMap_map]at this;have e2:((λx=>xs[x]?)∘λx=>i+x)=λm=>xs[i+m]?:=rfl;rw[e2]at this;rw[this]
theorem getItem_tuple_cut{t sl:Qe}{items:Array Qd}{vl vu:Qd}{lo hi:Option Int}{Q:Qd->Qf->Prop}(ht:IsTup s.heap t items)(hs:s.heap.IsSliceOf sl vl vu .none)(pl:IsPart vl lo)(pu:IsPart vu hi)(hw:¬(sIx items.size 0 lo=0/\sIx items.size items.size hi=items.size))(h:Q (.ref ↑s) {s with heap:=s.heap.push {cls:=.type "tuple",data:=.seq ((items.toList.drop (sIx items.size 0 lo)).take (sIx items.size items.size hi-sIx items.size 0 lo)).toArray}})(hsz:items.size<=Qv):Qj (Ql prog w) A (SN (.ref t) (.ref sl)) Q E s:=by
 have htake:sizeOk (.seq ((items.toList.drop (sIx items.size 0 lo)).take (sIx items.size items.size hi-sIx items.size 0 lo)).toArray):=by show((items.toList.drop (sIx items.size 0 lo)).take (sIx items.size items.size hi-sIx items.size 0 lo)).toArray.size<=Qv;rw[QN,UP,List.length_drop,UM];lia
 have hj:sIx items.size items.size hi<=items.size:=Jj _ _ ↥8 hi;obtain⟨os,hos,hcs,hds⟩:=id hs;have hTs:s.TypeIs (.ref sl) "slice":=⟨os,hos,hcs⟩;unfold SN;try with_reducible refine SL ?_
 first|refine Qi (Qp ?_)|skip
 refine Qi (wpAny_sequenceKey ht.typeIs ⋯ ?_);refine Qi (TB (name:=Rj "__getitem__") ht.typeIs TC (Td TC ht.typeIs entry_tuple_getitem ?_ (args_tuple_getitem _ _)));show Qj _ _ (VT (.ref t)>>=_) _ _ s;refine Qi (tupleItemsOf_ ht ?_);refine Qi (Uu hTs ?_);rw[if_pos ⋯];refine Qi (jP hs pl pu ?_);have hno:¬((((sIx items.size 0 lo:Nat):Int)==0&&(1:Int)==1&&(sIx items.size items.size hi-sIx items.size 0 lo)==items.size)=true):=by intro q;rw[QU,QU]at q;have q1:((sIx items.size 0 lo:Nat):Int)=0:=eq_of_beq q.1.1;have q2:sIx items.size items.size hi-sIx items.size 0 lo=items.size:=eq_of_beq q.2;exact hw ⟨by lia,by lia⟩
 show Qj _ _ (if (((sIx items.size 0 lo:Nat):Int)==0&&(1:Int)==1&&(sIx items.size items.size hi-sIx items.size 0 lo)==items.size)=true then _ else _) _ _ s;rw[if_neg hno,De];first|exact Qi (m:=To _) (Sd (Qp ⟨_,rfl,Qp h⟩) htake)|exact Qi (m:=To _) (Sd (Qi (Qp (Qp ⟨_,rfl,Qp h⟩))) htake)|exact Qi (Qi (m:=To _) (Sd (Qp (Qp ⟨_,rfl,Qp h⟩)) htake))|exact Qi (Qi (m:=To _) (Sd (Qp ⟨_,rfl,Qp h⟩) htake))
end
end HT
namespace L2
open PySem PySem.Spec PyProof.Rows
abbrev TO:=St->Hp->(Option Int->Hp->Prop)->Prop
def PO(X:Cx)(e:Option Qh)(t:TO):Prop:=∀(pins:List (Qe×Obj)) (s:Qf) (σ:St) (H:Hp) (Q:Option Int->Hp->Prop),aJ X pins σ H s->t σ H Q->Qj (Ql X.prog X.w) X.A (evalPart e X.env) (λu s'=>∃o H',aJ X pins σ H' s'/\IsPart u o/\Q o H') X.xe s
def GD:TO:=λ_ H Q=>Q none H
def KZ(t:TE):TO:=λσ H Q=>t σ H λx H1=>∃i,x=.int i/\Q (some i) H1
theorem qG{ns:List Int}:∀{us:List Qd},a' (ns.map V.int) us->IntsAre us ns:=by induction ns with|nil=>intro us r;rw[Rw]at r;cases r;exact .nil|cons n ns ih=>intro us r;rw[QB]at r;cases r with|cons r1 r2=>obtain⟨t,e⟩:=r1;subst e;exact .cons n t (ih r2)
section
variable{X:Cx}{e:Qh}{te:TE}{lo hi:Option Qh}{tl th:TO}{pos p2:Pos}
theorem FZ:PO X none GD:=by intro pins s σ H Q I h;rw[evalPart_none];exact Qp ⟨none,H,I,.none,h⟩
theorem F8(h:PE X e te):PO X (some e) (KZ te):=by intro pins s σ H Q I hw;rw[evalPart_some];refine cj (h pins s σ H _ I hw) λu s1⟨x,H1,I1,r1,q1⟩=>?_;obtain⟨i,rfl,q⟩:=q1;obtain⟨t,rfl⟩:=r1;exact⟨some i,H1,I1,.int i t,q⟩
def EB(X:Cx)(r:V->Option Int->Option Int->Hp->VK->Prop):Prop:=∀(pins:List (Qe×Obj)) (s:Qf) (σ:St) (H:Hp) (x:V) (v vl vu:Qd) (lo hi:Option Int) (sl:Qe) (Q:VK),aJ X pins σ H s->bC x v->s.heap.IsSliceOf sl vl vu .none->IsPart vl lo->IsPart vu hi->r x lo hi H Q->∃T id,typeLookup (.type T) "__getitem__"=pure (some (.builtin id))/\s.TypeIs v T/\Qj (Ql X.prog X.w) X.A (SN v (.ref sl)) (EP X pins σ Q) X.xe s
theorem EB.or{r r':V->Option Int->Option Int->Hp->VK->Prop}(h:EB X r)(h':EB X r'):EB X (λx lo hi H Q=>r x lo hi H Q\/r' x lo hi H Q):=by
 intro pins s σ H x v vl vu lo hi sl Q I rx hs pl pu q;rcases q with q|q;·exact h pins s σ H x v vl vu lo hi sl Q I rx hs pl pu q
 ·exact h' pins s σ H x v vl vu lo hi sl Q I rx hs pl pu q
def MN(r:V->Option Int->Option Int->Hp->VK->Prop)(te:TE)(tl th:TO):TE:=λσ H Q=>te σ H λx H1=>tl σ H1 λl H2=>th σ H2 λu H3=>r x l u H3 Q
theorem C9{r:V->Option Int->Option Int->Hp->VK->Prop}(hr:EB X r)(he:PE X e te)(hl:PO X lo tl)(hu:PO X hi th):PE X (.Subscript e (.Slice lo hi none p2) pos) (MN r te tl th):=by intro pins s σ H Q I h;refine Subscript_ (cj (he pins s σ H _ I h) λv s1⟨x,H1,I1,r1,q1⟩=>?_);refine wpAny_Slice (cj (hl pins s1 σ H1 _ I1 q1) λvl s2⟨l,H2,I2,pl,q2⟩=>cj (hu pins s2 σ H2 _ I2 q2) λvu s3⟨u,H3,I3,pu,q3⟩=>?_);rw[evalPart_none];refine Qp ?_;have I4:aJ X pins σ H3 {s3 with heap:=s3.heap.push {cls:=.type "slice",data:=.fields #[vl,vu,.none]}}:=I3.kept (t':=s3.toks) λb ob q=>QG _ q;obtain⟨T,id,hT,ht,hg⟩:=hr pins {s3 with heap:=s3.heap.push {cls:=.type "slice",data:=.fields #[vl,vu,.none]}} σ H3 x v vl vu l u ↑s3 Q I4 r1 (Heap.IsSliceOf.new ..) pl pu q3;show Qj (Ql X.prog X.w) X.A (subscriptTail e (.Slice lo hi none p2) v (.ref ↑s3)) (EP X pins σ Q) X.xe {s3 with heap:=s3.heap.push {cls:=.type "slice",data:=.fields #[vl,vu,.none]}};exact tail_any (ops:=[.ref ↑s3,v]) ht hT hg (by with_unfolding_all rfl)
def sD(xs:List V)(lo hi:Option Int):List V:=(xs.drop (HT.sIx xs.length 0 lo)).take (HT.sIx xs.length xs.length hi-HT.sIx xs.length 0 lo)
theorem oH(xs:List V)(lo hi:Option Int):(sD xs lo hi).length<=xs.length:=by unfold sD;rw[UP,List.length_drop];lia
def KG(K:⇑0):V->Option Int->Option Int->Hp->VK->Prop:=λx lo hi H Q=>∃a xs,x=.ref a/\eO K H a xs/\¬(HT.sIx xs.length 0 lo=0/\HT.sIx xs.length xs.length hi=xs.length)/\∀p,H p=none->Q (.ref p) (bz H p (.tup (sD xs lo hi)))
theorem Jm:EB X (KG X.K):=by
 intro pins s σ H x v vl vu lo hi sl Q I rx hs pl pu h;obtain⟨a,xs,rfl,hx,hw,q⟩:=h;cases rx;obtain⟨its,r,ht,hz⟩:=I.tuple hx;have hlen:its.toArray.size=xs.length:=by rw[QN];exact r.length.symm
 refine⟨"tuple",_,TC.lookup,ht.typeIs,?_⟩;refine HT.getItem_tuple_cut ht hs pl pu (by rw[hlen];exact hw) ?_ (by rw[hlen];exact hz);rw[hlen];refine⟨.ref ↑s,_,I.laid (t':=s.toks) (o:=.tup (sD xs lo hi)) (λb ob q=>QG _ q) ↥8 ?_,rfl,q _ (I.hok.fresh ↥8)⟩;exact⟨QP (oH xs lo hi) hz,_,(r.drop (HT.sIx xs.length 0 lo)).take (HT.sIx xs.length xs.length hi-HT.sIx xs.length 0 lo),p_.new _ _⟩
def Ky(K:⇑0):R2:=λx y H Q=>∃a b xs ys,x=.ref a/\y=.ref b/\eO K H a xs/\eO K H b ys/\xs≠[]/\xs.length+ys.length<=Qv/\(ys=[]->Q (.ref a) H)/\(ys≠[]->∀p,H p=none->Q (.ref p) (bz H p (.tup (xs++ys))))
theorem a'.nil_iff{xs:List V}{us:List Qd}(r:a' xs us):us=[]↔xs=[]:=by cases r with|nil=>simp|cons _ _=>simp
theorem FF:kB X (Rz .Add) (Ky X.K):=by intro pins s σ H x y v u Q I rx ry h;obtain⟨a,b,xs,ys,rfl,rfl,ha,hb,hx,hz,q1,q2⟩:=h;cases rx;cases ry;obtain⟨its,r1,p1,_⟩:=I.tuple ha;obtain⟨its2,r2,p2,_⟩:=I.tuple hb;refine HT.cat_tup p1 p2 (λz=>hx (r1.nil_iff.mp z)) (λz=>⟨.ref a,H,I,rfl,q1 (r2.nil_iff.mp z)⟩) (λz=>?_) (by rw[<-r1.length,<-r2.length];exact hz);refine⟨.ref ↑s,_,I.laid (t':=s.toks) (o:=.tup (xs++ys)) (λb ob q=>QG _ q) ↥8 ?_,rfl,q2 (λw=>z (r2.nil_iff.mpr w)) _ (I.hok.fresh ↥8)⟩;exact⟨by rw[RN];exact hz,_,r1.append r2,p_.new _ _⟩
end
def yp(n:Nat)(i:Int):Option Nat:=if 0<=i then(if i<n then some i.toNat else none) else if-(n:Int)<=i then some (i+n).toNat else none
def atI{α:Type}(xs:List α)(i:Int):Option α:=(yp xs.length i).bind λj=>xs[j]?
theorem zy{n:Nat}{i:Int}{j:Nat}(h:yp n i=some j):seqIndex? i n=some j/\j<n/\-(n:Int)<=i/\i<n:=by
 unfold yp at h;by_cases h0:0<=i
 ·rw[if_pos h0]at h;by_cases h1:i<n;·rw[if_pos h1]at h;have e:i.toNat=j:=QY h;exact⟨by rw[seqIndex_of h0 h1,e],by lia,by lia,h1⟩
  ·rw[if_neg h1]at h;cases h
 ·rw[if_neg h0]at h;by_cases h1:-(n:Int)<=i;·rw[if_pos h1]at h;have e:(i+n).toNat=j:=QY h;exact⟨by rw[seqIndex_neg ↥0 h1,e],by lia,h1,by lia⟩
  ·rw[if_neg h1]at h;cases h
theorem y9{α:Type}{xs:List α}{i:Int}{v:α}(h:atI xs i=some v):∃j,seqIndex? i xs.length=some j/\xs[j]?=some v/\j<xs.length/\-(xs.length:Int)<=i/\i<xs.length:=by unfold atI at h;cases e:yp xs.length i with|none=>rw[e]at h;cases h|some j=>rw[e]at h;obtain⟨h1,h2,h3,h4⟩:=zy e;exact⟨j,h1,h,h2,h3,h4⟩
def mE(b:Qh):Prop:=∀o i,subscripted b false o i=operate [o,i] (SN o i)
def Em(X:Cx)(r:R2):Prop:=∀(value slice:Qh) (pins:List (Qe×Obj)) (s:Qf) (σ:St) (H:Hp) (x y:V) (v u:Qd) (Q:VK),aJ X pins σ H s->bC x v->bC y u->r x y H Q->subscripted slice false v u=operate [v,u] (SN v u)->Qj (Ql X.prog X.w) X.A (subscriptTail value slice v u) (EP X pins σ Q) X.xe s
def Md(X:Cx)(id:String)(r:V->List V->Hp->VK->Prop):Prop:=∀(pins:List (Qe×Obj)) (s:Qf) (σ:St) (H:Hp) (x:V) (xs:List V) (v:Qd) (us:List Qd) (Q:VK),aJ X pins σ H s->bC x v->a' xs us->r x xs H Q->Qj (Ql X.prog X.w) X.A (call (.builtin id) (v::us)) (EP X pins σ Q) X.xe s
section
variable{X:Cx}{a b:Qh}{ta tb:TE}{pos:Pos}
theorem Em.or{r r':R2}(h:Em X r)(h':Em X r'):Em X (λx y H Q=>r x y H Q\/r' x y H Q):=by
 intro value slice pins s σ H x y v u Q I rx ry q hs;rcases q with q|q;·exact h value slice pins s σ H x y v u Q I rx ry q hs
 ·exact h' value slice pins s σ H x y v u Q I rx ry q hs
theorem C7{r:R2}(hr:Em X r)(ha:PE X a ta)(hb:PE X b tb)(hs:mE b):PE X (.Subscript a b pos) (Jo r ta tb):=by intro pins s σ H Q I h;exact Subscript_ (HF ha hb I h λv u s2 x y H2 I2 rx ry q=>hr a b pins s2 σ H2 x y v u Q I2 rx ry q (hs _ _))
def I_(K:⇑0):R2:=λx y H Q=>∃p xs i v,x=.ref p/\y=.int i/\jR K H p xs/\atI xs i=some v/\Q v H
def KB(K:⇑0):R2:=λx y H Q=>∃p xs i v,x=.ref p/\y=.int i/\eO K H p xs/\atI xs i=some v/\Q v H
theorem zz:Em X (I_ X.K):=by
 intro value slice pins s σ H x y v u Q I rx ry h hs;obtain⟨p,xs,i,z,rfl,rfl,hq,he,q⟩:=h;cases rx;obtain⟨t,rfl⟩:=ry;obtain⟨its,r,pl,hz⟩:=I.list hq;obtain⟨j,h1,h2,h3,h4,h5⟩:=y9 he;obtain⟨w,ew,rw'⟩:=r.get h2;have hl:=r.length;have hn:=uX;have fin:EP X pins σ Q w s:=⟨z,H,I,rw',q⟩;by_cases h0:0<=i
 ·have hj:i.toNat=j:=by rw[seqIndex_of h0 h5]at h1;exact QY h1
  exact item_listR pl.isList h0 ↥0 (by rw[hj];simpa using ew) fin hs
 ·have hj:(i+(its.toArray.size:Int)).toNat=j:=by rw[seqIndex_neg ↥0 h4]at h1;rw[QN,<-hl];exact QY h1
  exact subscriptTail_builtinR (x:=w) pl.isList.typeIs slot_list_getitem.lookup (wpAny_getItem_list_neg (Q:=λr s'=>r=w/\EP X pins σ Q r s') pl.isList ↥0 (by rw[QN]<;>lia) ↥0 (by rw[hj];simpa using ew) ⟨rfl,fin⟩) hs
theorem HW:Em X (KB X.K):=by intro value slice pins s σ H x y v u Q I rx ry h hs;obtain⟨p,xs,i,z,rfl,rfl,hq,he,q⟩:=h;cases rx;obtain⟨t,rfl⟩:=ry;obtain⟨its,r,pl,hz⟩:=I.tuple hq;obtain⟨j,h1,h2,h3,h4,h5⟩:=y9 he;obtain⟨w,ew,rw'⟩:=r.get h2;have hl:=r.length;have hn:=uX;have fin:EP X pins σ Q w s:=⟨z,H,I,rw',q⟩;exact subscriptTail_builtinR (x:=w) pl.typeIs TC.lookup (getItem_tuple (j:=j) (Q:=λr s'=>r=w/\EP X pins σ Q r s') pl ↥0 ↥0 (by rw[QN,<-hl];exact h1) (by simpa using ew) ⟨rfl,fin⟩) hs
theorem yA(its:List Qd)(n j:Nat)(u:Qd):SO (·.setIfInBounds j u) {cls:=.type "list",data:=.seq its.toArray n}={cls:=.type "list",data:=.seq (its.set j u).toArray n}:=by simp[SO]
theorem aJ.lst{pins:List (Qe×Obj)}{σ:St}{H:Hp}{s:Qf}{p:Qe}{xs:List V}(I:aJ X pins σ H s)(h:H p=some (.lst xs)):∃(its:List Qd) (n:Nat),a' xs its/\s.heap.get? p=some {cls:=.type "list",data:=.seq its.toArray n}/\xs.length<=Qv:=by obtain⟨z,its,n,r,e⟩:=I.hok p _ h;exact⟨its,n,r,e,z⟩
theorem aJ.lstUpd{pins:List (Qe×Obj)}{σ:St}{H:Hp}{s:Qf}{p:Qe}{xs ys:List V}{its its':List Qd}{n n':Nat}{f:Obj->Obj}(I:aJ X pins σ H s)(h:H p=some (.lst xs))(ho:s.heap.get? p=some {cls:=.type "list",data:=.seq its.toArray n})(hf:f {cls:=.type "list",data:=.seq its.toArray n}={cls:=.type "list",data:=.seq its'.toArray n'})(r:a' ys its')(hz:ys.length<=Qv)(t:Nat):aJ X pins σ (bz H p (.lst ys)) {s with heap:=s.heap.update p f,toks:=t}:=by
 have e:(s.heap.update p f).get? p=some {cls:=.type "list",data:=.seq its'.toArray n'}:=by rw[Heap.get?_update_self f ho (by rw[hf]<;>rfl),hf]
 refine I.write (x:=p) (e:=p) (by rw[h];trivial) (.inl rfl) (λb u hb q=>(Heap.get?_update_other _ _ (QK hb)).trans q) ⟨_,e⟩ ?_;exact⟨hz,its',n',r,e⟩
def KC:V->V->V->Hp->(Hp->Prop)->Prop:=λo i v H Q=>∃p xs k j,o=.ref p/\i=.int k/\H p=some (.lst xs)/\yp xs.length k=some j/\Q (bz H p (.lst (xs.set j v)))
theorem DX:JL X KC:=by
 intro pins s σ H o i v ov iv u Q I ro ri rv h;obtain⟨p,xs,k,j,rfl,rfl,hp,hj,q⟩:=h;cases ro;obtain⟨t,rfl⟩:=ri;obtain⟨its,n,r,ho,hz⟩:=I.lst hp;obtain⟨h1,h2,h3,h4⟩:=zy hj;have hl:=r.length;have hn:=uX;have I':aJ X pins σ (bz H p (.lst (xs.set j v))) {s with heap:=s.heap.update p (SO (·.setIfInBounds j u))}:=I.lstUpd hp ho (yA its n j u) (r.set rv j) (by rw[RY];exact hz) s.toks;by_cases h0:0<=k
 ·have hk:k.toNat=j:=by rw[seqIndex_of h0 h4]at h1;exact QY h1
  exact PySem.W.ki_setAt ho h0 ↥0 (by rw[QN,<-hl];exact h4) (by rw[hk];exact⟨_,I',q⟩)
 ·have hk:(k+(its.toArray.size:Int)).toNat=j:=by rw[seqIndex_neg ↥0 h3]at h1;rw[QN,<-hl];exact QY h1
  exact PySem.W.ki_setBack ho ↥0 (by rw[QN,<-hl];exact h3) ↥0 (by rw[hk];exact⟨_,I',q⟩)
theorem vq(lo hi:Option Int)(n:Nat):(TF lo hi none n).1=((HT.sIx n 0 lo:Nat):Int)/\(TF lo hi none n).2.1=((HT.sIx n n hi:Nat):Int)/\(TF lo hi none n).2.2=1:=by
 refine⟨?_,?_,rfl⟩;·cases lo with|none=>simp[TF,HT.sIx]|some i=>
  simp only[TF,HT.sIx,Option.getD_none,show(1:Int)>0 by decide,if_true];by_cases h:i<0;·simp only[h,if_true]<;>lia
  ·simp only[h,if_false]<;>lia
 ·cases hi with|none=>simp[TF,HT.sIx]|some i=>
  simp only[TF,HT.sIx,Option.getD_none,show(1:Int)>0 by decide,if_true];by_cases h:i<0;·simp only[h,if_true]<;>lia
  ·simp only[h,if_false]<;>lia
theorem sN(its:List Qd)(lo hi:Option Int):slicePick its.toArray lo hi none=((its.drop (HT.sIx its.length 0 lo)).take (HT.sIx its.length its.length hi-HT.sIx its.length 0 lo)).toArray:=by obtain⟨h1,h2,h3⟩:=vq lo hi its.toArray.size;unfold slicePick;rw[h1,h2,h3];simp only[sliceRange_one,pick_run,QN]<;>rfl
def KD(K:⇑0):V->Option Int->Option Int->Hp->VK->Prop:=λx lo hi H Q=>∃a xs,x=.ref a/\jR K H a xs/\∀p,H p=none->Q (.ref p) (bz H p (.lst (sD xs lo hi)))
theorem Gx:EB X (KD X.K):=by intro pins s σ H x v vl vu lo hi sl Q I rx hs pl pu h;obtain⟨a,xs,rfl,hx,q⟩:=h;cases rx;obtain⟨its,r,ht,hz⟩:=I.list hx;have hlen:=r.length;refine⟨"list",_,slot_list_getitem.lookup,ht.isList.typeIs,?_⟩;refine wpAny_getItem_list_slice ht.isList hs pl pu .none ↥1 ?_ (by rw[QN]<;>lia);rw[sN,<-hlen];refine⟨.ref ↑s,_,I.laid (t':=s.toks) (o:=.lst (sD xs lo hi)) (λb ob q=>QG _ q) ↥8 ?_,rfl,q _ (I.hok.fresh ↥8)⟩;exact⟨QP (oH xs lo hi) hz,_,0,(r.drop (HT.sIx xs.length 0 lo)).take (HT.sIx xs.length xs.length hi-HT.sIx xs.length 0 lo),Rf _ rfl⟩
theorem mJ:eA X (.builtin "len") (λxs H Q=>∃p ys,xs=[.ref p]/\(jR X.K H p ys\/eO X.K H p ys)/\Q (.int ys.length) H):=by
 intro pins s σ H xs us Q I r h;obtain⟨p,ys,rfl,hq,q⟩:=h;obtain⟨u,rfl,rx⟩:=xU r;cases rx;have hn:=uX;rcases hq with hq|hq;·obtain⟨its,r',pl,hz⟩:=I.list hq;have hlen:=r'.length;exact Calls.call_len_list pl.isList (by simp only[QN]<;>lia) ⟨.int ys.length,H,I.tok _,⟨s.toks+1,by rw[QN,hlen]⟩,q⟩
 ·obtain⟨its,r',pl,hz⟩:=I.tuple hq;have hlen:=r'.length;exact len_tuple pl (by simp only[QN]<;>lia) ⟨.int ys.length,H,I.tok _,⟨s.toks+1,by rw[QN,hlen]⟩,q⟩
theorem sx:eA X (.type "tuple") (λxs H Q=>∃p ys,xs=[.ref p]/\((jR X.K H p ys/\∀l,H l=none->Q (.ref l) (bz H l (.tup ys)))\/(eO X.K H p ys/\Q (.ref p) H))):=by
 intro pins s σ H xs us Q I r h;obtain⟨p,ys,rfl,h⟩:=h;obtain⟨u,rfl,rx⟩:=xU r;cases rx;rcases h with⟨hq,q⟩|⟨hq,q⟩;·obtain⟨its,r',pl,hz⟩:=I.list hq;have hlen:=r'.length;refine call_tuple_list pl.isList (λh' kp=>?_) (by simp only[QN]<;>lia);have I1:aJ X pins σ H {s with heap:=h'}:=I.kept (t':=s.toks) kp;have I2:aJ X pins σ (bz H h'.objs.size (.tup ys)) {s with heap:=h'.push {cls:=.type "tuple",data:=.seq its.toArray}}:=I1.laid (t':=s.toks) (λb o e=>QG _ e) ↥8 (show dg X.prog X.w _ _ _ (.tup ys) from⟨hz,its,r',p_.new _ _⟩);exact⟨.ref h'.objs.size,_,I2,rfl,q _ (I1.hok.fresh ↥8)⟩
 ·obtain⟨its,r',pl,hz⟩:=I.tuple hq;exact call_tuple_same pl ⟨.ref p,H,I,rfl,q⟩
def Mt(K:⇑0)(T:String)(x:V)(H:Hp):Prop:=match x with|.str _=>T="str"|.int _=>T="int"|.ref p=>(T="list"/\∃xs,jR K H p xs)\/(T="tuple"/\∃o,K.lookup p=some o/\o.cls=.type "tuple"/\o.dict=none)\/(T="dict"/\((∃kvs,H p=some (.dK kvs))\/∃kvs,H p=some (.dT kvs)))\/(T="set"/\∃S n,H p=some (.set S n))|_=>False
theorem Jx{pins:List (Qe×Obj)}{σ:St}{H:Hp}{s:Qf}{T:String}{x:V}{v:Qd}(I:aJ X pins σ H s)(r:bC x v)(ty:Mt X.K T x H):
 s.TypeIs v T/\∀a,v=.ref a->∃ob,s.heap.get? a=some ob/\ob.dict=none:=by cases x with|str z=>obtain⟨t,rfl⟩:=r;cases (show T="str"from ty);exact⟨typeIs_str s z t,λ_ e=>nomatch e⟩|int i=>obtain⟨t,rfl⟩:=r;cases (show T="int"from ty);exact⟨Uv s i t,λ_ e=>nomatch e⟩|ref p=>
  cases r;rcases ty with⟨rfl,xs,hq⟩|⟨rfl,o,hk,hc,hd⟩|⟨rfl,hk⟩|⟨rfl,S,n,hk⟩;·obtain⟨its,_,pl,_⟩:=I.list hq;refine⟨pl.isList.typeIs,λa e=>?_⟩;cases e;obtain⟨o,n,e,c,hd,_⟩:=pl;exact⟨o,e,hd⟩
  ·refine⟨⟨o,I.kIn p o hk,hc⟩,λa e=>?_⟩;cases e;exact⟨o,I.kIn _ o hk,hd⟩
  ·have z:∃o,s.heap.get? p=some o/\o.ExactDict:=by
    rcases hk with⟨kvs,hk⟩|⟨kvs,hk⟩;·obtain⟨_,_,_,_,o,_,_,e,ex,_⟩:=I.hok p _ hk;exact⟨o,e,ex⟩
    ·obtain⟨_,_,_,_,o,_,_,e,ex,_⟩:=I.hok p _ hk;exact⟨o,e,ex⟩
   obtain⟨o,e,ex⟩:=z;refine⟨⟨o,e,ex.1⟩,λa e2=>?_⟩;cases e2;exact⟨o,e,ex.2.1⟩
  ·obtain⟨o,_,_,_,e,ex,_⟩:=I.hok p _ hk;refine⟨⟨o,e,ex.1⟩,λa e2=>?_⟩;cases e2;exact⟨o,e,ex.2.1⟩|_=>exact Ry ty
def Mq(K:⇑0)(T:String)(r:V->List V->Hp->VK->Prop)(to:TE)(t:TA):TE:=λσ H Q=>to σ H λx H1=>Mt K T x H1/\t σ H1 λxs H2=>r x xs H2 Q
variable{o e:Qh}{es:List Qh}{to:TE}{t:TA}{name:Str}{apos cpos:Pos}{T id:String}{r:V->List V->Hp->VK->Prop}
theorem C3(pa:PlainAttrs T)(slot:Slot T name id)(hty:typeOf (.builtin id)=pure (.type "method_descriptor"))(hm:Md X id r)(ho:PE X o to)(ha:PA X (e::es) t)(hbase:TH o name X.env (Qs o X.env)=Qs o X.env:=by rfl)(hfew:((QH cpos (Qq (e::es) X.env)).all (λx=>!x.1)&&(backToKw cpos (TJ [] X.env)).all (λx=>x.1.isSome)&&decide ((e::es).length+([]:List RG).length+(if ([]:List RG).isEmpty then 0 else 1)<30))=true:=by rfl)(hline:(apos.endLine==cpos.line)=true:=by rfl)(hs:Qq (e::es) X.env=(false,Qs e X.env)::Qq es X.env:=by rfl)(hplain:(QH cpos (Qq es X.env)).any (·.1)=false:=by rfl):PE X (.Call (.Attribute o name apos) (e::es) [] cpos) (Mq X.K T r to t):=by intro pins s σ H Q I h;refine wpAny_Call_method_late hbase hfew hline rfl (cj (ho pins s σ H _ I h) λv s1⟨x,H1,I1,r1,ty,q1⟩=>?_);obtain⟨h1,h2⟩:=Jx I1 r1 ty;refine⟨T,id,pa,slot,hty,h1,h2,?_⟩;have hA:=ha cpos pins s1 σ H1 _ I1 q1;rw[hs]at hA⊢;refine Calls.callWith_builtin (by show(false||(QH cpos (Qq es X.env)).any (·.1))=false;rw[hplain]<;>rfl) (Calls.evalArgs_plain ?_);exact cj hA λus s2⟨vs,H2,I2,r2,q2⟩=>hm pins s2 σ H2 x vs v us Q I2 r1 r2 q2
end
def Mc(X:Cx)(id:String)(r:V->List V->Hp->VK->Prop):Prop:=∀(pins:List (Qe×Obj)) (s:Qf) (σ:St) (H:Hp) (x:V) (xs:List V) (v:Qd) (us:List Qd) (Q:VK),aJ X pins σ H s->bC x v->a' xs us->r x xs H Q->Qj (Ql X.prog X.w) X.A (call (.builtin id) (v::us)) (EP X pins σ Q) X.xe s
theorem a'.one:∀{x:V}{us:List Qd},a' [x] us->∃u,us=[u]/\bC x u|_,_,.cons r .nil=>⟨_,rfl,r⟩
theorem a'.eraseIdx:∀{xs:List V}{us:List Qd}(i:Nat),a' xs us->a' (xs.eraseIdx i) (us.eraseIdx i)|_,_,_,.nil=>.nil|_,_,0,.cons _ t=>t|_,_,i+1,.cons r t=>.cons r (a'.eraseIdx i t)
theorem a'.rep{xs:List V}{us:List Qd}(h:a' xs us):∀k:Nat,a' (Qu k xs).flatten (Qu k us).flatten|0=>.nil|k+1=>by rw[Tp,Tp,Si,Si];exact a'.append h (a'.rep h k)
theorem tR{α:Type}:∀(l:List α) (i:Nat),(l.eraseIdx i).length<=l.length|[],_=>RJ _|_::_,0=>Nat.le_succ _|_::r,i+1=>Nat.succ_le_succ (tR r i)
theorem tH(its:List Qd):∀(k:Nat) (acc:List Qd),TV (λx1 x2=>x1++x2) acc.toArray (Qu k its.toArray)=(acc++(Qu k its).flatten).toArray
 |0,acc=>by simp|k+1,acc=>by
  have e:acc.toArray++its.toArray=(acc++its).toArray:=by simp
  have e2:(acc++its)++(Qu k its).flatten=acc++(Qu (k+1) its).flatten:=by rw[Tp,Si,SQ]
  rw[<-e2,<-tH its k (acc++its),<-e,Tp,List.foldl_cons]
section
variable{X:Cx}{pins:List (Qe×Obj)}{σ:St}{H:Hp}{s:Qf}{l b:Qe}{xs ys zs:List V}
theorem aJ.lset{its its':List Qd}{n:Nat}{f:Array Qd->Array Qd}{t':Nat}(I:aJ X pins σ H s)(hH:H l=some (.lst xs))(e:s.heap.get? l=some {cls:=.type "list",data:=.seq its.toArray n})(hf:f its.toArray=its'.toArray)(hv:a' ys its')(hz:ys.length<=Qv):aJ X pins σ (bz H l (.lst ys)) {s with heap:=s.heap.update l (SO f),toks:=t'}:=by have q:=PySem.IsL.update e f;rw[hf]at q;refine I.write (x:=l) (e:=l) (by rw[hH];exact trivial) (.inl rfl) (λb' u hb hu=>(Heap.get?_update_other s.heap (SO f) (QK hb)).trans hu) ⟨_,q⟩ ?_;exact⟨hz,its',_,hv,q⟩
theorem aJ.lnew{its:List Qd}{t':Nat}(I:aJ X pins σ H s)(hv:a' ys its)(hz:ys.length<=Qv):aJ X pins σ (bz H ↑s (.lst ys)) {s with heap:=s.heap.push {cls:=.type "list",data:=.seq its.toArray},toks:=t'}:=I.laid (λ_ _ q=>QG _ q) ↥8 ⟨hz,its,0,hv,Rf _ rfl⟩
theorem aJ.fresh(I:aJ X pins σ H s):H ↑s=none:=I.hok.fresh ↥8
theorem aJ.lstM(I:aJ X pins σ H s)(hH:H l=some (.lst xs)):xs.length<=Qv/\∃(its:List Qd) (n:Nat),a' xs its/\xs.length=its.length/\s.heap.get? l=some {cls:=.type "list",data:=.seq its.toArray n}:=by obtain⟨z,its,n,r,e⟩:=I.hok l _ hH;exact⟨z,its,n,r,r.length,e⟩
theorem CP{n:Nat}(h:n<=Qv):Vx n=false:=by unfold Vx;exact decide_eq_false ↥0
end
section
variable{X:Cx}
def zP:V->List V->Hp->VK->Prop:=λx vs H Q=>∃l xs y,x=.ref l/\vs=[y]/\H l=some (.lst xs)/\xs.length<Qv/\Q .non (bz H l (.lst (xs++[y])))
theorem jE:Mc X "list.append" zP:=by intro pins s σ H x vs v us Q I rx rv h;obtain⟨l,xs,y,rfl,rfl,hH,hz,q⟩:=h;cases rx;obtain⟨u,rfl,ru⟩:=rv.one;obtain⟨z,its,n,r,hl,e⟩:=I.lstM hH;refine Tq US ⟨_,e,rfl⟩ F.entry_list_append (F.args_list_append_2 _ _) (PySem.list_append l its.toArray n u (by rw[QN];lia)) ⟨e,?_⟩;refine⟨.non,_,I.lset (its':=its++[u]) hH e ↥1 (r.append (.cons ru .nil)) ?_,rfl,q⟩;rw[RN,List.length_singleton];lia
def Dw:V->List V->Hp->VK->Prop:=λx vs H Q=>∃l xs i k y,x=.ref l/\vs=[.int i]/\H l=some (.lst xs)/\-(2^63)<=i/\i<2^63/\seqIndex? i xs.length=some k/\xs[k]?=some y/\Q y (bz H l (.lst (xs.eraseIdx k)))
theorem CK:Mc X "list.pop" Dw:=by
 intro pins s σ H x vs v us Q I rx rv h;obtain⟨l,xs,i,k,y,rfl,rfl,hH,h1,h2,hk,hy,q⟩:=h;cases rx;obtain⟨u,rfl,ru⟩:=rv.one;obtain⟨t,rfl⟩:=ru;obtain⟨z,its,n,r,hl,e⟩:=I.lstM hH;obtain⟨w,hw,rw'⟩:=r.get hy;refine Tq F.slot_list_pop ⟨_,e,rfl⟩ F.entry_list_pop (F.args_list_pop_2 _ _) (MeetsSeq.list_pop_at l its.toArray n i t k w (fitsIndex_both h1 h2) (by rw[QN,<-hl];exact hk) (by rw[<-Array.getElem?_toList];exact hw) (by rw[QN];lia)) ⟨e,?_⟩;refine⟨y,_,I.lset (its':=its.eraseIdx k) hH e ?_ (r.eraseIdx k) ?_,rw',q⟩;·show its.toArray.eraseIdxIfInBounds k=(its.eraseIdx k).toArray;rw[List.eraseIdxIfInBounds_toArray]
 ·have:=tR xs k;lia
def Gk:R2:=λx y H Q=>∃l b xs zs,x=.ref l/\y=.ref b/\H l=some (.lst xs)/\H b=some (.lst zs)/\xs.length+zs.length<=Qv/\∀p,H p=none->Q (.ref p) (bz H p (.lst (xs++zs)))
theorem CZ:kB X (Rz .Add) Gk:=by
 intro pins s σ H x y v u Q I rx ry h;obtain⟨l,b,xs,zs,rfl,rfl,hH,hB,hz,q⟩:=h;cases rx;cases ry;obtain⟨z,its,n,r,hl,e⟩:=I.lstM hH;obtain⟨z2,its2,n2,r2,hl2,e2⟩:=I.lstM hB;refine PySem.P.add_list e e2 ?_ (by rw[QN,QN];lia);have ea:its.toArray++its2.toArray=(its++its2).toArray:=by simp
 rw[ea];exact⟨.ref _,_,I.lnew (t':=s.toks) (r.append r2) (by rw[RN];lia),rfl,q _ I.fresh⟩
def Ja:R2:=λx y H Q=>∃l k xs,x=.ref l/\y=.int k/\H l=some (.lst xs)/\-(2^63)<=k/\k<2^63/\xs.length*k.toNat<=Qv/\∀p,H p=none->Q (.ref p) (bz H p (.lst (Qu k.toNat xs).flatten))
theorem Fh{α:Type}(xs:List α)(k:Nat):(Qu k xs).flatten.length=k*xs.length:=by induction k with|zero=>simp|succ k ih=>rw[Tp,Si,RN,ih,Nat.succ_mul,Nat.add_comm]
theorem IF:kB X (Rz .Mult) Ja:=by
 intro pins s σ H x y v u Q I rx ry h;obtain⟨l,k,xs,rfl,rfl,hH,h1,h2,hz,q⟩:=h;cases rx;obtain⟨t,rfl⟩:=ry;obtain⟨z,its,n,r,hl,e⟩:=I.lstM hH;have hlen:its.toArray.size*k.toNat<=Qv:=by rw[QN,<-hl];exact hz
 have hcap:¬its.toArray.size*k.toNat>(2^63-1)/8:=by
  have:(Qv:Nat)<=(2^63-1)/8:=by decide
  lia
 have hfit:¬(!Builtin.List.listFitsIndex k)=true:=by rw[fitsIndex_both h1 h2];exact RM
 have hlong:¬Vx (its.toArray.size*k.toNat)=true:=by rw[CP hlen];exact RM
 have hnew:TV (λx1 x2=>x1++x2) #[] (Qu (if its.toArray.isEmpty=true then 0 else k.toNat) its.toArray)=(Qu k.toNat its).flatten.toArray:=by
  have f0:∀m:Nat,TV (λx1 x2=>x1++x2) #[] (Qu m its.toArray)=(Qu m its).flatten.toArray:=λm=>by have:=tH its m [];rw[QI]at this;exact this
  rw[f0];cases its with|nil=>simp|cons a r'=>rw[if_neg ↥1]
 refine wpAny_binaryOp_repeat_ref (T:="list") (U:="int") ⋯ ⟨_,e,rfl⟩ (λs'=>Uv s' k t) noFill_list_mul F.fills_int_mul UT repeat_list F.slot_int_index.lookup (Tq UT (Uv s k t) F.entry_int_rmul (F.args_int_rmul_2 _ _) (int___rmul___int_list k t l its.toArray n) ⟨e,rfl,⟨_,e,rfl⟩,Tq F.slot_list_mul ⟨_,e,rfl⟩ F.entry_list_mul (F.args_list_mul_2 _ _) (AutoListH.list___mul___list_int_3 l its.toArray n k t hfit hcap hlong) ⟨e,?_⟩⟩);rw[hnew];exact⟨.ref _,_,I.lnew (t':=s.toks) (r.rep k.toNat) (by rw[Fh,Nat.mul_comm];exact hz),rfl,q _ I.fresh⟩
end
section
variable{prog:Qn}{w:Qk}{A:Qr}{E:Qd->Qf->Prop}{s:Qf}
end
section
variable{X:Cx}
end
end L2
namespace Att
open PySem PySem.W PySem.Calls PyProof.Rows
theorem pG{P:Params}{h:Qm}:∀(ns:List Int) (vs:List Qd),WellAll P h vs (ns.map WData.int)->IntsAre vs ns:=by intro ns;induction ns with|nil=>intro vs w;rw[Rw]at w;cases w;exact .nil|cons n ns ih=>intro vs w;rw[QB]at w;cases w with|cons a b=>cases a;exact .cons _ _ (ih _ b)
theorem Bd{l:OpenLaw}{n:Nat}(hn:l.most=some n){P:Params}{h:Qm}{args:List WData}{vals:List Qd}(hpre:l.row.toRowW.claim.pre args=true)(hwl:WellAll P h vals args):∃a vs ns,vals=[Value.ref a]/\args=[WData.list (ns.map WData.int)]/\h.get? a=some {cls:=.type "list",data:=.seq vs.toArray}/\IntsAre vs ns/\ns.length<=n:=by
 have hsh:WShape.hasAll [] args [.list .int]=true:=(pre_splitW hpre).1;have hc:l.pre.holds [] {args:=args}=true:=(pre_splitW hpre).2;obtain⟨d,r,rfl,h1,h2⟩:=hasAllW_cons hsh;obtain rfl:=hasAllW_nil h2;obtain⟨xs,rfl,h3⟩:=hasW_list h1;obtain⟨ns,rfl⟩:=items_int h3;have hlen:ns.length<=n:=by
  unfold OpenLaw.pre at hc;have h4:(WTm.not (.lt (.lit (.int (n:Int))) (.len (.arg 0)))).holds [] {args:=[.list (ns.map .int)]}=true:=by have h4:=(holds_andW hc).1;rw[hn]at h4;exact h4
  have h5:=condW_of h4 (w_not (w_lt w_lit (w_len_list (w_arg rfl))));rw[Qz]at h5;refine Nat.le_of_not_lt λq=>?_;have q':(n:Int)<((ns.length:Nat):Int):=by lia
  first|(rw[decide_eq_true q']at h5;exact absurd h5 ⋯)|(simp at h5;lia)
 cases hwl with|cons w1 w2=>cases w2;cases w1 with|list ho hall=>exact⟨_,_,ns,rfl,rfl,ho,pG ns _ hall,hlen⟩
theorem A8(l:OpenLaw)(args:List WData):l.row.toRowW.claim.post args (.bool true) args=true:=postW_of (r:=l.row.toRowW) (X:=(true==true)) (show WShape.has [] (.bool true) .bool=true by first|rfl|decide|simp[WShape.has,WShape.arms,WShape.armsAll]) (show(WTm.eq .res (.lit (.bool true))).value [] {args:=args,res:=some (.bool true),after:=args}=some (.bool (true==true)) from w_eq_bool (w_res rfl) w_lit) rfl
theorem attach_call{l:OpenLaw}{n:Nat}{q:Qn}{loose:List Str}{XP:(Str->Option Qd)->Qm->Prop}{YP:Qk->Qm->Prop}{d:DefRec}(hn:l.most=some n)(hdf:d.params.defaults=[])(call:∀(w:Qk) (s₀ s₁:Qf) (mg mb:Str->Option Qd) (fa:Qe) (o:Obj) (pm cd doc:Qd) (a:Qe) (vs:List Qd) (ns:List Int),Ground q loose [] XP w s₀ mg mb s₁.heap->YP w s₁.heap->s₁.heap.get? fa=some o->o.data=.func (docDef d.name d.params d.body d.scope pm cd doc)->s₁.heap.CodeRec cd d.name->mg d.name=some (.ref fa)->s₁.heap.get? a=some {cls:=.type "list",data:=.seq vs.toArray}->IntsAre vs ns->ns.length<=n->s₁.gens=#[]->Rh (Ql l.prog w) callerA (.call (.ref fa) ⟨[.ref a],[]⟩) (λr s'=>r=.ok (.ret (.bool true))/\OldK s₁.heap s'.heap/\s'.os=s₁.os/\SC s'.gens) s₁):WalkO q loose XP YP l.row.toRowW d [] (λf vs=>PySem.call f vs):=by intro w s₀ s₁ mg mb G Y fa o pm cd doc dV kV ho hd hcd hD hmg hg args vals as hpre hlay hrd hwl hlo;obtain rfl:dV=.none:=Dflts.none hD hdf;obtain rfl:kV=.none:=Dflts.noKw hD;obtain⟨a,vs,ns,rfl,rfl,hobj,hints,hlen⟩:=Bd hn hpre hwl;refine enter_call (Uq (call w s₀ s₁ mg mb fa o pm cd doc a vs ns G Y ho (fd_plain hd) hcd hmg hobj hints hlen hg) λr s' hq=>?_);obtain⟨rfl,h2,h3,h4⟩:=hq;exact⟨.inl ⟨.bool true,.bool true,[],rfl,λ_=>rfl,.bool true,A8 l _,λ_=>⟨List.Pairwise.nil,λ_ hm=>(nomatch hm)⟩⟩,h2,h3,h4⟩
section
variable{prog:Qn}{w:Qk}{A:Qr}{E:Qd->Qf->Prop}{s:Qf}{K:Frag}
end
end Att
namespace L2
open PySem PySem.Spec PyProof.Rows
theorem oD:∀{vs:List Qd}{ns:List Int},IntsAre vs ns->a' (ns.map V.int) vs|_,_,.nil=>.nil|_,_,.cons n t h=>.cons ⟨t,rfl⟩ (oD h)
def HB(H:Hp):Prop:=∀b,H b=none\/∃o xs,H b=some (.frz o (.lst xs))
theorem CA{P:Qn}{w:Qk}{K:⇑0}{mg mb:Str->Option Qd}{CX:sr}{k:Nat}{fa a:Qe}{fd:QJ}{x:Str}{sp:Sp}{s₁:Qf}{vs:List Qd}{ns:List Int}(KX:K.In s₁.heap)(hns:s₁.heap.Ns QS mg)(hb:s₁.heap.Ns builtinsNs mb)(hbb:∀x:Str,x≠"__name__"->mb x=Sb x)(hlim:s₁.heap.NoLimit)(hg:s₁.gens=#[])(ha:s₁.heap.get? a=some {cls:=.type "list",data:=.seq vs.toArray})(hi:IntsAre vs ns)(hl:ns.length<=Qv)(hr:dt k callerA)(F:∀base:Qm,K.In base->base.Ns QS mg->bu P w K mg base CX k fa fd [x] sp)(hbind:∀(s:Qf) (u:Qd),BindsTo s fd ⟨[u],[]⟩ [(x,u)])(hsp:∀H:Hp,HB H->jR K H a (ns.map V.int)->sp [.ref a] H (λv _=>v=.bl true) λ_ _ _=>False)(hCX:∀H e s',CX [] H s₁ (λ_ _ _=>False) e s'->False):Rh (Ql P w) callerA (.call (.ref fa) ⟨[.ref a],[]⟩) (λr s'=>r=.ok (.ret (.bool true))/\OldK s₁.heap s'.heap/\s'.os=s₁.os/\SC s'.gens) s₁:=by
 have rv:=oD hi;have lenV:=hi.length;have core:∀H:Hp,HB H->jR K H a (ns.map V.int)->mC P w H s₁.heap->(∀b,H b≠none->b=a)->(H a≠none->K.lookup a=none)->Rh (Ql P w) callerA (.call (.ref fa) ⟨[.ref a],[]⟩) (λr s'=>r=.ok (.ret (.bool true))/\OldK s₁.heap s'.heap/\s'.os=s₁.os/\SC s'.gens) s₁:=by
  intro H hO hS hok hA hK;have base_of:∀{b:Qe}{o:Obj},s₁.heap.get? b=some o->H b=none->(uQ s₁.heap H).get? b=some o:=λe n=>Ck e n;have noA:∀{b:Qe}{o:Obj}{es:Array DictEntry}{ep:Nat},s₁.heap.get? b=some o->o.data=.dict es ep->H b=none:=fun{b o es ep}e d=>by cases q:H b with|none=>rfl|some u=>have e':b=a:=hA b (by rw[q];simp);subst e';rw[ha]at e;cases e;have d':Data.seq vs.toArray _=Data.dict es ep:=d;cases d'
  have nsK:∀{b:Qe}{m:Str->Option Qd},s₁.heap.Ns b m->(uQ s₁.heap H).Ns b m:=fun{b m}⟨o,es,ep,e,d,r⟩=>⟨o,es,ep,base_of e (noA e d),d,r⟩;have hKb:K.In (uQ s₁.heap H):=λb o e=>base_of (KX b o e) (by cases q:H b with|none=>rfl|some u=>have e':b=a:=hA b (by rw[q];simp);subst e';rw[hK (by rw[q];simp)]at e;cases e);have hM:Mod K mg (uQ s₁.heap H):=⟨hKb,nsK hns,⟨mb,nsK hb,hbb⟩,let⟨mc,h1,h2⟩:=hlim;⟨mc,nsK h1,h2⟩⟩;have e0:Ey P w K mg (uQ s₁.heap H) callerA [] s₁ H:=⟨rfl,hM,λb o e=>Fq e,Nat.le_of_eq (AK _ _),trivial,λb hb=>absurd (show b∈([]:List Qe) from hb) ↥1,hok,.of_eq hg⟩;refine Uq ((F _ hKb (nsK hns)).run callerA [] s₁ H ⟨[.ref a],[]⟩ [.ref a] [.ref a] _ _ hr e0 (hbind s₁ (.ref a)) (.cons rfl .nil) (hsp H hO hS)) λr s' h=>?_;cases r with|error e=>exact(hCX H e s' h).elim|ok fl=>cases fl with|next=>exact Ry h|brk=>exact Ry h|cont=>exact Ry h|ret u=>obtain⟨v,H',os,bare,un,hok',r',q⟩:=h;have q':v=.bl true:=q;subst q';obtain rfl:u=Value.bool true:=r';refine⟨rfl,OldK.of_keep λb o e=>?_,os,bare⟩;cases q:H b with|none=>exact un.keep b o e q (by intro z;exact absurd (show b∈([]:List Qe) from z) ↥1) ↥1|some u=>
   rcases hO b with z|⟨ob,xs,z⟩;·rw[q]at z;cases z
   ·have z2:=un.frzs b ob _ z;obtain⟨e1,_⟩:=hok b _ z;obtain⟨e2,_⟩:=hok' b _ z2;rw[e]at e1;cases e1;exact e2
 cases hk:K.lookup a with|some o=>have e:=KX a o hk;rw[ha]at e;cases e;refine core (λ_=>none) (λ_=>.inl rfl) (.inr ⟨_,vs.toArray,_,hk,rfl,rfl,rfl,by rw[QN,lenV];exact hl,by simpa using rv⟩) (λb u z=>by have z':(none:Option HO)=some u:=z;cases z') (λb z=>absurd rfl z) λz=>absurd rfl z|none=>
  refine core (λb=>if b=a then some (.frz {cls:=.type "list",data:=.seq vs.toArray} (.lst (ns.map V.int))) else none) (λb=>?_) (.inl (.inr ⟨{cls:=.type "list",data:=.seq vs.toArray},if_pos rfl⟩)) (λb u z=>?_) (λb z=>?_) λ_=>hk
  ·by_cases hb:b=a;·exact .inr ⟨_,_,if_pos hb⟩
   ·exact .inl (if_neg hb)
  ·by_cases hb:b=a;·have z':=(if_pos hb).symm.trans z;cases z';subst hb;exact⟨ha,by rw[Qz];exact hl,vs,_,rv,ha⟩
   ·have z':=(if_neg hb).symm.trans z;cases z'
  ·by_cases hb:b=a;·exact hb
   ·exact absurd (if_neg hb) z
theorem walk_of{l:PySem.W.OpenLaw}{n k:Nat}{q:Qn}{loose:List Str}{XP:(Str->Option Qd)->Qm->Prop}{YP:Qk->Qm->Prop}{d:DefRec}{K:Params->⇑0}{CX:Qk->sr}{sp:Qk->Sp}{x:Str}(hn:l.most=some n)(hn2:n<=Qv)(hdf:d.params.defaults=[])(hr:dt k callerA)(hY:∀(w:Qk) (h:Qm),YP w h->(K w.params).In h)(F:∀(w:Qk) (mg:Str->Option Qd) (fa:Qe) (h:Qm),(K w.params).In h->h.Ns QS mg->mg d.name=some (.ref fa)->∃fd:QJ,(∀(s:Qf) (u:Qd),BindsTo s fd ⟨[u],[]⟩ [(x,u)])/\∀base:Qm,(K w.params).In base->base.Ns QS mg->bu l.prog w (K w.params) mg base (CX w) k fa fd [x] (sp w))(hsp:∀(w:Qk) (H:Hp) (a:Qe) (ns:List Int),ns.length<=n->HB H->jR (K w.params) H a (ns.map V.int)->sp w [.ref a] H (λv _=>v=.bl true) λ_ _ _=>False)(hCX:∀(w:Qk) (H:Hp) (s:Qf) (e:Qd) (s':Qf),CX w [] H s (λ_ _ _=>False) e s'->False):PySem.W.WalkO q loose XP YP l.row.toRowW d [] (λf vs=>PySem.call f vs):=by refine Att.attach_call hn hdf λw s₀ s₁ mg mb fa o pm cd doc a vs ns G Y ho hd hcd hmg hobj hints hlen hg=>?_;have KX:=hY w _ Y;obtain⟨fd,hb,hF⟩:=F w mg fa _ KX G.T.g hmg;exact CA KX G.T.g G.T.b G.T.builtins G.T.nolimit hg hobj hints (QP hlen hn2) hr hF hb (λH hO hS=>hsp w H a ns hlen hO hS) λH e s'=>hCX w H s₁ e s'
def eX(s:Qo):Arguments:=match s with|.FunctionDef _ a _ _ _ _ _ _ _ _=>a|_=>{posonlyargs:=[],args:=[],vararg:=none,kwonlyargs:=[],kw_defaults:=[],kwarg:=none,defaults:=[]}
def cI(s:Qo):List Qo:=match s with|.FunctionDef _ _ b _ _ _ _ _ _ _=>b|_=>[]
def au(s:Qo):Qx:=match s with|.FunctionDef _ _ _ _ _ _ sc _ _ _=>sc|_=>{kind:=.function,names:=[],isGenerator:=false,isCoroutine:=false}
abbrev fx:sr:=λ_ _ _ _ _ _=>False
abbrev E0:XK:=λ_ _ _=>False
theorem Hg{X:Cx}:x6 fx X E0:=λ_ _ _ _ _ _ _ h=>h.elim
structure G0 (K:⇑0) (x qual:Str) (st:Qo) (f:Qe) (fd:QJ):Prop where
 ex:∃(oc:Qd) (od:Option Qe) (kV doc pm:Qd) (an:Option Qe) (cdv ct:Qd) (osl:Array (Option Qd)),fd=Sf x qual (eX st) (cI st) (au st) .none kV doc pm an cdv ct/\K.lookup f=some ⟨oc,od,.func fd,osl⟩/\Ut K cdv qual=true
 kp:Tn K (.ref f)=true
section
variable{P:Qn}{w:Qk}{K:⇑0}{mg:Str->Option Qd}{base:Qm}
theorem G0.ok{x qual:Str}{st:Qo}{f:Qe}{fd:QJ}{N ps:List Str}{k:Nat}{sp:Sp}(F:G0 K x qual st f fd)(S:aH N ps (au st))(len:∀vs H Q E,sp vs H Q E->vs.length=ps.length)(hbody:∀(cdv:Qd) (A:Qr) (outer:List Env) (s:Qf) (H:Hp) (vs:List V) (Q:VK) (E:XK),dt k (A.deeper (QF qual (au st) ↑s f cdv))->sp vs H Q E->∃t,mD (fK fx P w K mg base N qual (au st) f cdv A outer s H E).nox (cI st) t/\t {nx:=λ_ H'=>Q .non H',rt:=Q} (dJ N vs) H):bu P w K mg base fx (k+1) f fd ps sp:=by obtain⟨oc,od,kV,doc,pm,an,cdv,ct,osl,rfl,lk,hcd⟩:=F.ex;refine Hb lk hcd S len λA outer s H vs Q E hr hsp=>?_;obtain⟨t,h,q⟩:=hbody cdv A outer s H vs Q E hr hsp;exact⟨t,h.nox,q⟩
theorem G0.binds{x qual:Str}{st:Qo}{f:Qe}{fd:QJ}{ps:List Str}(F:G0 K x qual st f fd)(h:∀(kV doc pm:Qd) (an:Option Qe) (cdv ct:Qd) (us:List Qd),us.length=ps.length->bindArgs (Sf x qual (eX st) (cI st) (au st) .none kV doc pm an cdv ct) ⟨us,[]⟩=pure (ps.zip us)):p8 K fd ps []:=by obtain⟨oc,od,kV,doc,pm,an,cdv,ct,osl,rfl,lk,hcd⟩:=F.ex;exact .all (h kV doc pm an cdv ct)
theorem B8{x qual:Str}{st:Qo}{f:Qe}{oc:Qd}{od an:Option Qe}{osl:Array (Option Qd)}{kV doc pm cdv ct:Qd}(l:K.lookup f=some ⟨oc,od,.func (Sf x qual (eX st) (cI st) (au st) .none kV doc pm an cdv ct),osl⟩)(c:Ut K cdv qual=true)(k:Tn K (.ref f)=true):G0 K x qual st f (Sf x qual (eX st) (cI st) (au st) .none kV doc pm an cdv ct):=⟨⟨oc,od,kV,doc,pm,an,cdv,ct,osl,rfl,l,c⟩,k⟩
end
theorem uc{n:Nat}(h:n<=1000):n<Qv:=Vy h ⋯
section
variable{X:Cx}
theorem pv(i:Nat){x:Str}{pos:Pos}(hN:X.N[i]?=some x:=by rfl)(hv:Bw X.env.scope x:=by first|exact Or.inl rfl|exact Or.inr ↥3|exact Or.inr (Or.inr rfl))(hd:(x==("__debug__":Str))=false:=by decide)(hcd:(x==("__classdict__":Str))=false:=by decide):PE X (.Name x pos) (pN i):=hJ hN hv hd hcd
end
theorem E5{A B:Prop}(h:B):if false=true then A else B:=by rw[if_neg RM];exact h
theorem yo{A B:Prop}(h:A):if true=true then A else B:=by rw[if_pos rfl];exact h
def aG(H H':Hp):Prop:=∀b o,H b=some o->H' b=some o
theorem aG.refl(H:Hp):aG H H:=λ_ _ h=>h
theorem aG.trans{H H1 H2:Hp}(a:aG H H1)(b:aG H1 H2):aG H H2:=λc o h=>b c o (a c o h)
theorem aG.free{H H':Hp}(e:aG H H'){l:Qe}(h:H' l=Option.none):H l=Option.none:=by cases q:H l with|none=>rfl|some o=>rw[e l o q]at h;cases h
theorem aG.seq{K:⇑0}{H H':Hp}{a:Qe}{xs:List V}(e:aG H H')(h:jR K H a xs):jR K H' a xs:=by
 rcases h with (h|⟨o,h⟩)|h;·exact .inl (.inl (e _ _ h))
 ·exact .inl (.inr ⟨o,e _ _ h⟩)
 ·exact .inr h
end L2
set_option maxHeartbeats 4000000
namespace L2
open PySem PySem.Spec PyProof.Rows
def Bt(n:Nat)(i:Int):Prop:=i.natAbs<2^n
theorem Bt.mono{m n:Nat}{i:Int}(h:Bt m i)(hm:m<=n):Bt n i:=Rr h (Vz ⋯ hm)
theorem Bt.mul{m n:Nat}{i j:Int}(h:Bt m i)(h':Bt n j):Bt (m+n) (i*j):=by unfold Bt at*;rw[UV,Nat.pow_add];exact Nat.mul_lt_mul'' h h'
theorem Bt.log{m:Nat}{i:Int}(h:Bt m i)(hm:0<m):i.natAbs.log2<m:=by
 unfold Bt at h;rcases Nat.eq_zero_or_pos i.natAbs with h0|hp;·rw[h0];exact hm
 ·exact(Nat.log2_lt ↥0).mpr h
theorem Bt.bits{m:Nat}{i:Int}(h:Bt m i)(hm:0<m):Builtin.Int.intBits i<=m:=by
 unfold Builtin.Int.intBits;split;·exact Ss _
 ·exact h.log hm
theorem Bt.of_le{m:Nat}{i:Int}{j:Int}(h:Bt m j)(e:i.natAbs<=j.natAbs):Bt m i:=Vy e h
section
variable{X:Cx}
def GX(i j:Int):Prop:=Bt 4000 i/\Bt 4000 j
theorem FL:kB X (Rz .Mult) (rI GX λi j=>.int (i*j)):=Kl λ_ _ _ _ _ _ _ hc q=>mul_int q (.of_bits (QP (hc.1.bits ⋯) ⋯) (QP (hc.2.bits ⋯) ⋯))
def GW(i j:Int):Prop:=j≠0/\Bt 8000 j
theorem C1:kB X (Rz .FloorDiv) (rI GW λi j=>.int (i.fdiv j)):=Kl λ_ _ _ _ _ _ _ hc q=>floordiv_int hc.1 q (.inl (PyProof.noPylong_of_log2 (Uw (hc.2.log ⋯) ⋯)))
end
def oE(H H':Hp):Prop:=∀a o,H a=some o->(∀xs,o≠.lst xs)->(∀ob xs,o≠.frz ob (.lst xs))->H' a=some o
theorem oE.trans{H H1 H2:Hp}(a:oE H H1)(b:oE H1 H2):oE H H2:=λc o h n m=>b c o (a c o h n m) n m
theorem aG.ts{H H':Hp}(h:aG H H'):oE H H':=λa o e _ _=>h a o e
theorem oE.tup{K:⇑0}{H H':Hp}(h:oE H H'){a:Qe}{xs:List V}(q:eO K H a xs):eO K H' a xs:=by
 rcases q with (q|⟨o,q⟩)|q;·exact .inl (.inl (h _ _ q (λ_ e=>nomatch e) (λ_ _ e=>nomatch e)))
 ·exact .inl (.inr ⟨o,h _ _ q (λ_ e=>nomatch e) (λ_ _ e=>nomatch e)⟩)
 ·exact .inr q
section
variable{X:Cx}
end
structure eN (K:⇑0) (mg:Str->Option Qd) (x:Str) (st:Qo) (f:Qe) (fd:QJ) (ps:List Str):Prop where
 F:G0 K x x st f fd
 m:mg x=some (.ref f)b:p8 K fd ps []
theorem HS{K:⇑0}{mg:Str->Option Qd}{h:Qm}{x:Str}{st:Qo}{f:Qe}{ps:List Str}{oc:Qd}{od an:Option Qe}{osl:Array (Option Qd)}{kV doc pm cdv ct:Qd}(X:K.In h)(G:h.Ns QS mg)(a:Sj K QS x=some (some (.ref f)))(l:K.lookup f=some ⟨oc,od,.func (Sf x x (eX st) (cI st) (au st) .none kV doc pm an cdv ct),osl⟩)(c:Ut K cdv x=true)(k:Tn K (.ref f)=true)(hb:∀(kV doc pm:Qd) (an:Option Qe) (cdv ct:Qd) (us:List Qd),us.length=ps.length->bindArgs (Sf x x (eX st) (cI st) (au st) .none kV doc pm an cdv ct) ⟨us,[]⟩=pure (ps.zip us)):eN K mg x st f (Sf x x (eX st) (cI st) (au st) .none kV doc pm an cdv ct) ps:=⟨B8 l c k,SE X G a,(B8 l c k).binds hb⟩
theorem LS{X:Cx}{x:Str}{st:Qo}{f:Qe}{fd:QJ}{ps:List Str}{k:Nat}{sp:Sp}{e:Qh}{es:List Qh}{t:TA}{p pos:Pos}(h:eN X.K X.mg x st f fd ps)(G:bu X.prog X.w X.K X.mg X.base fx k f fd ps sp)(hr:dt k X.A)(ha:PA X (e::es) t)(hg:Gl X x:=by rfl)(hdb:(x==("__debug__":Str))=false:=by decide)(he:Qq (e::es) X.env=(false,Qs e X.env)::Qq es X.env:=by rfl)(hpl:(QH pos (Qq es X.env)).any (·.1)=false:=by rfl):PE X (.Call (.Name x p) (e::es) [] pos) (z9 sp [] E0 t):=zG G hr hg h.m h.F.kp h.b .nil Hg ha hdb he hpl
theorem aG.new{H:Hp}{p:Qe}{o:HO}(h:H p=none):aG H (bz H p o):=λb u e=>by rw[aA (fN e h)];exact e
theorem aG.tup{K:⇑0}{H H':Hp}{a:Qe}{xs:List V}(e:aG H H')(h:eO K H a xs):eO K H' a xs:=e.ts.tup h
def lowM(t b:Int):Int×Int:=if b<0 then(t.fdiv (-(Qy t b:Int)),b.fdiv (-(Qy t b:Int))) else(t.fdiv (Qy t b:Int),b.fdiv (Qy t b:Int))
theorem wy(x y:Int):Qy y (x.fmod y)=Qy x y:=by rw[Int.fmod_def,Int.gcd_sub_mul_left_right,Int.gcd_comm]
theorem iW(x:Int){y:Int}(h:y≠0):(x.fmod y).natAbs<y.natAbs:=by
 rcases Int.lt_or_gt_of_ne h with h|h
 ·have h1:x.fmod y=-((-x).fmod (-y)):=by have:=Int.neg_fmod_neg x y;lia
  have h2:=Int.fmod_nonneg_of_pos (-x) (b:=-y) ↥0;have h3:=Int.fmod_lt_of_pos (-x) (b:=-y) ↥0;lia
 ·have h2:=Int.fmod_nonneg_of_pos x h;have h3:=Int.fmod_lt_of_pos x h;lia
theorem uP{t b:Int}(h:b≠0):(0:Int)<Qy t b:=by have:=Int.gcd_pos_of_ne_zero_right t h;lia
theorem jB{t b:Int}(h:b≠0):∃d:Int,d.natAbs=Qy t b/\d≠0/\(lowM t b).1*d=t/\(lowM t b).2*d=b/\0<(lowM t b).2:=by
 have hg:=uP (t:=t) h;have d1:(Qy t b:Int)∣t:=Int.gcd_dvd_left ..;have d2:(Qy t b:Int)∣b:=Int.gcd_dvd_right ..;unfold lowM;split
 ·rename_i hb;have e1:t.fdiv (-(Qy t b:Int))*(-(Qy t b:Int))=t:=UW (Int.neg_dvd.mpr d1);have e2:b.fdiv (-(Qy t b:Int))*(-(Qy t b:Int))=b:=UW (Int.neg_dvd.mpr d2);refine⟨-(Qy t b:Int),by lia,by lia,e1,e2,?_⟩;show 0<b.fdiv (-(Qy t b:Int));have h3:b.fdiv (-(Qy t b:Int))*(Qy t b:Int)=-b:=by rw[Int.mul_neg]at e2;lia
  exact Int.pos_of_mul_pos_left ↥0 ↥0 (b:=(Qy t b:Int))
 ·rename_i hb;have e1:t.fdiv (Qy t b:Int)*(Qy t b:Int)=t:=UW d1;have e2:b.fdiv (Qy t b:Int)*(Qy t b:Int)=b:=UW d2;refine⟨(Qy t b:Int),by lia,by lia,e1,e2,?_⟩;show 0<b.fdiv (Qy t b:Int);exact Int.pos_of_mul_pos_left ↥0 ↥0 (b:=(Qy t b:Int))
theorem qR{t b:Int}(h:b≠0):Qy (lowM t b).1 (lowM t b).2=1:=by
 obtain⟨d,h1,h2,h3,h4,h5⟩:=jB (t:=t) h;have e:Qy ((lowM t b).1*d) ((lowM t b).2*d)=Qy (lowM t b).1 (lowM t b).2*d.natAbs:=Int.gcd_mul_right ..;rw[h3,h4,<-h1]at e;have hd:0<d.natAbs:=by lia
 exact(Nat.eq_of_mul_eq_mul_right hd (by rw[Nat.one_mul];exact e)).symm
theorem qQ{t b:Int}(h:b≠0):(lowM t b).1*b=(lowM t b).2*t:=by obtain⟨d,h1,h2,h3,h4,h5⟩:=jB (t:=t) h;generalize (lowM t b).1=x at*;generalize (lowM t b).2=y at*;subst h3 h4;rw[<-QX,<-QX,RI x]
theorem Ci{t b:Int}(h:b≠0){n:Nat}(hb:Bt n b):Bt n (Qy t b:Int):=by refine hb.of_le ?_;have h1:=Nat.le_of_dvd (show 0<b.natAbs by lia) (Int.ofNat_dvd.mp (by rw[Int.dvd_natAbs];exact Int.gcd_dvd_right t b));lia
mutual
def cnt:Qg->Nat|.tuple ds=>1+mh ds|.str _=>0|_=>1
def mh:List Qg->Nat|[]=>0|d::ds=>cnt d+mh ds
end
mutual
def qV:Qg->Bool|.tuple ds=>jF ds|.str _=>false|.list _=>false|.dict _=>false|_=>true
def jF:List Qg->Bool|[]=>true|d::ds=>qV d&&jF ds
end
theorem sG{a:Int}(h:a.natAbs.log2<1920):(Rj (toString a)).length<=1921:=by have e:=int_text_length_le (k:=1920) ⋯ h;rw[PySem.ofString_length];lia
theorem rB(x:Str)(r:List Str):piled (x::r)=x.length+2+piled r:=by simp[piled]
theorem ui(ts:List Str):(tupleText ts).length<=piled ts+3:=by
 unfold tupleText;rw[strLen_append,strLen_append];have h1:(("(":Str)).length=1:=by decide
 have h2:(Rj (if (ts.length==1)=true then",)"else")")).length<=2:=by split<;>decide
 have h3:(Str.join ", " ts).length<=piled ts:=by cases ts with|nil=>show(Str.join ", " []).length<=0;decide|cons x r=>have:=join_length_add (x::r) ↥1;lia
 lia
mutual
theorem ua:∀{d:Qg},qV d=true->d.showable=true->d.shown.length+2<=2000*cnt d
 |.none,_,_=>by show(Rj "None").length+2<=2000*1;decide|.bool b,_,_=>by
  cases b;·show(Rj "False").length+2<=2000*1;decide
  ·show(Rj "True").length+2<=2000*1;decide|.int i,_,hs=>by simp only[PyData.showable,decide_eq_true_eq]at hs;have:=sG hs;show(Rj (toString i)).length+2<=2000*1;lia|.tuple ds,hn,hs=>by simp only[PyData.showable]at hs;simp only[qV]at hn;have h1:=nE hn hs;have h2:=ui (SF ds);simp only[PyData.shown,cnt];lia|.str _,hn,_=>by simp[qV]at hn|.list _,hn,_=>by simp[qV]at hn|.dict _,hn,_=>by simp[qV]at hn
theorem nE:∀{ds:List Qg},jF ds=true->TX ds=true->piled (SF ds)<=2000*mh ds|[],_,_=>by simp[SF,piled]|d::ds,hn,hs=>by simp only[jF,QU]at hn;simp only[TX,QU]at hs;have h1:=ua hn.1 hs.1;have h2:=nE hn.2 hs.2;simp only[SF,mh,rB];lia
end
def jh(env:Env):List (Str×RH)->List (Str×Qe)->List (Str×Qe)|[],cs=>cs|(n,k)::r,cs=>jh env r (if k==.free then(n,(env.cells.lookup n).getD 0)::cs else cs)
theorem mK{env:Env}:∀(names:List (Str×RH)) (cs:List (Str×Qe)),(∀y∈names,y.2=.free->∃c,env.cells.lookup y.1=some c)->(forIn names cs (fun(x:Str×RH) (r:List (Str×Qe))=>(if (x.2==RS)=true then do let a<-cellOf env x.1;pure (SR ((x.1,a)::r)) else pure (SR r):Sem (ForInStep (List (Str×Qe))))):Sem (List (Str×Qe)))=pure (jh env names cs)
 |[],cs,_=>rfl|(n,k)::r,cs,h=>by
  rw[List.forIn_cons];have ih:=λcs'=>mK (env:=env) r cs' (λy hy=>h y (Sm _ hy));by_cases hk:(k==RS)=true
  ·have hk':k=.free:=by simpa using hk
   obtain⟨c,hc⟩:=h (n,k) SY hk';have e:cellOf env n=pure c:=by unfold cellOf;rw[hc]
   simp only[hk,if_true,e,pure_bind,jh,hc,Ux];exact ih _
  ·have hk':(k==RS)=false:=by simpa using hk
   simp only[hk',UX,if_false,pure_bind,jh];exact ih _
theorem mf{scope:Qx}{env:Env}(h:∀y∈scope.names,y.2=.free->∃c,env.cells.lookup y.1=some c):closureFor scope env=pure (jh env scope.names []):=by have e:=mK (env:=env) scope.names [] h;unfold closureFor;simp only[pure_bind,bind_pure]at e⊢;exact e
theorem qq{env:Env}:∀(names:List (Str×RH)) (cs:List (Str×Qe)) (x:Str) (c:Qe),(∀y∈names,y.2=.free->∃c,env.cells.lookup y.1=some c)->(∀x c,cs.lookup x=some c->env.cells.lookup x=some c)->(jh env names cs).lookup x=some c->env.cells.lookup x=some c
 |[],cs,x,c,_,hs,h=>hs x c h|(n,k)::r,cs,x,c,hn,hs,h=>by
  refine qq r _ x c (λy hy=>hn y (Sm _ hy)) (λx' c' e=>?_) h;by_cases hk:(k==RS)=true
  ·rw[if_pos hk]at e;obtain⟨c0,hc⟩:=hn (n,k) SY (by simpa using hk)
   rw[SG]at e;cases hx:x'==n with|true=>
    rw[hx]at e;have e1:x'=n:=by simpa using hx
    subst e1;simp only[hc,Ux,Tw]at e;rw[<-e];exact hc|false=>rw[hx]at e;exact hs x' c' e
  ·rw[if_neg hk]at e;exact hs x' c' e
theorem vV{env:Env}:∀(names:List (Str×RH)) (cs:List (Str×Qe)) (x:Str),((∃y∈names,y.1=x/\y.2=.free)\/∃c,cs.lookup x=some c)->∃c,(jh env names cs).lookup x=some c
 |[],cs,x,h=>by
  rcases h with⟨y,hy,_⟩|h;·cases hy
  ·exact h|(n,k)::r,cs,x,h=>by
  refine vV r _ x ?_;by_cases hk:(k==RS)=true;·rw[if_pos hk,SG];cases hx:x==n with|true=>exact .inr ⟨_,rfl⟩|false=>
   rcases h with⟨y,hy,e1,e2⟩|h
   ·rcases Qb hy with z|z;·subst z;subst e1;simp at hx
    ·exact .inl ⟨y,z,e1,e2⟩
   ·exact .inr h
  ·rw[if_neg hk];rcases h with⟨y,hy,e1,e2⟩|h
   ·rcases Qb hy with z|z;·subst z;exact absurd (by simpa using e2) hk
    ·exact .inl ⟨y,z,e1,e2⟩
   ·exact .inr h
theorem ko{env:Env}:∀{names:List (Str×RH)}{x:Str},names.lookup x=some .free->(names.map fun(n,k)=>if (k==RS&&env.scope.kind==.function&&env.kindOf n==some .cell) then(n,TK) else(n,k)).lookup x≠some .local|[],x,h=>by simp at h|(n,k)::r,x,h=>by rw[QB];cases hx:x==n with|true=>simp only[hx,SG]at h;cases h;show Uy x ((if (RS==RS&&env.scope.kind==.function&&env.kindOf n==some .cell)=true then(n,TK) else(n,RS))::_)≠_;split<;>simp[SG,hx]|false=>
 simp only[hx,SG]at h;have ih:=@ko env r x h;have e2:∀(l:List (Str×RH)),((if (k==RS&&env.scope.kind==.function&&env.kindOf n==some .cell)=true then(n,TK) else(n,k))::l).lookup x=l.lookup x:=λl=>by split<;>simp[SG,hx]
 simp only[e2];exact ih
def si(X:Cx)(ifs:List Qh)(t:TT):Prop:=∀(pins:List (Qe×Obj)) (s:Qf) (σ:L2.St) (H:Hp) (Q:Bool->Hp->Prop),aJ X pins σ H s->t σ H Q->Qj (Ql X.prog X.w) X.A (forIn ifs true λc r=>if r=true then do let ok<-isTrue c X.env (Qs c X.env);pure (SR ok) else pure (SR r)) (TP X pins σ Q) X.xe s
theorem vj{X:Cx}:si X [] (λ_ H Q=>Q true H):=λ_ _ _ H _ I h=>wpAny_tests_nil ⟨H,I,h⟩
theorem Gd{X:Cx}{c:Qh}{t:TT}(h:PT X c t):si X [c] t:=λpins s σ H Q I q=>wpAny_tests_one (h pins s σ H Q I q)
abbrev pJ:Qd->Qf->Prop:=λ_ _=>False
def BX(prog:Qn)(w:Qk)(A:Qr)(elt tg:Qh)(ifs:List Qh)(env:Env)(it acc:Qd)(onward:Qf->Prop)(v:Qd)(u:Qf):Prop:=Qj (Ql prog w) A (SM tg it v) (λ_ u1=>Qj (Ql prog w) A (RD tg env v) (λ_ u2=>Qj (Ql prog w) A (forIn ifs true λc r=>if r=true then do let ok<-isTrue c env (Qs c env);pure (SR ok) else pure (SR r)) (λok u3=>if ok=true then Qj (Ql prog w) A (Qs elt env) (λx u4=>Qj (Ql prog w) A (call (.builtin "list.append") [acc,x]) (λ_ u5=>onward u5) pJ u4) pJ u3 else onward u3) pJ u2) pJ u1) pJ u
theorem uw{prog:Qn}{w:Qk}{A:Qr}{R:Result->Qf->Prop}{elt tg iter:Qh}{ifs:List Qh}{scope:Qx}{pos:Pos}{it acc:Qd}{env:Env}(J:Nat->Qf->Prop)(turn:∀n u,J n u->Qj (Ql prog w) A (RE it) (λr u1=>(r=none->R (.ok .next) u1)/\∀v,r=some v->BX prog w A elt tg ifs env it acc (λu2=>∃m,m<n/\J m u2) v u1) pJ u){n0:Nat}{u0:Qf}(dJ:J n0 u0):Rh (Ql prog w) A (.compLoop (.ListComp elt [⟨tg,iter,ifs,0⟩] scope pos) 0 it acc env) R u0:=by refine Uz rfl J (λn u ju=>?_) n0 dJ;show Qj _ A ((Te (.ListComp elt [⟨tg,iter,ifs,0⟩] scope pos) 0 it acc env).onRaise _) _ _ u;refine wpAny_noted ?_;rw[compTurn_list];refine Qi (RL (Qi (Qw (turn n u ju) (λr u1 k1=>?_) λ_ _ z=>z.elim)));cases r with|none=>exact Qp (k1.1 rfl)|some v=>refine Qi (Qw (k1.2 v rfl) (λ_ u2 k2=>Qi (Qw k2 (λ_ u3 k3=>Qi (Qw k3 (λok u4 k4=>?_) λ_ _ z=>z.elim)) λ_ _ z=>z.elim)) λ_ _ z=>z.elim);cases ok with|false=>rw[if_neg RM]at k4;exact Qp ⟨rfl,k4⟩|true=>rw[if_pos rfl]at k4;refine Qi (Qi (Qw k4 (λx u5 k5=>Qi (Qw k5 (λ_ u6 k6=>?_) λ_ _ z=>z.elim)) λ_ _ z=>z.elim));exact Qp (Qp ⟨rfl,k6⟩)
def fB(cp:List (Nat×Str))(nT:Nat)(σ:L2.St):L2.St:=cp.map (λp=>(σ[p.1]?).join)++Qu nT none
structure z_ (cp:List (Nat×Str)) (nT:Nat) (wi:TI) (g:TG) (tc:TT) (te:TE) (σ:L2.St) (H:Hp) (Q:VK):Prop where go:wi σ H λJ H1=>∀l,H1 l=none->∃W:Nat->Nat->L2.St->Hp->Prop,(∃m,W 0 m (fB cp nT σ) (bz H1 l (.lst [])))/\∀i m σ' H',W i m σ' H'->(J.stop i H'/\Q (.ref l) H')\/(J.go i H'/\∃N:L2.St->Hp->Prop,(∀σ2 H2,N σ2 H2->∃m',m'<m/\W (i+1) m' σ2 H2)/\∀x H2,J.yld i H' x H2->g x σ' H2 λσ2 H3=>tc σ2 H3 λb H4=>if b=true then te σ2 H4 λv H5=>∃ys,H5 l=some (.lst ys)/\ys.length<Qv/\N σ2 (bz H5 l (.lst (ys++[v]))) else N σ2 H4)
section
variable{X:Cx}
def Dv(K:⇑0):R2:=λx y H Q=>∃a b xs ys,x=.ref a/\y=.ref b/\eO K H a xs/\eO K H b ys/\xs.length+ys.length<=Qv/\∀p H',aG H H'->eO K H' p (xs++ys)->Q (.ref p) H'
theorem FD:kB X (Rz .Add) (Dv X.K):=by
 intro pins s σ H x y v u Q I rx ry h;obtain⟨a,b,xs,ys,rfl,rfl,ha,hb,hz,q⟩:=h;cases rx;cases ry;by_cases hx:xs=[]
 ·obtain⟨i1,r1,p1,_⟩:=I.tuple ha;obtain⟨i2,r2,p2,_⟩:=I.tuple hb;obtain⟨m,F⟩:=I.fr;have e1:i1=[]:=by subst hx;cases r1;rfl
  refine add_tuples F (CN (g:=X.base)) p1 p2 (λ_=>?_) (λz1 _=>absurd e1 z1) (λz1 _ _ _ _=>absurd e1 z1) (by rw[<-r1.length,<-r2.length];exact hz);exact⟨.ref b,H,I,rfl,q b H (aG.refl H) (by rw[hx];exact hb)⟩
 ·exact FF pins s σ H (.ref a) (.ref b) _ _ Q I rfl rfl ⟨a,b,xs,ys,rfl,rfl,ha,hb,hx,hz,λz=>q a H (aG.refl H) (by rw[z,RF];exact ha),λ_ p hp=>q p _ (aG.new hp) (eO.of aw)⟩
theorem rh{x:V}{us:List Qd}(r:a' [x] us):∃u,us=[u]/\bC x u:=by cases r with|cons p p'=>cases p';exact⟨_,rfl,p⟩
theorem BV{k:Nat}(hr:dt k X.A):eA X (.builtin "sum") (λxs H Q=>∃(l:Qe) (ns:List Int),xs=[.ref l]/\jR X.K H l (ns.map V.int)/\Q (.int ns.sum) H):=by
 intro pins s σ H xs us Q I r h;obtain⟨l,ns,rfl,hs,q⟩:=h;obtain⟨u,rfl,ru⟩:=rh r;cases ru;obtain⟨its,rv,p,hz⟩:=I.list hs;have hi:IntsAre its ns:=qG rv;obtain⟨ys,ey⟩:=hi.allInts.items;have hl:=p.isList;rw[ey]at hl;refine PySem.sum_intListG hr.hd hl λh' tk t' hk=>?_;have e:preSum (numAt ys) ys.size=ns.sum:=by have e2:=nums_intItems (xs:=ys);rw[<-ey]at e2;have e3:=hi.numsOf;rw[preSum_eq,VA ↥1];rw[show its.toArray.toList=its from rfl,e3]at e2;rw[e2]
 exact⟨.int ns.sum,H,I.kept hk,⟨t',by rw[e]⟩,q⟩
theorem vX{prog:Qn}{w:Qk}{A:Qr}{E:Qd->Qf->Prop}{s:Qf}{t:Qe}{vs:List Qd}{Q:List Qd->Qf->Prop}(ht:IsTup s.heap t vs.toArray)(h:Q vs {s with heap:=(s.heap.push (seqObj "list" #[] 0)).update ↑s (SO (·++vs.toArray))})(hsz:vs.length<=Qv):Qj (Ql prog w) A (collect (.ref t)) Q E s:=by obtain⟨o,ho,hc,n,hd⟩:=id ht;unfold collect;refine Qi (wpAny_runValue (UA entry_proto_collect' ?_));show Qj _ _ (do QT (.builtin "list.__iadd__" ⟨[<-newList [],.ref t],[]⟩)) _ _ s;refine Qi (wpAny_newList (Qp ⟨Code.quiet_builtin _ ↥2,?_⟩));refine UA entry_list_iadd' ?_;show Qj _ _ (VB (.ref ↑s) (.ref t) (.ref ↑s)) _ _ {s with heap:=s.heap.push (seqObj "list" #[] 0)};unfold VB;have ho':(s.heap.push (seqObj "list" #[] 0)).get? t=some o:=QG _ ho;refine Qi (Uu (T:="tuple") ⟨o,ho',hc⟩ ?_);rw[if_pos (by rw[show(Value.type "tuple"==Value.type "tuple")=true from rfl,Bool.or_true])];refine Qi (listItems_at ho' hd ?_);refine Qi (listItems_at (xs:=#[]) (n:=0) (Rf _ rfl) rfl ?_);rw[if_neg ↥1];refine Qi (listUpdate_at (xs:=#[]) (n:=0) (Rf _ rfl) rfl ?_ (Ss _) (by show(#[]++vs.toArray).size<=Qv+1;simp only[Array.size_append,QN,List.length_nil];lia));refine Qp ?_;show Qj (Ql prog w) A (load ↑s>>=λo=>match o.data with|.seq xs _=>pure xs.toList|_=>unsupported "internal:collect") Q E {s with heap:=(s.heap.push (seqObj "list" #[] 0)).update ↑s (SO (·++vs.toArray))};refine Qi (wpAny_load (get?_update_seq (Rf _ rfl) _) ?_);show Qj _ _ (pure ((#[]:Array Qd)++vs.toArray).toList) Q E _;rw[show((#[]:Array Qd)++vs.toArray).toList=vs by simp];exact Qp h
theorem yP{prog:Qn}{w:Qk}{A:Qr}{E:Qd->Qf->Prop}{s:Qf}{t:Qe}{vs:List Qd}{ns:List Int}{Q:Qd->Qf->Prop}(ht:IsTup s.heap t vs.toArray)(hI:IntsAre vs ns)(h64:vs.length<64)(h:∀(out:Array Qd) (ns':List Int),IntsAre out.toList ns'->ns'.Perm ns->ns'.Pairwise (·<=·)->Q (.ref (↑s+1)) {s with heap:=sortedAll s.heap vs out}):Qj (Ql prog w) A (call (.builtin "sorted") [.ref t]) Q E s:=by
 refine Calls.call_function_entry kind_sorted plain_sorted entry_sorted (args_sorted1 _) ?_;unfold Sk.«sorted»;refine Qi (m:=checkCount "sorted" 1 1 _) (Qp ?_);refine Qi (vX ht ?_ (QP (Tx h64) ⋯));have z:((s.heap.push (seqObj "list" #[] 0)).update ↑s (SO (·++vs.toArray))).objs.size=↑s+1:=by rw[Heap.size_update,size_push']
 have o:(((s.heap.push (seqObj "list" #[] 0)).update ↑s (SO (·++vs.toArray))).push (seqObj "list" vs.toArray 0)).get? (↑s+1)=some (seqObj "list" vs.toArray 0):=by rw[<-z];exact Rf _ rfl
 refine Qi (wpAny_newList ?_);show Qj _ _ _ _ _ {s with heap:=((s.heap.push (seqObj "list" #[] 0)).update ↑s (SO (·++vs.toArray))).push (seqObj "list" vs.toArray 0)};rw[z];refine Qi (SL (Td slot_list_sort ⟨_,o,rfl⟩ entry_list_sort (list_sort_tree o hI h64 λout ns' b1 b2 b3=>⟨_,rfl,?_⟩) (args_list_sort _)));exact Qp ⟨_,rfl,h out ns' b1 b2 b3⟩
theorem vS:eA X (.builtin "sorted") (λxs H Q=>∃(a:Qe) (ns:List Int),xs=[.ref a]/\eO X.K H a (ns.map V.int)/\ns.length<64/\∀(l:Qe) (ns':List Int) (H':Hp),aG H H'->H l=none->H' l=some (.lst (ns'.map V.int))->ns'.Perm ns->ns'.Pairwise (·<=·)->Q (.ref l) H'):=by
 intro pins s σ H xs us Q I r h;obtain⟨a,ns,rfl,hs,h64,q⟩:=h;obtain⟨u,rfl,ru⟩:=rh r;cases ru;obtain⟨its,rv,p,hz⟩:=I.tuple hs;have hl:=rv.length;rw[Qz]at hl;refine yP p (qG rv) ↥0 λout ns' a1 a2 a3=>?_;obtain⟨e,he⟩:=sortedAll_at s.heap its out;have hf:H (↑s+1)=none:=I.hok.fresh (Nat.le_succ _);refine⟨.ref (↑s+1),bz H (↑s+1) (.lst (ns'.map V.int)),I.laid (t':=s.toks) (λ_ _=>sortedAll_old) (Nat.le_succ _) ⟨?_,out.toList,e,oD a1,?_⟩,rfl,q _ ns' _ (aG.new hf) hf aw a2 a3⟩;·rw[Qz,a2.length_eq];exact QP (Tx h64) ⋯
 ·simpa[seqObj]using he
end
section
variable{X:Cx}
end
theorem Bh{e:Qh}{es:List Qh}{env:Env}(h:TY e=false):Qq (e::es) env=(false,Qs e env)::Qq es env:=by cases e<;>first|rfl|cases h
theorem FP{X:Cx}{e:Qh}{es:List Qh}{te:TE}{t:TA}(ha:PE X e te)(hr:PA X es t)(h:TY e=false:=by rfl):PA X (e::es) (nJ te t):=bO ha hr (Bh h)
def Ae:List (Int×Int)->TA|[]=>D8|p::r=>nJ (K2 (nJ (tC (.int p.1)) (nJ (tC (.int p.2)) D8))) (Ae r)
@[irreducible]def L8(ps:List (Int×Int)):TA:=Ae ps
structure gf where
 one:Int
 other:Int
 top:Int
 bot:Int
 worth:Int
structure aZ where
 things:Int
 ties:List gf
 pat:List Int
 asks:Int
structure gf.Ok (n:Int) (t:gf):Prop where
 o0:0<=t.one
 o1:t.one<t.other
 o2:t.other<n
 c0:0<=t.top
 c1:t.top<=t.bot
 b0:1<=t.bot
 b1:t.bot<=100
 w0:0<=t.worth
 w1:t.worth<=1000
 cop:Qy t.top t.bot=1
structure aZ.Ok (w:aZ):Prop where
 t0:0<=w.things
 t1:w.things<=12
 ties:∀t∈w.ties,t.Ok w.things
 len:w.ties.length<=16
 pl:(w.pat.length:Int)=w.things
 pat:∀p∈w.pat,0<=p/\p<=20
 a0:0<=w.asks
 a1:w.asks<=40
def JM(K:⇑0)(H:Hp)(v:V)(t:gf):Prop:=∃p q,v=.ref p/\eO K H p [.int t.one,.int t.other,.ref q,.int t.worth]/\eO K H q [.int t.top,.int t.bot]
inductive ur (K:⇑0) (H:Hp):List V->List gf->Prop|nil:ur K H [] []|cons{v vs t ts}:JM K H v t->ur K H vs ts->ur K H (v::vs) (t::ts)
structure Mh (K:⇑0) (H:Hp) (v:V) (w:aZ):Prop where ex:∃a b c ts,v=.ref a/\eO K H a [.int w.things,.ref b,.ref c,.int w.asks]/\eO K H b ts/\ur K H ts w.ties/\eO K H c (w.pat.map V.int)
section
variable{K:⇑0}{H H':Hp}
end
theorem yy{t b:Int}(hb:0<b)(h0:0<=t)(h1:t<=b)(h2:b<=100):0<=(lowM t b).1/\(lowM t b).1<=(lowM t b).2/\1<=(lowM t b).2/\(lowM t b).2<=100:=by
 obtain⟨d,e1,e2,e3,e4,e5⟩:=jB (t:=t) (b:=b) ↥0;generalize (lowM t b).1=x at*;generalize (lowM t b).2=y at*;have dp:0<d:=by
  rcases Int.lt_or_gt_of_ne e2 with z|z;·exfalso;have:y*d<0:=Int.mul_neg_of_pos_of_neg e5 z;lia
  ·exact z
 have x0:0<=x:=by
  rcases Int.lt_or_le x 0 with z|z;·have:x*d<0:=Int.mul_neg_of_neg_of_pos z dp;lia
  ·exact z
 have xy:x<=y:=by
  rcases Int.lt_or_le y x with z|z;·have:y*d<x*d:=Int.mul_lt_mul_of_pos_right z dp;lia
  ·exact z
 have yb:y<=y*d:=by have:=Int.mul_le_mul_of_nonneg_left (show(1:Int)<=d by lia) (show 0<=y by lia);lia
 exact⟨x0,xy,by lia,by lia⟩
inductive pF{α β:Type}(R:α->β->Prop):List α->List β->Prop|nil:pF R [] []|cons{a b as bs}:R a b->pF R as bs->pF R (a::as) (b::bs)
namespace pF
variable{α β:Type}{R S:α->β->Prop}
theorem mono(h:∀a b,R a b->S a b):∀{as:List α}{bs:List β},pF R as bs->pF S as bs|_,_,.nil=>.nil|_,_,.cons x r=>.cons (h _ _ x) (mono h r)
theorem len:∀{as:List α}{bs:List β},pF R as bs->as.length=bs.length|_,_,.nil=>rfl|_,_,.cons _ r=>by simp[len r]
theorem snoc{a:α}{b:β}(h:R a b):∀{as:List α}{bs:List β},pF R as bs->pF R (as++[a]) (bs++[b])|_,_,.nil=>.cons h .nil|_,_,.cons x r=>.cons x (snoc h r)
theorem get:∀{as:List α}{bs:List β}{i:Nat}{b:β},pF R as bs->bs[i]?=some b->∃a,as[i]?=some a/\R a b|_,_,_,_,.nil,e=>by simp at e|_,_,0,_,.cons x _,e=>by simp at e;subst e;exact⟨_,rfl,x⟩|_,_,i+1,b,.cons _ r,e=>by obtain⟨v,h1,h2⟩:=get (i:=i) (b:=b) r (by simpa using e);exact⟨v,by simpa using h1,h2⟩
end pF
section
variable{K:⇑0}{a l:Qe}{xs:List V}{g:TG}{tc:TT}{te:TE}{Q:VK}{σ:L2.St}{H:Hp}{α β:Type}{us:List α}{cp:List (Nat×Str)}{nT:Nat}
def K_(bc:Hp->V->β->Prop)(SI:L2.St->Prop)(us:List α)(f:α->Option β)(H:Hp)(l:Qe)(i:Nat)(σ:L2.St)(H':Hp):Prop:=SI σ/\aG H H'/\∃vs,H' l=some (.lst vs)/\vs.length<=i/\pF (bc H') vs ((us.take i).filterMap f)
end
theorem pB:∀{a b:List Int},a.Perm b->a.Pairwise (·<=·)->b.Pairwise (·<=·)->a=b|[],b,p,_,_=>by have:=p.length_eq;exact(List.length_eq_zero_iff.mp this.symm).symm|x::a,b,p,h1,h2=>by cases b with|nil=>have:=p.length_eq;simp at this|cons y b=>
 have h1':=List.pairwise_cons.mp h1;have h2':=List.pairwise_cons.mp h2;have e:x=y:=by
  have m1:y∈x::a:=p.mem_iff.mpr ↥1;have m2:x∈y::b:=p.mem_iff.mp ↥1;rcases Qb m1 with z|z;·exact z.symm
  ·rcases Qb m2 with z2|z2;·exact z2
   ·have:=h1'.1 y z;have:=h2'.1 x z2;lia
 subst e;rw[pB ((List.perm_cons x).mp p) h1'.2 h2'.2]
def lq(ns:List Int):List Int:=ns.mergeSort
theorem DY{ns ns':List Int}(p:ns'.Perm ns)(h:ns'.Pairwise (·<=·)):ns'=lq ns:=by refine pB (p.trans (List.mergeSort_perm ns _).symm) h ?_;have:=List.pairwise_mergeSort (le:=λa b:Int=>decide (a<=b)) (λa b c h1 h2=>by simp at*;lia) (λa b=>by simp;lia) ns;exact this.imp λh=>by simpa using h
theorem mz(ns:List Int):(lq ns).Perm ns:=List.mergeSort_perm ns _
theorem ue{ns:List Int}{x:Int}:x∈lq ns↔x∈ns:=(mz ns).mem_iff
theorem ud(ns:List Int):(lq ns).length=ns.length:=(mz ns).length_eq
section
variable{X:Cx}{K:⇑0}{pos:Pos}
theorem wC(h:X.K=K):Em X (I_ K):=h▸zz
theorem Ax(h:X.K=K):eA X (.builtin "len") (λxs H Q=>∃p ys,xs=[.ref p]/\(jR K H p ys\/eO K H p ys)/\Q (.int ys.length) H):=h▸mJ
theorem FV{es:List Qh}{k:Nat}{t:Eo}{n:Nat}(hK:X.K=K)(hc:X.calm=true)(h:Bv X es t)(hn:(RW es X.env).length=n:=by rfl)(hst:(RW es X.env).findIdx? (·.1)=none:=by rfl):PG X (.Tuple es k pos) (J0 K n t):=hK▸IL hc h hn hst
theorem FY{tg l:Qh}{tl:TE}(h:X.K=K)(hl:PE X l tl):PI X tg l (HU K tl):=h▸Dd hl
theorem xf{tg l:Qh}{tl:TE}(h:X.K=K)(hl:PE X l tl):PI X tg l (Hc K tl):=h▸FX hl
end
instance:Inhabited gf:=⟨⟨0,1,1,1,0⟩⟩
def aZ.tie(W:aZ)(k:Int):gf:=W.ties.getD k.toNat default
def aZ.has(W:aZ)(k thing:Int):Bool:=(W.tie k).one==thing||(W.tie k).other==thing
def aZ.many(W:aZ)(asked:List Int)(thing:Int):Int:=((asked.filter λk=>W.has k thing).length:Nat)
def aZ.bears(W:aZ)(asked taken:List Int)(thing:Int):Bool:=!taken.contains thing&&decide (W.many asked thing<W.pat.getD thing.toNat 0)
def aZ.may(W:aZ)(asked taken:List Int)(k:Int):Bool:=!(asked.contains k||decide (W.asks<=(asked.length:Int)))&&(W.bears asked taken (W.tie k).one&&W.bears asked taken (W.tie k).other)
def aZ.askd(asked:List Int)(k:Int):List Int:=lq (asked++[k])
def aZ.took(W:aZ)(taken:List Int)(k:Int)(truth:Bool):List Int:=if truth then lq (taken++[(W.tie k).one,(W.tie k).other]) else taken
def aZ.rng(W:aZ):List Int:=(RV W.ties.length).map Int.ofNat
def aZ.can(W:aZ)(asked taken:List Int):List Int:=W.rng.filter λk=>W.may asked taken k
def lR(W:aZ)(k:Int):Prop:=0<=k/\k<(W.ties.length:Int)
theorem lR.get{W:aZ}{k:Int}(h:lR W k):W.ties[k.toNat]?=some (W.tie k):=by
 have hk:k.toNat<W.ties.length:=by have:=h.1;have:=h.2;lia
 unfold aZ.tie;rw[Tf,QR hk];rfl
theorem lR.ok{W:aZ}{k:Int}(h:lR W k)(o:W.Ok):(W.tie k).Ok W.things:=o.ties _ (Qc h.get)
theorem Fk{W:aZ}{k:Int}:k∈W.rng↔lR W k:=by
 unfold aZ.rng lR;rw[Tu];constructor;·rintro⟨n,hn,rfl⟩;have:=Uj.mp hn;exact⟨Int.natCast_nonneg n,by simp;lia⟩
 ·rintro⟨h0,h1⟩;exact⟨k.toNat,Uj.mpr ↥0,by simp;lia⟩
def HC(K:⇑0)(H:Hp)(v:V)(asked taken:List Int):Prop:=∃a b c,v=.ref a/\eO K H a [.ref b,.ref c]/\eO K H b (asked.map V.int)/\eO K H c (taken.map V.int)
theorem HC.ts{K:⇑0}{H H':Hp}(s:oE H H'){v:V}{asked taken:List Int}(h:HC K H v asked taken):HC K H' v asked taken:=by obtain⟨a,b,c,e,h1,h2,h3⟩:=h;exact⟨a,b,c,e,s.tup h1,s.tup h2,s.tup h3⟩
section
variable{K:⇑0}{σ:L2.St}{H:Hp}{Q:VK}{i j:Nat}{vW:V}{W:aZ}{k:Int}
end
def small(k:Int):Prop:=-1000000<=k/\k<=1000000
def Dk(n dep:Nat)(d:Qg):Prop:=d.showable=true/\qV d=true/\L2.cnt d<=n/\d.depth<=dep
theorem Dk.mono{n m dep e:Nat}{d:Qg}(h:Dk n dep d)(h1:n<=m)(h2:dep<=e):Dk m e d:=⟨h.1,h.2.1,QP h.2.2.1 h1,QP h.2.2.2 h2⟩
theorem Dk.int{k:Int}(h:small k):Dk 1 2 (.int k):=by refine⟨?_,rfl,RJ _,by simp[Ro]⟩;show decide (k.natAbs.log2<1920)=true;rw[decide_eq_true_eq];exact Uw ((show Bt 64 k by have:=h.1;have:=h.2;unfold Bt;lia).log ⋯) ⋯
theorem Dk.bool(b:Bool):Dk 1 2 (.bool b):=⟨rfl,rfl,RJ _,by simp[Ro]⟩
theorem Dk.none:Dk 1 2 .none:=⟨rfl,rfl,RJ _,by simp[Ro]⟩
theorem Dk.all{n dep:Nat}:∀{ds:List Qg},(∀d∈ds,Dk n dep d)->TX ds=true/\jF ds=true/\mh ds<=ds.length*n/\RT ds<=dep
 |[],_=>⟨rfl,rfl,by simp[mh],by simp[RT]⟩|d::r,h=>by
  obtain⟨a1,a2,a3,a4⟩:=h d ↥1;obtain⟨b1,b2,b3,b4⟩:=Dk.all (ds:=r) λx hx=>h x (by simp[hx]);refine⟨?_,?_,?_,?_⟩;·simp only[TX,a1,b1,TZ]
  ·simp only[jF,a2,b2,TZ]
  ·simp only[mh,Rk,Nat.succ_mul];lia
  ·simp only[RT];lia
theorem Dk.tup{n dep m:Nat}{ds:List Qg}(h:∀d∈ds,Dk n dep d)(hl:ds.length<=m):Dk (1+m*n) (dep+2) (.tuple ds):=by
 obtain⟨b1,b2,b3,b4⟩:=Dk.all h;refine⟨b1,b2,?_,?_⟩;·simp only[L2.cnt];have:=Nat.mul_le_mul_right n hl;lia
 ·simp only[Ro];lia
theorem Dk.ok{n dep:Nat}{d:Qg}(h:Dk n dep d)(h1:n<=8000)(h2:dep<=60):d.showable=true/\d.depth<=60/\d.shown.length<=Qv:=by have:=ua h.2.1 h.1;have sl:Qv=16777216:=Rm;have:=h.2.2.1;exact⟨h.1,QP h.2.2.2 h2,by lia⟩
theorem Dk.ints{ns:List Int}{m:Nat}(hl:ns.length<=m)(h:∀r∈ns,small r):Dk (1+m) 4 (.tuple (ns.map .int)):=by have:=Dk.tup (n:=1) (dep:=2) (m:=m) (ds:=ns.map PyData.int) (λd hd=>by obtain⟨x,hx,rfl⟩:=Qa hd;exact Dk.int (h x hx)) (by rw[Qz];exact hl);simpa using this
section
variable{K:⇑0}{H:Hp}
def aI(t:gf):Qg:=.tuple [.int t.one,.int t.other,.tuple [.int t.top,.int t.bot],.int t.worth]
def ay(W:aZ):Qg:=.tuple [.int W.things,.tuple (W.ties.map aI),.tuple (W.pat.map .int),.int W.asks]
def oJ(asked taken:List Int):Qg:=.tuple [.tuple (asked.map .int),.tuple (taken.map .int)]
end
section
variable{X:Cx}
end
section
variable{prog:Qn}{w:Qk}{A:Qr}{E:Qd->Qf->Prop}{s:Qf}
theorem Ed{it t:Qe}{i:Nat}{ys}{x:Qd}{Q:Qd->Qf->Prop}(hi:s.heap.IsTupleIter it t i)(ht:s.heap.IsTuple t ys)(hx:ys[i]?=some x)(q:∀g,g.IsTupleIter it t (i+1)->SZ it s.heap g->Q x {s with heap:=g}):Qj (Ql prog w) A (SU (.ref it)) Q E s:=by obtain⟨o,ho,hc,hd⟩:=id hi;obtain⟨p,hp,_,n,hpd⟩:=ht;unfold SU;refine Qi (TB (name:=Rj "__next__") hi.typeIs UY (Td UY hi.typeIs F.entry_tuple_iterator_next ?_ (F.args_tuple_iterator_next_1 _)));show Qj _ _ (field (.ref it) 0>>=_) _ _ s;refine Qi (RO ho hd (x:=.ref t) rfl ?_);show Qj _ _ (if (Value.ref t==Value.none)=true then _ else _) _ _ s;rw[if_neg (show¬((Value.ref t==Value.none)=true) from RM)];show Qj _ _ (field (.ref it) 1>>=_) _ _ s;refine Qi (RO ho hd (x:=.int i 0) rfl ?_);show Qj _ _ (seqItems? (.ref t)>>=_) _ _ s;refine Qi (Tr hp hpd ?_);simp only[Sg,hx];refine Qi (wpAny_setField ho hd ↥1 (Qp ⟨x,rfl,Qp (q _ ?_ (Heap.SameBut.update ..))⟩));refine⟨_,Heap.get?_update_self _ ho (Obj.isFreed_of_fields (Obj.data_mapFields hd _)),(Obj.cls_mapFields ..).trans hc,?_⟩;rw[Obj.data_mapFields hd];simp[Se]
theorem Ec{it t:Qe}{i:Nat}{ys}{Q:Qd->Qf->Prop}(hh:A.handled=none)(hi:s.heap.IsTupleIter it t i)(ht:s.heap.IsTuple t ys)(hx:ys[i]?=none)(q:∀g e,Heap.ExtBut it s.heap g->(∃o,g.get? e=some o/\o.cls=.type "StopIteration")->E (.ref e) {s with heap:=g}):Qj (Ql prog w) A (SU (.ref it)) Q E s:=by
 obtain⟨o,ho,hc,hd⟩:=id hi;obtain⟨p,hp,_,n,hpd⟩:=ht;unfold SU;refine Qi (TB (name:=Rj "__next__") hi.typeIs UY (Td UY hi.typeIs F.entry_tuple_iterator_next ?_ (F.args_tuple_iterator_next_1 _)));show Qj _ _ (field (.ref it) 0>>=_) _ _ s;refine Qi (RO ho hd (x:=.ref t) rfl ?_);show Qj _ _ (if (Value.ref t==Value.none)=true then _ else _) _ _ s;rw[if_neg (show¬((Value.ref t==Value.none)=true) from RM)];show Qj _ _ (field (.ref it) 1>>=_) _ _ s;refine Qi (RO ho hd (x:=.int i 0) rfl ?_);show Qj _ _ (seqItems? (.ref t)>>=_) _ _ s;refine Qi (Tr hp hpd ?_);simp only[Sg,hx];refine Qi (Ta (Qi (wpAny_setField ho hd ↥1 ?_)));show Qj _ _ (newExc (.type "StopIteration") []>>=_) _ _ _;refine Qi ?_;simp only[newExc,newTuple];refine Qi (Sd ?_ (by size_fits));refine Qi (m:=firstArgMember _ _) (wpAny_of_eq (a:=Value.none) (by first|rfl|(simp only[firstArgMember];rfl)) ?_);refine Sd ?_ (by size_fits);simp only[raiseNew];refine Qi (wpAny_handled ?_);first|rw[show A.in1.handled=none from hh]|rw[hh]
 refine Qi (Qp (wpAny_throw ?_));exact q _ _ (((Heap.SameBut.update ..).extBut.push _).push _) ⟨_,Rf _ rfl,rfl⟩
end
structure Sc (prog:Qn) (w:Qk) (it l:Qe) (St:Nat->Qm->Prop) (Sq:Qm->Array Qd->Prop):Prop where
 stay:∀{k h h'},St k h->(∀o,h.get? it=some o->h'.get? it=some o)->St k h'
 live:∀{k h},St k h->∃o,h.get? it=some o/\∀v,o.data≠.cell v
 row:∀{h h' xs},Sq h xs->(∀o,h.get? l=some o->h'.get? l=some o)->Sq h' xs
 next:∀{A:Qr}{s:Qf}{E:Qd->Qf->Prop}{Q:Qd->Qf->Prop}{k:Nat}{xs:Array Qd}{x:Qd},St k s.heap->Sq s.heap xs->xs[k]?=some x->(∀g,St (k+1) g->SZ it s.heap g->Q x {s with heap:=g})->Qj (Ql prog w) A (SU (.ref it)) Q E s
 last:∀{A:Qr}{s:Qf}{E:Qd->Qf->Prop}{Q:Qd->Qf->Prop}{k:Nat}{xs:Array Qd},A.handled=none->St k s.heap->Sq s.heap xs->xs[k]?=none->(∀g e,Heap.ExtBut it s.heap g->(∃o,g.get? e=some o/\o.cls=.type "StopIteration")->E (.ref e) {s with heap:=g})->Qj (Ql prog w) A (SU (.ref it)) Q E s
theorem Jk{prog:Qn}{w:Qk}(it l:Qe):Sc prog w it l (λk h=>h.IsTupleIter it l k) (λh xs=>h.IsTuple l xs) where
 stay:=λst k=>st.at λo e=>k o e;live:=λst=>by obtain⟨o,e,c,d⟩:=st;exact⟨o,e,λv z=>by rw[d]at z;cases z⟩
 row:=λq k=>by obtain⟨o,e,r⟩:=q;exact⟨o,k o e,r⟩
 next:=λst sq hx q=>Ed st sq hx q;last:=λhh st sq hx q=>Ec hh st sq hx q
theorem Gv{prog:Qn}{w:Qk}(it l:Qe):Sc prog w it l (λk h=>h.IsListIter it l k) (λh xs=>h.IsList l xs) where
 stay:=λst k=>st.at λo e=>k o e;live:=λst=>by obtain⟨o,e,c,d⟩:=st;exact⟨o,e,λv z=>by rw[d]at z;cases z⟩
 row:=λq k=>by obtain⟨o,e,r⟩:=q;exact⟨o,k o e,r⟩
 next:=λst sq hx q=>wpAny_nextOf_list_item st sq hx q;last:=λhh st sq hx q=>wpAny_nextOf_list_end hh st sq hx q
structure sR (z TI TO i1 i2 l1 l2:Qe):Prop where
 a1:TO≠z
 a2:i1≠z
 a3:i2≠z
 a4:TO≠i1
 a5:TO≠i2
 a6:i1≠i2
 b1:l1≠z
 b2:l1≠TO
 b3:l1≠i1
 b4:l1≠i2
 c1:l2≠z
 c2:l2≠TO
 c3:l2≠i1
 c4:l2≠i2
section
variable{prog:Qn}{w:Qk}{A:Qr}{E:Qd->Qf->Prop}{s:Qf}{z TI TO i1 i2 l1 l2:Qe}{k:Nat}{xs ys:Array Qd}{a b:Qd}{S1 S2:Nat->Qm->Prop}{R1 R2:Qm->Array Qd->Prop}
theorem JE{x y:Qd}{Q:Qd->Qf->Prop}(P1:Sc prog w i1 l1 S1 R1)(P2:Sc prog w i2 l2 S2 R2)(D:sR z TI TO i1 i2 l1 l2)(hz:IsZip s.heap z TI TO .none)(hI:QZ s.heap TI (.ref i1) (.ref i2))(hO:QZ s.heap TO a b)(u1:S1 k s.heap)(u2:S2 k s.heap)(r1:R1 s.heap xs)(r2:R2 s.heap ys)(hx:xs[k]?=some x)(hy:ys[k]?=some y)(q:∀g,IsZip g z TI TO (Se ↑s)->QZ g TO x y->S1 (k+1) g->S2 (k+1) g->QZ g ↑s x y->g.objs.size=↑s+1->(∀c o,c≠z->c≠TO->c≠i1->c≠i2->s.heap.get? c=some o->g.get? c=some o)->Q (.ref ↑s) {s with heap:=g}):Qj (Ql prog w) A (Sk.«zip.__next__» ⟨[.ref z],[]⟩) (λf s'=>∃v,f=.done (.ret v)/\Q v s') E s:=by
 show Qj _ _ (field (.ref z) 2>>=_) _ _ _;refine Qi (RO hz rfl (x:=.bool false) rfl ?_);show Qj _ _ (field (.ref z) 3>>=_) _ _ _;refine Qi (RO hz rfl (x:=.ref TI) rfl ?_);refine Qi (Tr hI rfl ?_);show Qj _ _ (UZ (.ref z)>>=_) _ _ _;refine Qi ?_;unfold UZ;refine Qi (RO hz rfl (x:=.none) rfl (Qp ?_));simp only[if_true];refine Qi (Ta ?_);refine Qi (RO hz rfl (x:=.ref TO) rfl ?_);refine Qi (Ua hz ↥1 λg1 z1 e1=>?_);replace z1:IsZip g1 z TI TO .ellipsis:=z1;refine Qi ?_;simp only[List.zipIdx_cons,List.zipIdx_nil,List.forIn_cons,List.forIn_nil];refine Qi (Qi (wpAny_onRaise ?_));show Qj _ _ (SU (.ref i1)>>=_) _ _ _;refine Qi (P1.next (P1.stay u1 λo e=>e1.extBut _ _ D.a2 e) (P1.row r1 λo e=>e1.extBut _ _ D.b1 e) hx λg2 v1 e2=>Qp ?_);have O2:QZ g2 TO a b:=e2.extBut _ _ D.a4 (e1.extBut _ _ D.a1 hO);refine Qi (Tr O2 rfl ?_);refine Qi (VC O2 λg3 O3 e3=>?_);replace O3:QZ g3 TO x b:=O3;refine Qi (wpAny_letGo (Qp ?_));refine Qi (Qi (wpAny_onRaise ?_));show Qj _ _ (SU (.ref i2)>>=_) _ _ _;have up3:∀c o,c≠z->c≠i1->c≠TO->s.heap.get? c=some o->g3.get? c=some o:=λc o n1 n2 n3 e=>e3.extBut _ _ n3 (e2.extBut _ _ n2 (e1.extBut _ _ n1 e));refine Qi (P2.next (P2.stay u2 λo e=>up3 _ _ D.a3 D.a6.symm D.a5.symm e) (P2.row r2 λo e=>up3 _ _ D.c1 D.c3 D.c2 e) hy λg4 v2 e4=>Qp ?_);have O4:QZ g4 TO x b:=e4.extBut _ _ D.a5 O3;refine Qi (Tr O4 rfl ?_);refine Qi (VC O4 λg5 O5 e5=>?_);replace O5:QZ g5 TO x y:=O5;refine Qi (wpAny_letGo (Qp (Qp ?_)));refine Qi (Tr O5 rfl ?_);refine Qi (wpAny_newTuple ?_);have sz:g5.objs.size=↑s:=by rw[e5.1,e4.1,e3.1,e2.1,e1.1]
 have z5:IsZip g5 z TI TO .ellipsis:=e5.extBut _ _ D.a1.symm (e4.extBut _ _ D.a3.symm (e3.extBut _ _ D.a1.symm (e2.extBut _ _ D.a2.symm z1)));have k5:∀c o,c≠z->c≠TO->c≠i1->c≠i2->s.heap.get? c=some o->g5.get? c=some o:=λc o n1 n2 n3 n4 e=>e5.extBut _ _ n2 (e4.extBut _ _ n4 (up3 c o n1 n3 n2 e));have w1:S1 (k+1) g5:=P1.stay v1 λo e=>e5.extBut _ _ D.a4.symm (e4.extBut _ _ D.a6 (e3.extBut _ _ D.a4.symm e));have w2:S2 (k+1) g5:=P2.stay v2 λo e=>e5.extBut _ _ D.a5.symm e;have lz:z<g5.objs.size:=QA z5;show Qj _ _ (VU (.ref z) (.ref g5.objs.size)>>=_) _ _ _;refine Qi ?_;unfold VU;have z6:IsZip (g5.push {cls:=.type "tuple",data:=.seq #[x,y]}) z TI TO .ellipsis:=QG _ z5;refine Qi (Ua z6 ↥1 λg7 z7 e7=>?_);replace z7:IsZip g7 z TI TO (Se g5.objs.size):=z7;refine Ua z7 ↥1 λg8 z8 e8=>?_;replace z8:IsZip g8 z TI TO (Se g5.objs.size):=z8;have up:∀c o,c≠z->g5.get? c=some o->g8.get? c=some o:=λc o n e=>e8.extBut _ _ n (e7.extBut _ _ n (QG _ e));have T8:QZ g8 g5.objs.size x y:=e8.extBut _ _ (Nat.ne_of_gt lz) (e7.extBut _ _ (Nat.ne_of_gt lz) (Rf _ rfl));have n8:g8.objs.size=g5.objs.size+1:=by rw[e8.1,e7.1,Sl]
 rw[sz]at z8 T8 n8;refine Qp ⟨_,rfl,?_⟩;show Q (.ref g5.objs.size) _;rw[sz];exact q g8 z8 (up _ _ D.a1 O5) (P1.stay w1 λo e=>up _ o D.a2 e) (P2.stay w2 λo e=>up _ o D.a3 e) T8 n8 λc o n1 n2 n3 n4 e=>up c o n1 (k5 c o n1 n2 n3 n4 e)
theorem GV{Q:Fin->Qf->Prop}(hh:A.handled=none)(P1:Sc prog w i1 l1 S1 R1)(P2:Sc prog w i2 l2 S2 R2)(D:sR z TI TO i1 i2 l1 l2)(hz:IsZip s.heap z TI TO .none)(hI:QZ s.heap TI (.ref i1) (.ref i2))(hO:QZ s.heap TO a b)(u1:S1 k s.heap)(u2:S2 k s.heap)(r1:R1 s.heap xs)(r2:R2 s.heap ys)(hn:xs[k]?=none\/ys[k]?=none)(q:∀g e,(∀c o,c≠z->c≠TO->c≠i1->c≠i2->s.heap.get? c=some o->g.get? c=some o)->(∃o,g.get? e=some o/\o.cls=.type "StopIteration")->E (.ref e) {s with heap:=g}):Qj (Ql prog w) A (Sk.«zip.__next__» ⟨[.ref z],[]⟩) Q E s:=by
 show Qj _ _ (field (.ref z) 2>>=_) _ _ _;refine Qi (RO hz rfl (x:=.bool false) rfl ?_);show Qj _ _ (field (.ref z) 3>>=_) _ _ _;refine Qi (RO hz rfl (x:=.ref TI) rfl ?_);refine Qi (Tr hI rfl ?_);show Qj _ _ (UZ (.ref z)>>=_) _ _ _;refine Qi ?_;unfold UZ;refine Qi (RO hz rfl (x:=.none) rfl (Qp ?_));simp only[if_true];refine Qi (Ta ?_);refine Qi (RO hz rfl (x:=.ref TO) rfl ?_);refine Qi (Ua hz ↥1 λg1 z1 e1=>?_);replace z1:IsZip g1 z TI TO .ellipsis:=z1;refine Qi ?_;simp only[List.zipIdx_cons,List.zipIdx_nil,List.forIn_cons,List.forIn_nil]
 refine Qi (Qi (wpAny_onRaise ?_));show Qj _ _ (SU (.ref i1)>>=_) _ _ _;cases hx:xs[k]? with|none=>
  refine Qi (P1.last hh (P1.stay u1 λo e=>e1.extBut _ _ D.a2 e) (P1.row r1 λo e=>e1.extBut _ _ D.b1 e) hx λg2 e e2 he=>?_);obtain⟨oe,h1,h2⟩:=he;have z2:IsZip g2 z TI TO .ellipsis:=e2 _ _ D.a2.symm z1;have nz:e≠z:=λx=>by subst x;rw[z2]at h1;cases h1;simp at h2
  refine Ua z2 ↥1 λg3 _ e3=>q g3 e (λc o n1 _ n3 _ x=>e3.extBut _ _ n1 (e2 _ _ n3 (e1.extBut _ _ n1 x))) ⟨oe,e3.extBut _ _ nz h1,h2⟩|some x=>
  have hy:ys[k]?=none:=by
   rcases hn with h|h;·rw[hx]at h;cases h
   ·exact h
  refine Qi (P1.next (P1.stay u1 λo e=>e1.extBut _ _ D.a2 e) (P1.row r1 λo e=>e1.extBut _ _ D.b1 e) hx λg2 v1 e2=>Qp ?_);have O2:QZ g2 TO a b:=e2.extBut _ _ D.a4 (e1.extBut _ _ D.a1 hO);refine Qi (Tr O2 rfl ?_);refine Qi (VC O2 λg3 O3 e3=>?_);refine Qi (wpAny_letGo (Qp ?_));refine Qi (Qi (wpAny_onRaise ?_));show Qj _ _ (SU (.ref i2)>>=_) _ _ _;have up3:∀c o,c≠z->c≠i1->c≠TO->s.heap.get? c=some o->g3.get? c=some o:=λc o n1 n2 n3 e=>e3.extBut _ _ n3 (e2.extBut _ _ n2 (e1.extBut _ _ n1 e));refine Qi (P2.last hh (P2.stay u2 λo e=>up3 _ _ D.a3 D.a6.symm D.a5.symm e) (P2.row r2 λo e=>up3 _ _ D.c1 D.c3 D.c2 e) hy λg4 e e4 he=>?_);obtain⟨oe,h1,h2⟩:=he;have z4:IsZip g4 z TI TO .ellipsis:=e4 _ _ D.a3.symm (e3.extBut _ _ D.a1.symm (e2.extBut _ _ D.a2.symm z1));have nz:e≠z:=λx=>by subst x;rw[z4]at h1;cases h1;simp at h2
  refine Ua z4 ↥1 λg5 _ e5=>q g5 e (λc o n1 n2 n3 n4 x=>e5.extBut _ _ n1 (e4 _ _ n4 (up3 c o n1 n3 n2 x))) ⟨oe,e5.extBut _ _ nz h1,h2⟩
theorem Ek{x y:Qd}{Q:Option Qd->Qf->Prop}(P1:Sc prog w i1 l1 S1 R1)(P2:Sc prog w i2 l2 S2 R2)(D:sR z TI TO i1 i2 l1 l2)(hz:IsZip s.heap z TI TO .none)(hI:QZ s.heap TI (.ref i1) (.ref i2))(hO:QZ s.heap TO a b)(u1:S1 k s.heap)(u2:S2 k s.heap)(r1:R1 s.heap xs)(r2:R2 s.heap ys)(hx:xs[k]?=some x)(hy:ys[k]?=some y)(q:∀g,IsZip g z TI TO (Se ↑s)->QZ g TO x y->S1 (k+1) g->S2 (k+1) g->QZ g ↑s x y->g.objs.size=↑s+1->(∀c o,c≠z->c≠TO->c≠i1->c≠i2->s.heap.get? c=some o->g.get? c=some o)->Q (some (.ref ↑s)) {s with heap:=g}):Qj (Ql prog w) A (RE (.ref z)) Q E s:=by have hT:s.TypeIs (.ref z) "zip":=⟨_,hz,rfl⟩;unfold RE;refine Qi (wpAny_attempt (TB (name:=Rj "__next__") hT Va (Td Va hT F.entry_zip_next ?_ (F.args_zip_next_1 _))));exact JE P1 P2 D hz hI hO u1 u2 r1 r2 hx hy λg b1 b2 b3 b4 b5 b6 b7=>Qp (q g b1 b2 b3 b4 b5 b6 b7)
theorem El{Q:Option Qd->Qf->Prop}(hh:A.handled=none)(P1:Sc prog w i1 l1 S1 R1)(P2:Sc prog w i2 l2 S2 R2)(D:sR z TI TO i1 i2 l1 l2)(hz:IsZip s.heap z TI TO .none)(hI:QZ s.heap TI (.ref i1) (.ref i2))(hO:QZ s.heap TO a b)(u1:S1 k s.heap)(u2:S2 k s.heap)(r1:R1 s.heap xs)(r2:R2 s.heap ys)(hn:xs[k]?=none\/ys[k]?=none)(q:∀g,(∀c o,c≠z->c≠TO->c≠i1->c≠i2->s.heap.get? c=some o->g.get? c=some o)->Q none {s with heap:=g}):Qj (Ql prog w) A (RE (.ref z)) Q E s:=by have hT:s.TypeIs (.ref z) "zip":=⟨_,hz,rfl⟩;unfold RE;refine Qi (wpAny_attempt (TB (name:=Rj "__next__") hT Va (Td Va hT F.entry_zip_next (GV hh P1 P2 D hz hI hO u1 u2 r1 r2 hn λg e hk he=>?_) (F.args_zip_next_1 _))));obtain⟨o,ho,hc⟩:=he;refine Qi (wpAny_isInstance (T:="StopIteration") (b:=true) ⟨o,ho,hc⟩ isSubtype_stop ?_);exact Qp (q _ hk)
end
section
variable{X:Cx}{pins:List (Qe×Obj)}{σ:L2.St}{H:Hp}{s:Qf}{h':Qm}
theorem aJ.turnedL{t':Nat}{fp:List Qe}(I:aJ X pins σ H s)(hf:∀b∈fp,gR X pins H b)(k:∀b o,b∉fp->s.heap.get? b=some o->h'.get? b=some o):aJ X pins σ H {s with heap:=h',toks:=t'}:=by
 have hL:X.env.locals∉fp:=λz=>(hf _ z).2.1 rfl;have nit:∀b u,H b=some u->b∉fp:=λb u e z=>by have:=(hf b z).1;rw[this]at e;cases e
 refine I.step (g':=s.gens) (d':=s.drawn) (ch:=fp) (λb hb=>?_) (λb o _ _ hc e _=>k b o hc e) (λb o _ _ hc e _=>⟨o.slots,k b o hc e⟩) (λ_ _ _ _ n=>n) (λb o hc e=>⟨o,k b o hc e⟩) (λ_ _ e=>e) (λ_ _ _ e=>e) (λb ps e=>⟨#[],by rw[e];simp⟩) (λm hm=>?_) (λb u e=>?_) I.bare;·obtain⟨f0,f1,f2,f3,f4,f5⟩:=hf b hb;exact⟨f3,f1,f4,f5⟩
 ·obtain⟨o,es,ep,ho,r⟩:=hm;exact⟨o,es,ep,k _ o hL ho,r⟩
 ·refine(I.hok b u e).stay (λc v hc q=>k c v ?_ q) (λ_ q=>q) λ_ _ q=>q;rcases hc with z|z;·rw[z];exact nit b u e
  ·exact nit c _ z
theorem BE(I:aJ X pins σ H s){b l:Qe}{xs:List V}(f:gR X pins H b)(q:eO X.K H l xs):l≠b:=by
 intro z;subst z;rcases q with (q|⟨o,q⟩)|⟨o,its,n,hk,_⟩;·rw[f.1]at q;cases q
 ·rw[f.1]at q;cases q
 ·have hb:X.base.get? l=some o:=I.ok.mod.kin l o hk;rcases f.2.2.2.1 with z|z;·exact I.ok.noex l o hb z
  ·exact absurd (Rr (QA (I.ok.bs l o hb).1) z) (SK _)
end
section
variable{prog:Qn}{w:Qk}{A:Qr}{E:Qd->Qf->Prop}{s:Qf}
end
theorem BQ:Sb "zip"=some (.type "zip"):=by decide+kernel
def Hw(h:Qm)(z TI TO:Qe)(a:Qe)(f:Bool):Prop:=h.get? z=some {cls:=.type "zip",data:=.fields #[Se a,.bool f,.bool false,.ref TI,.ref TO]}
section
variable{prog:Qn}{w:Qk}{A:Qr}{E:Qd->Qf->Prop}{s:Qf}{z TI TO i1 i2 l1 l2:Qe}{k:Nat}{xs ys:Array Qd}{a:Qe}{f:Bool}{S1 S2:Nat->Qm->Prop}{R1 R2:Qm->Array Qd->Prop}
end
structure ZL (S z TI TO i1 i2 l1 l2:Qe) (xs ys:Array Qd) (i:Nat) (h:Qm):Prop where
 pr:QZ h TI (.ref i1) (.ref i2)t1:h.IsTupleIter i1 l1 i
 t2:h.IsTupleIter i2 l2 i
 s1:h.IsTuple l1 xs
 s2:h.IsTuple l2 ys
 ot:∃o,h.get? TO=some o
 zs:(IsZip h z TI TO .none/\∃a b,QZ h TO a b)\/∃a f oa,Hw h z TI TO a f/\h.get? a=some oa/\a≠S/\a≠z/\a≠i1/\a≠i2
structure Mb (S z TO i1 i2:Qe) (xs ys:Array Qd) (h:Qm) (acc:Array Qd) (i:Nat):Prop where
 sz:acc.size=i
 at_:∀(j:Nat) (v:Qd),acc[j]?=some v->∃(p:Qe) (x y:Qd),v=.ref p/\xs[j]?=some x/\ys[j]?=some y/\QZ h p x y/\p≠S/\p≠z/\p≠TO/\p≠i1/\p≠i2
 lo:∀(j:Nat) (p:Qe),acc[j]?=some (.ref p)->S<p
 MH:∀(i j:Nat) (p q:Qe),i<j->acc[i]?=some (.ref p)->acc[j]?=some (.ref q)->p<q
section
variable{prog:Qn}{w:Qk}{A:Qr}{R:Result->Qf->Prop}{S z TI TO i1 i2 l1 l2:Qe}{xs ys:Array Qd}{n:Nat}
end
section
variable{X:Cx}{pins:List (Qe×Obj)}{σ:L2.St}{H H':Hp}{s:Qf}{h':Qm}
end
section
variable{prog:Qn}{w:Qk}{A:Qr}{E:Qd->Qf->Prop}{s:Qf}{e it l:Qe}{k:Nat}{xs:Array Qd}{S:Nat->Qm->Prop}{R:Qm->Array Qd->Prop}
theorem DU(P1:Sc prog w it l S R)(hh:A.handled=none)(hne:l≠it)(xs:Array Qd):Draws prog w A it [it,l] xs.size (λi v=>xs[i]?=some v) (λi h=>S i h/\R h xs) where live:=λ_ _ st=>let⟨o,ho,_⟩:=P1.live st.1;⟨o,ho⟩;frame:=λ_ _ _ st hk=>⟨P1.stay st.1 λo e=>hk it ↥1 o e,P1.row st.2 λo e=>hk l ↥1 o e⟩;item:=λi s Q E hi st hQ=>P1.next st.1 st.2 (x:=xs[i]) (by simp[hi]) λg h1 h2=>hQ _ g s.toks (by simp[hi]) ⟨h1,P1.row st.2 λo e=>h2.extBut _ _ hne e⟩ h2;done:=λs Q E st hE=>P1.last hh st.1 st.2 ↥1 hE
theorem AF{i:Int}{old:Qd}{Q:Option Qd->Qf->Prop}(P1:Sc prog w it l S R)(hh:A.handled=none)(he:IsEnum s.heap e it i old)(st:S k s.heap)(sq:R s.heap xs)(hx:xs[k]?=none)(q:∀g,Heap.ExtBut it s.heap g->Q none {s with heap:=g}):Qj (Ql prog w) A (RE (.ref e)) Q E s:=by have hT:s.TypeIs (.ref e) "enumerate":=⟨_,he,rfl⟩;unfold RE;refine Qi (wpAny_attempt (TB (name:=Rj "__next__") hT VD (Td VD hT F.entry_enumerate_next ?_ (F.args_enumerate_next_1 _))));show Qj _ _ (field (.ref e) 2>>=_) _ _ _;refine Qi (RO he rfl (x:=.ref it) rfl ?_);refine Qi (P1.last hh st sq hx λg x hk hx'=>?_);obtain⟨o,ho,hc⟩:=hx';refine Qi (wpAny_isInstance (T:="StopIteration") (b:=true) ⟨o,ho,hc⟩ isSubtype_stop ?_);exact Qp (q _ hk)
theorem tG{i:Int}{old:Qd}{Q:Qd->Qf->Prop}(he:IsEnum s.heap e it i old)(h:Q (.ref e) s):Qj (Ql prog w) A (pyIter (.ref e)) Q E s:=by have hT:s.TypeIs (.ref e) "enumerate":=⟨_,he,rfl⟩;refine wpAny_pyIter_slot hT F.slot_enumerate_iter (Td F.slot_enumerate_iter hT F.entry_enumerate_iter ?_ (F.args_enumerate_iter_1 _));show Qj _ _ (ret (.ref e)) _ _ s;exact Qp ⟨_,rfl,"enumerate",_,hT,VD.lookup,h⟩
end
section
variable{X:Cx}{pins:List (Qe×Obj)}{σ:L2.St}{H:Hp}{s:Qf}
theorem As(I:aJ X pins σ H s){b l:Qe}{xs:List V}(f:gR X pins H b)(q:jR X.K H l xs):l≠b:=by
 intro z;subst z;rcases q with (q|⟨o,q⟩)|⟨o,its,n,hk,_⟩;·rw[f.1]at q;cases q
 ·rw[f.1]at q;cases q
 ·have hb:X.base.get? l=some o:=I.ok.mod.kin l o hk;rcases f.2.2.2.1 with z|z;·exact I.ok.noex l o hb z
  ·exact absurd (Rr (QA (I.ok.bs l o hb).1) z) (SK _)
end
def EK(e it l:Qe)(i:Nat)(h:Qm):Prop:=(∃old,IsEnum h e it i old)/\h.IsTupleIter it l i
theorem An:∀(us:List Qd) (f:Nat->Int),(∀(j:Nat) (v:Qd),us[j]?=some v->∃t,v=Value.int (f j) t)->a' ((RV us.length).map λj=>V.int (f j)) us|[],_,_=>.nil|u::us,f,h=>by rw[Rk,List.range_succ_eq_map,QB,QE];refine .cons (h 0 u rfl) (An us (λj=>f (j+1)) λj v e=>h (j+1) v (by simpa using e))
def pL(n:Nat):List Int:=(RV n).map Int.ofNat
theorem nh(n:Nat):(pL n).length=n:=by simp[pL]
section
variable{X:Cx}{a:Qh}{ta:TA}{p p2 pos pos2:Pos}
end
theorem AY:fillsNumberSlot (.type "tuple") "mul"=pure false:=PySem.fillsNumberSlot_seq (id:="tuple.__mul__") (r:=some (.builtin "tuple.__rmul__")) UB.lookup ↥2 F.slot_tuple_rmul.lookup ↥2
theorem Je:seqRepeat? (.type "tuple")=pure (some (.builtin "tuple.__mul__")):=by unfold seqRepeat?;rw[PySem.seqSlot_of (T:="tuple") (name:="__mul__") (id:="tuple.__mul__") UB.lookup ↥2,PySem.seqSlot_of (T:="tuple") (name:="__rmul__") (id:="tuple.__rmul__") F.slot_tuple_rmul.lookup ↥2];rfl
theorem Gr(a:Int)(t:Tok)(l:Qe)(items:Array Qd)(n:Nat)(dd:Option Qe)(sl:Array (Option Qd)):Meets (Sk.«int.__rmul__» ⟨[.int a t,.ref l],[]⟩) (λ_ R s=>s.heap.get? l=some {cls:=.type "tuple",dict:=dd,data:=.seq items n,slots:=sl}/\R (.ok (.ret Value.notImplemented)) s):=.of_wp λprog w A R s h=>by obtain⟨hp,g,d,tk,os⟩:=s;obtain⟨hl,h⟩:=h;wp_walk;exact⟨_,rfl,h⟩
theorem Ip(l:Qe)(x:Qd)(n:Nat)(k:Int)(u:Tok)(dd:Option Qe)(sl:Array (Option Qd))(h0:2<=k)(h1:k<=100000):Meets (Sk.«tuple.__mul__» ⟨[.ref l,.int k u],[]⟩) (λ_ R s=>s.heap.get? l=some {cls:=.type "tuple",dict:=dd,data:=.seq #[x] n,slots:=sl}/\R (.ok (.ret (.ref ↑s))) {s with heap:=s.heap.push {cls:=.type "tuple",data:=.seq (Qu k.toNat x).toArray}}):=.of_wp λprog w A R s h=>by
 obtain⟨hp,g,d,tk,os⟩:=s;obtain⟨hl,h⟩:=h;have f1:=VE;have c1:¬(decide (k< -(2^63))||decide (k>=2^63))=true:=by simp;lia
 have c2:¬((#[x]:Array Qd).isEmpty||k==1)=true:=by simp;lia
 have c3:¬(decide (k<=0)||(#[x]:Array Qd).isEmpty)=true:=by simp;lia
 have c4:¬(((#[x]:Array Qd).size:Int)*k>(2^63-1)/8):=by simp;lia
 have c5:¬VF (((#[x]:Array Qd).size:Int)*k)=true:=by unfold VF;rw[Rm];simp;lia
 wp_walk using SH hl;rw[if_neg c1];wp_walk using SH hl;rw[if_neg c2];wp_walk using SH hl;rw[if_neg c3];wp_walk using SH hl;rw[if_neg c4];show Qj _ _ (if VF (((#[x]:Array Qd).size:Int)*k)=true then _ else _) _ _ _;rw[if_neg c5];have f0:∀(m:Nat) (acc:Array Qd),TV (λx1 x2=>x1++x2) acc (Qu m #[x])=acc++(Qu m x).toArray:=by intro m;induction m with|zero=>intro acc;simp|succ m ih=>intro acc;rw[Tp,List.foldl_cons,ih,Tp];apply Array.toList_inj.mp;simp
 have e:TV (λx1 x2=>x1++x2) #[] (Qu k.toNat #[x])=(Qu k.toNat x).toArray:=by rw[f0];simp
 show Qj _ _ (To (TV (λx1 x2=>x1++x2) #[] (Qu k.toNat #[x]))>>=λv=>ret v) _ _ _;rw[e];unfold To;refine Qi (Sd ?_ (by show(Qu k.toNat x).toArray.size<=Qv;rw[QN,Vv,Rm];lia));exact Qp ⟨_,rfl,h⟩
theorem Fm(l:Qe)(x:Qd)(n:Nat)(u:Tok)(dd:Option Qe)(sl:Array (Option Qd)):Meets (Sk.«tuple.__mul__» ⟨[.ref l,.int 0 u],[]⟩) (λ_ R s=>s.heap.get? l=some {cls:=.type "tuple",dict:=dd,data:=.seq #[x] n,slots:=sl}/\R (.ok (.ret (.ref ↑s))) {s with heap:=s.heap.push {cls:=.type "tuple",data:=.seq #[]}}):=.of_wp λprog w A R s h=>by
 obtain⟨hp,g,d,tk,os⟩:=s;obtain⟨hl,h⟩:=h;have f1:=VE;have c2:¬((#[x]:Array Qd).isEmpty||(0:Int)==1)=true:=by simp
 wp_walk using SH hl;first|rw[if_neg c2]|skip
 wp_walk using SH hl;exact⟨_,rfl,h⟩
theorem Fn(l:Qe)(x:Qd)(n:Nat)(u:Tok)(dd:Option Qe)(sl:Array (Option Qd)):Meets (Sk.«tuple.__mul__» ⟨[.ref l,.int 1 u],[]⟩) (λ_ R s=>s.heap.get? l=some {cls:=.type "tuple",dict:=dd,data:=.seq #[x] n,slots:=sl}/\R (.ok (.ret (.ref l))) s):=.of_wp λprog w A R s h=>by obtain⟨hp,g,d,tk,os⟩:=s;obtain⟨hl,h⟩:=h;have f1:=VE;wp_walk using SH hl;exact⟨_,rfl,h⟩
section
variable{X:Cx}
def Dx(K:⇑0):R2:=λx y H Q=>∃a k v,x=.ref a/\y=.int k/\eO K H a [v]/\0<=k/\k<=100000/\∀p H',aG H H'->eO K H' p (Qu k.toNat v)->Q (.ref p) H'
theorem FN:kB X (Rz .Mult) (Dx X.K):=by
 intro pins s σ H x y v u Q I rx ry h;obtain⟨a,k,z,rfl,rfl,ha,k0,k1,q⟩:=h;cases rx;obtain⟨t,rfl⟩:=ry;obtain⟨its,r,p,hz⟩:=I.tuple ha;obtain⟨uz,rfl,rz⟩:=rh r;obtain⟨⟨cls,dd,data,sl⟩,ho,hc,n,hd⟩:=id p;simp only at hc hd;subst hc hd;refine wpAny_binaryOp_repeat_ref (T:="tuple") (U:="int") ⋯ ⟨_,ho,rfl⟩ (λs'=>Uv s' k t) AY F.fills_int_mul UT Je F.slot_int_index.lookup (Tq UT (Uv s k t) F.entry_int_rmul (F.args_int_rmul_2 _ _) (Gr k t a #[uz] n dd sl) ⟨ho,rfl,⟨_,ho,rfl⟩,?_⟩);have new:∀m:Nat,m=k.toNat->EP X pins σ Q (.ref ↑s) {s with heap:=s.heap.push {cls:=.type "tuple",data:=.seq (Qu m uz).toArray},toks:=s.toks}:=λm hm=>by
  have hf:H ↑s=none:=I.hok.fresh ↥8;have vv:∀j:Nat,a' (Qu j z) (Qu j uz):=λj=>by induction j with|zero=>exact .nil|succ j ih=>exact .cons rz ih
  refine⟨.ref ↑s,_,I.laid (t':=s.toks) (o:=.tup (Qu m z)) (λb ob q=>QG _ q) ↥8 ⟨by rw[Vv,Rm];lia,_,vv m,p_.new _ _⟩,rfl,q _ _ (aG.new hf) (eO.of (by rw[aw,hm]))⟩
 rcases(by lia:k=0\/k=1\/2<=k) with e|e|e;·subst e;exact Tq UB ⟨_,ho,rfl⟩ F.entry_tuple_mul (F.args_tuple_mul_2 _ _) (Fm a uz n t dd sl) ⟨ho,new 0 rfl⟩
 ·subst e;exact Tq UB ⟨_,ho,rfl⟩ F.entry_tuple_mul (F.args_tuple_mul_2 _ _) (Fn a uz n t dd sl) ⟨ho,⟨.ref a,H,I,rfl,q a H (aG.refl H) ha⟩⟩
 ·exact Tq UB ⟨_,ho,rfl⟩ F.entry_tuple_mul (F.args_tuple_mul_2 _ _) (Ip a uz n k t dd sl e k1) ⟨ho,new _ rfl⟩
end
section
variable{prog:Qn}{w:Qk}{A:Qr}{E:Qd->Qf->Prop}{s:Qf}
end
section
variable{X:Cx}{a:Qh}{ta:TA}{p p2 p3 pos pos2 pos3:Pos}
end
theorem AE(l:Qe)(xs:Array Qd):Meets (Sk.«enumerate.__new__» ⟨[.type "enumerate",.ref l],[]⟩) (λ_ R s=>s.heap.IsTuple l xs/\R (.ok (.ret (.ref (↑s+1)))) {s with heap:=(s.heap.push {cls:=.type "tuple_iterator",data:=.fields #[.ref l,.int 0 0]}).push {cls:=.type "enumerate",data:=.fields #[.none,.bool false,.ref ↑s,Se 0,.none,.none]}}):=.of_wp λprog w A R s h=>by
 obtain⟨hp,g,d,tk,os⟩:=s;obtain⟨ht,h⟩:=h;have a1:=sub_enumerate;have T1:Heap.IsTuple (Shared.heap ⟨hp,g,d,tk,os⟩) l xs:=ht;obtain⟨⟨cls,dd,data,sl⟩,ho,hc,n,hd⟩:=id ht;simp only at hc hd;subst hc hd;wp_walk using SH ho;refine wpAny_stack_any λst=>Qp ?_;split
 ·rename_i c _ _ _ _ _;cases (c==Value.type "enumerate");·wp_walk using SH ho,Uo T1;refine⟨_,rfl,?_⟩;simp only[Sl];exact h
  ·wp_walk using SH ho,Uo T1;refine⟨_,rfl,?_⟩;simp only[Sl];exact h
 ·wp_walk using SH ho,Uo T1;refine⟨_,rfl,?_⟩;simp only[Sl];exact h
section
variable{prog:Qn}{w:Qk}{A:Qr}{E:Qd->Qf->Prop}{s:Qf}
theorem yi{l:Qe}{xs:Array Qd}{Q:Qd->Qf->Prop}(t1:s.heap.IsTuple l xs)(h:∀g,EK (↑s+1) ↑s l 0 g->(∀c o,s.heap.get? c=some o->g.get? c=some o)->Q (.ref (↑s+1)) {s with heap:=g}):Qj (Ql prog w) A (call (.type "enumerate") [.ref l]) Q E s:=by
 refine callType_new F.called_enumerate ⋯ (F.typeCall_enumerate_1 _) (F.newCall_enumerate_1 _) (λobj=>F.args_object_init_2 obj _) F.entry_enumerate_new (AE l xs) ⟨t1,?_⟩;have g2:((s.heap.push {cls:=.type "tuple_iterator",data:=.fields #[.ref l,.int 0 0]}).push {cls:=.type "enumerate",data:=.fields #[.none,.bool false,.ref ↑s,Se 0,.none,.none]}).get? (↑s+1)=some {cls:=.type "enumerate",data:=.fields #[.none,.bool false,.ref ↑s,Se 0,.none,.none]}:=by
  have e:↑s+1=(s.heap.push {cls:=.type "tuple_iterator",data:=.fields #[.ref l,.int 0 0]}).objs.size:=by simp only[Sl]
  rw[e];exact Rf _ rfl
 exact⟨⟨_,g2,rfl⟩,h _ ⟨⟨.none,g2⟩,⟨_,QG _ (Rf _ rfl),rfl,rfl⟩⟩ λc o x=>QG _ (QG _ x)⟩
end
theorem qk:Sb "enumerate"=some (.type "enumerate"):=by decide+kernel
section
variable{X:Cx}{K:⇑0}{es:List Qh}{k0:Nat}{tp:Pos}{a:Qh}{ta:TA}{p pos:Pos}
end
section
variable{prog:Qn}{w:Qk}{A:Qr}{E:Qd->Qf->Prop}{s:Qf}
end
section
variable{prog:Qn}{w:Qk}{A:Qr}{E:Qd->Qf->Prop}{s:Qf}
end
section
variable{prog:Qn}{w:Qk}{A:Qr}{E:Qd->Qf->Prop}{s:Qf}
end
theorem wa{X:Cx}{ix:Nat}{nm:Str}{posn:Pos}{pins:List (Qe×Obj)}{σ:L2.St}{D0:su}(hNd:X.N.Nodup)(hix:X.N[ix]?=some nm)(hlc:X.env.scope.names.lookup nm=some .local)(C D:Qe)(H5:Hp)(s6:Qf)(hn:∃m,s6.heap.Ns C m)(qn:D0.nx (σ.set ix (some (.ref D))) H5)(fC:gR X pins H5 C)(key:∀h',SZ C s6.heap h'->aJ X pins σ H5 {s6 with heap:=h'}):compPost (Ql X.prog X.w) X.A X.xe (some (RD (.Name nm posn) X.env)) (λ_ s'=>Qj (Ql X.prog X.w) X.A (pure ()) (λ_ s''=>Qj (Ql X.prog X.w) X.A (pure Flow.next) (SP X pins D0) X.xe s'') X.xe s') (.ref D) C (.ok .next) s6:=by
 obtain⟨m,hn⟩:=hn;show Qj (Ql X.prog X.w) X.A (RD (.Name nm posn) X.env (.ref D)) _ X.xe s6;refine wpAny_assign_Name (uf (v:=.ref D) (key s6.heap ⟨rfl,λ_ _=>rfl⟩) hNd hix (Or.inl hlc) rfl (λs' I' hsb=>?_) (Or.inr hlc));obtain⟨a,sb,ha⟩:=hsb;have nCa:C≠a:=by
  rcases ha with z|z;·rw[z];exact fC.2.1
  ·exactλe=>fC.2.2.2.2.1 _ _ z e.symm
 obtain⟨oN,esN,epN,hoN,rN⟩:=hn;refine⟨m,⟨oN,esN,epN,(sb.2 C nCa).trans hoN,rN⟩,λh' sb'=>Qp (Qp ?_)⟩;have I8:aJ X pins (σ.set ix (some (.ref D))) H5 {s' with heap:=h',toks:=s'.toks}:=I'.turnedL (t':=s'.toks) (fp:=[C]) (λb hb=>by rw[VG.mp hb];exact fC) λb o nb e=>sb'.extBut b o (by simpa using nb) e;exact⟨_,H5,I8,qn⟩
inductive jp where|vi (k:Int)|vb (x:Bool)|vn|vp (a:Qe) (p q:Int)
def jp.toV:jp->V|.vi k=>.int k|.vb x=>.bl x|.vn=>.non|.vp a _ _=>.ref a
def jp.toD:jp->Qg|.vi k=>.int k|.vb x=>.bool x|.vn=>.none|.vp _ p q=>.tuple [.int p,.int q]
def jp.ok(K:⇑0)(F:Hp):jp->Prop|.vp a p q=>eO K F a [.int p,.int q]|_=>True
theorem jp.ok.mono{K:⇑0}{F F':Hp}(h:aG F F'){a:jp}(q:a.ok K F):a.ok K F':=by cases a<;>first|exact h.tup q|trivial
mutual
def DA(K:⇑0)(F:Hp):Qg->V->Prop|.none,v=>v=.non|.bool b,v=>v=.bl b|.int i,v=>v=.int i|.str x,v=>v=.str x|.tuple ds,v=>∃a xs,v=.ref a/\eO K F a xs/\aR K F ds xs|.list ds,v=>∃a xs,v=.ref a/\jR K F a xs/\aR K F ds xs|.dict kvs,v=>∃(a:Qe) (m:List (Int×jp)),v=.ref a/\F a=some (.dK (m.map λp=>(Sum.inl p.1,p.2.toV)))/\kvs=m.map (λp=>(PyData.int p.1,p.2.toD))/\∀p∈m,p.2.ok K F
def aR(K:⇑0)(F:Hp):List Qg->List V->Prop|[],xs=>xs=[]|d::ds,xs=>∃x r,xs=x::r/\DA K F d x/\aR K F ds r
end
mutual
theorem DA.mono{K:⇑0}{F F':Hp}(h:aG F F'):∀{d:Qg}{v:V},DA K F d v->DA K F' d v|.none,_,q=>by simp only[DA]at q⊢;exact q|.bool b,_,q=>by simp only[DA]at q⊢;exact q|.int i,_,q=>by simp only[DA]at q⊢;exact q|.str x,_,q=>by simp only[DA]at q⊢;exact q|.tuple ds,_,q=>by simp only[DA]at q⊢;obtain⟨a,xs,e,s,r⟩:=q;exact⟨a,xs,e,h.tup s,aR.mono h r⟩|.list ds,_,q=>by simp only[DA]at q⊢;obtain⟨a,xs,e,s,r⟩:=q;exact⟨a,xs,e,h.seq s,aR.mono h r⟩|.dict _,_,q=>by simp only[DA]at q⊢;obtain⟨a,m,e,s,k,o⟩:=q;exact⟨a,m,e,h _ _ s,k,λp hp=>(o p hp).mono h⟩
theorem aR.mono{K:⇑0}{F F':Hp}(h:aG F F'):∀{ds:List Qg}{xs:List V},aR K F ds xs->aR K F' ds xs|[],_,q=>by simp only[aR]at q⊢;exact q|d::ds,_,q=>by simp only[aR]at q⊢;obtain⟨x,r,e,a,b⟩:=q;exact⟨x,r,e,DA.mono h a,aR.mono h b⟩
end
section
variable{K:⇑0}{F:Hp}
theorem aR.len:∀{ds:List Qg}{xs:List V},aR K F ds xs->ds.length=xs.length|[],_,q=>by simp only[aR]at q;subst q;rfl|d::ds,_,q=>by simp only[aR]at q;obtain⟨x,r,e,a,b⟩:=q;subst e;simp[aR.len b]
theorem aR.get:∀{ds:List Qg}{xs:List V}{i:Nat}{d:Qg},aR K F ds xs->ds[i]?=some d->∃v,xs[i]?=some v/\DA K F d v|[],_,_,_,_,h=>by simp at h|d::ds,_,i,d',q,h=>by simp only[aR]at q;obtain⟨x,r,e,a,b⟩:=q;subst e;cases i with|zero=>simp at h;subst h;exact⟨x,rfl,a⟩|succ i=>obtain⟨v,h1,h2⟩:=aR.get (i:=i) b (by simpa using h);exact⟨v,by simpa using h1,h2⟩
theorem aR.append:∀{ds es:List Qg}{xs ys:List V},aR K F ds xs->aR K F es ys->aR K F (ds++es) (xs++ys)|[],_,_,_,q,s=>by simp only[aR]at q;subst q;simpa using s|d::ds,es,_,ys,q,s=>by simp only[aR]at q;obtain⟨x,r,e,a,b⟩:=q;subst e;simp only[Su,aR];exact⟨x,_,rfl,a,aR.append b s⟩
theorem aR.one{d:Qg}{v:V}(h:DA K F d v):aR K F [d] [v]:=by simp only[aR];exact⟨_,_,rfl,h,rfl⟩
theorem aR.nil:aR K F [] []:=by simp only[aR]
theorem aR.cons{d:Qg}{v:V}{ds:List Qg}{vs:List V}(h:DA K F d v)(r:aR K F ds vs):aR K F (d::ds) (v::vs):=by simp only[aR];exact⟨_,_,rfl,h,r⟩
theorem aR.drop:∀{ds:List Qg}{xs:List V}(n:Nat),aR K F ds xs->aR K F (ds.drop n) (xs.drop n)|_,_,0,q=>q|[],_,n+1,q=>by simp only[aR]at q;subst q;exact aR.nil|d::ds,_,n+1,q=>by simp only[aR]at q;obtain⟨x,r,e,a,b⟩:=q;subst e;simpa using aR.drop n b
theorem aR.take:∀{ds:List Qg}{xs:List V}(n:Nat),aR K F ds xs->aR K F (ds.take n) (xs.take n)|_,_,0,q=>by simpa using aR.nil|[],_,n+1,q=>by simp only[aR]at q;subst q;exact aR.nil|d::ds,_,n+1,q=>by simp only[aR]at q;obtain⟨x,r,e,a,b⟩:=q;subst e;simpa using aR.cons a (aR.take n b)
theorem aR.set{d:Qg}{v:V}(h:DA K F d v):∀{ds:List Qg}{xs:List V}(n:Nat),aR K F ds xs->aR K F (ds.set n d) (xs.set n v)|[],_,_,q=>by simp only[aR]at q;subst q;exact aR.nil|e::ds,_,n,q=>by simp only[aR]at q;obtain⟨x,r,e,a,b⟩:=q;subst e;cases n with|zero=>exact aR.cons h b|succ n=>exact aR.cons a (aR.set h n b)
theorem aR.erase:∀{ds:List Qg}{xs:List V}(n:Nat),aR K F ds xs->aR K F (ds.eraseIdx n) (xs.eraseIdx n)|[],_,_,q=>by simp only[aR]at q;subst q;exact aR.nil|e::ds,_,n,q=>by simp only[aR]at q;obtain⟨x,r,e,a,b⟩:=q;subst e;cases n with|zero=>exact b|succ n=>exact aR.cons a (aR.erase n b)
theorem aR.ints:∀{ns:List Int}{xs:List V},aR K F (ns.map .int) xs↔xs=ns.map V.int
 |[],xs=>by simp[aR]|n::ns,xs=>by
  simp only[QB,aR,DA];constructor;·rintro⟨x,r,e,rfl,q⟩;rw[e,aR.ints.mp q]
  ·rintro rfl;exact⟨_,_,rfl,rfl,aR.ints.mpr rfl⟩
theorem bT{i:Int}{v:V}:DA K F (.int i) v↔v=.int i:=by simp only[DA]
theorem eV{b:Bool}{v:V}:DA K F (.bool b) v↔v=.bl b:=by simp only[DA]
theorem mL{v:V}:DA K F .none v↔v=.non:=by simp only[DA]
theorem uI{x:Str}{v:V}:DA K F (.str x) v↔v=.str x:=by simp only[DA]
theorem cC{ds:List Qg}{v:V}:DA K F (.tuple ds) v↔∃a xs,v=.ref a/\eO K F a xs/\aR K F ds xs:=by simp only[DA]
theorem cB{ds:List Qg}{v:V}:DA K F (.list ds) v↔∃a xs,v=.ref a/\jR K F a xs/\aR K F ds xs:=by simp only[DA]
end
inductive Sv where|d (x:Qg)|l (xs:List Qg)/--a list of lists that nobody else holds -/|n (xss:List (List Qg))
abbrev En:=List (Option Sv)
inductive Rv where|d (x:Qg)|l (xs:List Qg)|s (i:Nat)
def Fp(σ:L2.St)(e:En)(H:Hp)(i:Nat)(a:Qe):Prop:=(∃xs:List Qg,e[i]?=some (some (Sv.l xs))/\σ[i]?=some (some (.ref a)))\/∃(xss:List (List Qg)) (l:Qe) (bs:List Qe),e[i]?=some (some (Sv.n xss))/\σ[i]?=some (some (.ref l))/\H l=some (.lst (bs.map V.ref))/\(a=l\/a∈bs)
def cm(σ:L2.St)(e:En)(H:Hp)(a:Qe):Prop:=∃i,Fp σ e H i a
structure bc (K:⇑0) (F H:Hp) (σ:L2.St) (e:En):Prop where
 sm:aG F H
 len:σ.length=e.length
 dat:∀(i:Nat) (x:Qg),e[i]?=some (some (.d x))->∃v,σ[i]?=some (some v)/\DA K F x v
 own:∀(i:Nat) (xs:List Qg),e[i]?=some (some (.l xs))->∃l vs,σ[i]?=some (some (.ref l))/\F l=none/\H l=some (.lst vs)/\aR K F xs vs
 nst:∀(i:Nat) (xss:List (List Qg)),e[i]?=some (some (.n xss))->∃(l:Qe) (bs:List Qe),σ[i]?=some (some (.ref l))/\F l=none/\H l=some (.lst (bs.map V.ref))/\bs.length=xss.length/\bs.Nodup/\l∉bs/\∀(k:Nat) (b:Qe) (ys:List Qg),bs[k]?=some b->xss[k]?=some ys->F b=none/\∃us,H b=some (.lst us)/\aR K F ys us
 fp:∀(i j:Nat) (a:Qe),Fp σ e H i a->Fp σ e H j a->i=j
theorem bc.inj{K:⇑0}{F H:Hp}{σ:L2.St}{e:En}(R:bc K F H σ e)(i j:Nat)(xs ys:List Qg)(l:Qe)(h1:e[i]?=some (some (.l xs)))(h2:e[j]?=some (some (.l ys)))(h3:σ[i]?=some (some (.ref l)))(h4:σ[j]?=some (some (.ref l))):i=j:=R.fp i j l (.inl ⟨xs,h1,h3⟩) (.inl ⟨ys,h2,h4⟩)
theorem bc.fpAt{K:⇑0}{F H:Hp}{σ:L2.St}{e:En}(R:bc K F H σ e){i:Nat}{a:Qe}(h:Fp σ e H i a):F a=none/\∃vs,H a=some (.lst vs):=by
 rcases h with⟨xs,h1,h2⟩|⟨xss,l,bs,h1,h2,h3,h4⟩;·obtain⟨l,vs,g1,g2,g3,_⟩:=R.own i xs h1;rw[h2]at g1;cases g1;exact⟨g2,vs,g3⟩
 ·obtain⟨l',bs',g1,g2,g3,g4,g5,g6,g7⟩:=R.nst i xss h1;rw[h2]at g1;cases g1;rw[h3]at g3;have e1:bs=bs':=by have:=HO.lst.inj (QY g3);exact VH (λ_ _ z=>V.ref.inj z)|>.mp this
  subst e1;rcases h4 with rfl|h4;·exact⟨g2,_,h3⟩
  ·obtain⟨k,hk⟩:=Tg h4;have hk2:k<xss.length:=by rw[<-g4];exact(P_ hk).1
   obtain⟨c1,us,c2,_⟩:=g7 k a xss[k] hk (QR hk2);exact⟨c1,us,c2⟩
structure fm (σ:L2.St) (F H:Hp) (e:En) (F' H':Hp) (e':En):Prop where
 sf:aG F F'
 dom:∀a,H' a=none->H a=none
 fr:∀a vs,F a=none->H a=some (.lst vs)->¬cm σ e H a->F' a=none
 lst:∀a vs,H a=some (.lst vs)->∃vs',H' a=some (.lst vs')tmp:∀a o,H a=some o->¬cm σ e H a->H' a=some o
 shp:∀i:Nat,(∃xs,e'[i]?=some (some (.l xs)))↔(∃xs,e[i]?=some (some (.l xs)))ow:∀a,cm σ e' H' a->cm σ e H a\/H a=none
 fd:∀a m,F a=none->H a=some (.dK m)->¬cm σ e H a->F' a=none
theorem fm.refl(σ:L2.St)(F H:Hp)(e:En):fm σ F H e F H e:=⟨aG.refl _,λ_ h=>h,λ_ _ h _ _=>h,λ_ vs h=>⟨vs,h⟩,λ_ _ h _=>h,λ_=>Iff.rfl,λ_ h=>.inl h,λ_ _ h _ _=>h⟩
theorem fm.trans{σ:L2.St}{F H F1 H1 F2 H2:Hp}{e e1 e2:En}(x:fm σ F H e F1 H1 e1)(y:fm σ F1 H1 e1 F2 H2 e2):fm σ F H e F2 H2 e2:=⟨x.sf.trans y.sf,λa h=>x.dom a (y.dom a h),λa vs h n no=>let⟨vs',q⟩:=x.lst a vs n;y.fr a vs' (x.fr a vs h n no) q (λz=>(x.ow a z).elim no λz=>by rw[n]at z;cases z),λa vs h=>let⟨vs',q⟩:=x.lst a vs h;y.lst a vs' q,λa o h n=>y.tmp a o (x.tmp a o h n) (λz=>(x.ow a z).elim n λz=>by rw[h]at z;cases z),λi=>(y.shp i).trans (x.shp i),λa h=>(y.ow a h).elim (x.ow a) λz=>.inr (x.dom a z),λa m h n no=>y.fd a m (x.fd a m h n no) (x.tmp a _ n no) (λz=>(x.ow a z).elim no λz=>by rw[n]at z;cases z)⟩
def cw(K:⇑0)(σ:L2.St)(H0 F H:Hp)(e:En):Rv->V->Prop|.d x,v=>DA K F x v|.l xs,v=>∃l vs,v=.ref l/\H0 l=none/\F l=none/\H l=some (.lst vs)/\aR K F xs vs/\¬cm σ e H l|.s i,v=>σ[i]?=some (some v)/\∃xs,e[i]?=some (some (.l xs))
section
variable{K:⇑0}{σ:L2.St}{H0 F H F' H':Hp}{e e':En}{r:Rv}{v:V}
theorem cw.ext(h:cw K σ H0 F H e r v)(x:fm σ F H e F' H' e'):cw K σ H0 F' H' e' r v:=by cases r with|d y=>exact DA.mono x.sf h|l xs=>obtain⟨l,vs,e1,h1,h2,h3,h4,h5⟩:=h;exact⟨l,vs,e1,h1,x.fr l _ h2 h3 h5,x.tmp l _ h3 h5,aR.mono x.sf h4,λz=>(x.ow l z).elim h5 λz=>by rw[h3]at z;cases z⟩|s i=>exact⟨h.1,(x.shp i).mpr h.2⟩
theorem cw.weak{H1:Hp}(h:cw K σ H1 F H e r v)(d:∀a,H1 a=none->H0 a=none):cw K σ H0 F H e r v:=by cases r with|d y=>exact h|l xs=>obtain⟨l,vs,e1,h1,r⟩:=h;exact⟨l,vs,e1,d l h1,r⟩|s i=>exact h
theorem bc.ownH(R:bc K F H σ e)(a:Qe)(h:cm σ e H a):H a≠none:=by obtain⟨i,h⟩:=h;obtain⟨_,vs,h2⟩:=R.fpAt h;rw[h2];simp
theorem bc.freeF(R:bc K F H σ e){p:Qe}(hp:H p=none):F p=none:=R.sm.free hp
theorem ES(R:bc K F H σ e)(h:∀l bs,H l=some (.lst bs)->cm σ e H l->H' l=some (.lst bs)){i:Nat}{a:Qe}:Fp σ e H' i a↔Fp σ e H i a:=by
 have key:∀xss l,e[i]?=some (some (.n xss))->σ[i]?=some (some (.ref l))->H' l=H l:=λxss l h1 h2=>by obtain⟨l',bs,g1,g2,g3,_⟩:=R.nst i xss h1;rw[h2]at g1;cases g1;rw[g3];exact h l _ g3 ⟨i,.inr ⟨xss,l,bs,h1,h2,g3,.inl rfl⟩⟩
 constructor
 ·rintro(h1|⟨xss,l,bs,h1,h2,h3,h4⟩);·exact .inl h1
  ·exact .inr ⟨xss,l,bs,h1,h2,by rw[<-key xss l h1 h2];exact h3,h4⟩
 ·rintro(h1|⟨xss,l,bs,h1,h2,h3,h4⟩);·exact .inl h1
  ·exact .inr ⟨xss,l,bs,h1,h2,by rw[key xss l h1 h2];exact h3,h4⟩
theorem bc.keep(R:bc K F H σ e)(sF:aG F F')(sm:aG F' H')(hf:∀a,cm σ e H a->F' a=none)(hh:∀a o,cm σ e H a->H a=some o->H' a=some o):bc K F' H' σ e/\∀a,cm σ e H' a↔cm σ e H a:=by
 have fs:∀{i a},Fp σ e H' i a↔Fp σ e H i a:=fun{i a}=>ES R λl bs h1 h2=>hh l _ h2 h1;refine⟨⟨sm,R.len,λi x h=>let⟨v,h1,h2⟩:=R.dat i x h;⟨v,h1,DA.mono sF h2⟩,λi xs h=>?_,λi xss h=>?_,λi j a h1 h2=>R.fp i j a (fs.mp h1) (fs.mp h2)⟩,λa=>⟨λ⟨i,h⟩=>⟨i,fs.mp h⟩,λ⟨i,h⟩=>⟨i,fs.mpr h⟩⟩⟩;·obtain⟨l,vs,h1,h2,h3,h4⟩:=R.own i xs h;have o:cm σ e H l:=⟨i,.inl ⟨xs,h,h1⟩⟩;exact⟨l,vs,h1,hf l o,hh l _ o h3,h4.mono sF⟩
 ·obtain⟨l,bs,h1,h2,h3,h4,h5,h6,h7⟩:=R.nst i xss h;have o:cm σ e H l:=⟨i,.inr ⟨xss,l,bs,h,h1,h3,.inl rfl⟩⟩;refine⟨l,bs,h1,hf l o,hh l _ o h3,h4,h5,h6,λk b ys g1 g2=>?_⟩;obtain⟨c1,us,c2,c3⟩:=h7 k b ys g1 g2;have ob:cm σ e H b:=⟨i,.inr ⟨xss,l,bs,h,h1,h3,.inr (Qc g1)⟩⟩;exact⟨hf b ob,us,hh b _ ob c2,c3.mono sF⟩
theorem bc.same(R:bc K F H σ e)(s:aG H H'):bc K F H' σ e/\fm σ F H e F H' e:=by obtain⟨R',o'⟩:=R.keep (aG.refl F) (R.sm.trans s) (λa⟨i,h⟩=>(R.fpAt h).1) λa o _ h=>s a o h;exact⟨R',⟨aG.refl _,λa h=>s.free h,λ_ _ h _ _=>h,λa vs h=>⟨vs,s _ _ h⟩,λa o h _=>s a o h,λ_=>Iff.rfl,λa h=>.inl ((o' a).mp h),λ_ _ h _ _=>h⟩⟩
theorem bc.freeze(R:bc K F H σ e){p:Qe}{o:HO}(hF:F p=none)(hp:H p=some o)(hn:¬cm σ e H p):bc K (bz F p o) H σ e/\aG F (bz F p o):=by
 have sF:aG F (bz F p o):=aG.new hF;refine⟨(R.keep sF (λb u q=>?_) (λa ha=>?_) λ_ _ _ h=>h).1,sF⟩
 ·by_cases z:b=p;·subst z;rw[aw]at q;cases q;exact hp
  ·rw[aA z]at q;exact R.sm _ _ q
 ·obtain⟨i,hi⟩:=ha;have z:a≠p:=λz=>hn ⟨i,by rw[<-z];exact hi⟩;rw[aA z];exact(R.fpAt hi).1
theorem bc.notOwn(R:bc K F H σ e){p:Qe}{o:HO}(hp:H p=some o)(hl:∀vs,o≠.lst vs):¬cm σ e H p:=λ⟨i,h⟩=>by obtain⟨_,vs,g⟩:=R.fpAt h;rw[hp]at g;cases g;exact hl _ rfl
theorem bc.newT(R:bc K F H σ e){p:Qe}{vs:List V}(hp:H p=none):bc K (bz F p (.tup vs)) (bz H p (.tup vs)) σ e/\fm σ F H e (bz F p (.tup vs)) (bz H p (.tup vs)) e:=by have hF:=R.freeF hp;obtain⟨R1,X1⟩:=R.same (aG.new hp (o:=.tup vs));obtain⟨R2,s2⟩:=R1.freeze (p:=p) hF aw (R1.notOwn aw (λ_ z=>nomatch z));refine⟨R2,⟨s2,X1.dom,λa ws h n _=>?_,X1.lst,X1.tmp,X1.shp,X1.ow,λa ws h n _=>?_⟩⟩;all_goals
 have z:a≠p:=λz=>by rw[z,hp]at n;cases n
 rw[aA z];exact h
theorem bc.sameOwn(R:bc K F H σ e)(s:aG H H')(a:Qe):cm σ e H' a↔cm σ e H a:=(R.keep (aG.refl F) (R.sm.trans s) (λa⟨i,h⟩=>(R.fpAt h).1) λa o _ h=>s a o h).2 a
theorem bc.newL(R:bc K F H σ e){p:Qe}{vs:List V}(hp:H p=none):bc K F (bz H p (.lst vs)) σ e/\fm σ F H e F (bz H p (.lst vs)) e/\F p=none/\¬cm σ e (bz H p (.lst vs)) p:=⟨(R.same (aG.new hp)).1,(R.same (aG.new hp)).2,R.freeF hp,λz=>R.ownH p ((R.sameOwn (aG.new hp) p).mp z) hp⟩
theorem bc.growT(R:bc K F H σ e){p:Qe}{xs:List V}(s:aG H H')(hp:eO K H' p xs):∃F',bc K F' H' σ e/\fm σ F H e F' H' e/\eO K F' p xs:=by
 obtain⟨R1,X1⟩:=R.same s;rcases hp with hp|hp
 ·have key:∀o,H' p=some o->(∀vs,o≠.lst vs)->(∀m,o≠.dK m)->(∀G:Hp,G p=some o->Rd G p (.tup xs))->∃F',bc K F' H' σ e/\fm σ F H e F' H' e/\eO K F' p xs:=by intro o ho hl hm hr;cases q:F p with|some u=>have:=R1.sm _ _ q;rw[ho]at this;cases this;exact⟨F,R1,X1,.inl (hr F q)⟩|none=>
    obtain⟨R2,s2⟩:=R1.freeze q ho (R1.notOwn ho hl);refine⟨_,R2,⟨s2,X1.dom,λa ws h n _=>?_,X1.lst,X1.tmp,X1.shp,X1.ow,λa ws h n _=>?_⟩,.inl (hr _ aw)⟩
    ·have z:a≠p:=λz=>by rw[z]at n;rw[s _ _ n]at ho;cases ho;exact hl _ rfl
     rw[aA z];exact h
    ·have z:a≠p:=λz=>by rw[z]at n;rw[s _ _ n]at ho;cases ho;exact hm _ rfl
     rw[aA z];exact h
  rcases hp with hp|⟨ob,hp⟩;·exact key _ hp (λ_ z=>nomatch z) (λ_ z=>nomatch z) λG g=>.inl g
  ·exact key _ hp (λ_ z=>nomatch z) (λ_ z=>nomatch z) λG g=>.inr ⟨ob,g⟩
 ·exact⟨F,R1,X1,.inr hp⟩
theorem cw.frozen(R:bc K F H σ e){xs:List Qg}(h:cw K σ H0 F H e (.l xs) v):∃F',bc K F' H σ e/\aG F F'/\DA K F' (.list xs) v/\(∀a,F a=none->H0 a≠none->F' a=none):=by
 obtain⟨l,vs,rfl,h1,h2,h3,h4,h5⟩:=h;obtain⟨R2,s2⟩:=R.freeze h2 h3 h5;refine⟨_,R2,s2,?_,λa ha hn=>?_⟩;·rw[cB];exact⟨l,vs,rfl,.inl (.inl aw),aR.mono s2 h4⟩
 ·have z:a≠l:=λz=>hn (by rw[z];exact h1);rw[aA z];exact ha
def gL(e:En):Rv->Option (Bool×List Qg)
 |.d (.tuple xs)=>some (false,xs)|.d (.list xs)=>some (true,xs)|.l xs=>some (true,xs)|.s i=>match e[i]? with|some (some (.l xs))=>some (true,xs)|_=>none
 |_=>none
theorem f_(R:bc K F H σ e)(h:cw K σ H0 F H e r v){b:Bool}{xs:List Qg}(q:gL e r=some (b,xs)):∃p vs,v=.ref p/\aR K F xs vs/\(if b=true then jR K H p vs else eO K H p vs):=by cases r with
 |d x=>cases x with|tuple ds=>cases q;obtain⟨a,ys,e1,e2,e3⟩:=cC.mp h;exact⟨a,ys,e1,e3,R.sm.tup e2⟩|list ds=>cases q;obtain⟨a,ys,e1,e2,e3⟩:=cB.mp h;exact⟨a,ys,e1,e3,R.sm.seq e2⟩|_=>cases q
 |l ys=>cases q;obtain⟨l,vs,e1,h1,h2,h3,h4,_⟩:=h;exact⟨l,vs,e1,h4,.inl (.inl h3)⟩|s i=>obtain⟨h1,ys,h2⟩:=h;simp only[gL,h2]at q;cases q;obtain⟨l,vs,e1,e2,e3,e4⟩:=R.own i _ h2;rw[h1]at e1;cases e1;exact⟨l,vs,rfl,e4,.inl (.inl e3)⟩
end
abbrev FE:=En->Option (Rv×En)
abbrev FT:=En->Option (Bool×En)
abbrev FA:=En->Option (List Rv×En)
def cz(K:⇑0)(σ:L2.St)(H0 F H:Hp)(e:En):List Rv->List V->Prop|[],vs=>vs=[]|r::rs,vs=>∃v ws,vs=v::ws/\cw K σ H0 F H e r v/\cz K σ H0 F H e rs ws
def fE(K:⇑0)(f:FE):TE:=λσ H Q=>∃F e r e',bc K F H σ e/\f e=some (r,e')/\∀F' H' v,fm σ F H e F' H' e'->bc K F' H' σ e'->cw K σ H F' H' e' r v->Q v H'
def fT(K:⇑0)(f:FT):TT:=λσ H Q=>∃F e b e',bc K F H σ e/\f e=some (b,e')/\∀F' H',fm σ F H e F' H' e'->bc K F' H' σ e'->Q b H'
def fA(K:⇑0)(f:FA):TA:=λσ H Q=>∃F e rs e',bc K F H σ e/\f e=some (rs,e')/\∀F' H' vs,fm σ F H e F' H' e'->bc K F' H' σ e'->cz K σ H F' H' e' rs vs->Q vs H'
theorem PE.mono{X:Cx}{e:Qh}{t t':TE}(h:PE X e t)(m:∀σ H Q,t' σ H Q->t σ H Q):PE X e t':=λpins s σ H Q I q=>h pins s σ H Q I (m σ H Q q)
theorem PT.mono{X:Cx}{e:Qh}{t t':TT}(h:PT X e t)(m:∀σ H Q,t' σ H Q->t σ H Q):PT X e t':=λpins s σ H Q I q=>h pins s σ H Q I (m σ H Q q)
theorem PW.mono{X:Cx}{e:Qh}{t t':TT}(h:PW X e t)(m:∀σ H Q,t' σ H Q->t σ H Q):PW X e t':=λwh pins s σ H Q I q=>h wh pins s σ H Q I (m σ H Q q)
theorem PA.mono{X:Cx}{es:List Qh}{t t':TA}(h:PA X es t)(m:∀σ H Q,t' σ H Q->t σ H Q):PA X es t':=λpos pins s σ H Q I q=>h pos pins s σ H Q I (m σ H Q q)
section
variable{K:⇑0}{σ:L2.St}{H0 F H F' H':Hp}{e e':En}
theorem cz.weak{H1:Hp}(d:∀a,H1 a=none->H0 a=none):∀{rs:List Rv}{vs:List V},cz K σ H1 F H e rs vs->cz K σ H0 F H e rs vs|[],_,h=>h|r::rs,_,h=>by obtain⟨v,ws,rfl,h1,h2⟩:=h;exact⟨v,ws,rfl,h1.weak d,cz.weak d h2⟩
theorem fm.frz{F'':Hp}(x:fm σ F H e F' H' e')(s:aG F' F'')(h:∀a,F' a=none->H a≠none->F'' a=none):fm σ F H e F'' H' e':=⟨x.sf.trans s,x.dom,λa vs h1 h2 h3=>h a (x.fr a vs h1 h2 h3) (by rw[h2];simp),x.lst,x.tmp,x.shp,x.ow,λa m h1 h2 h3=>h a (x.fd a m h1 h2 h3) (by rw[h2];simp)⟩
def iB:List Rv->Option (List Qg)|[]=>some []|.d x::rs=>(iB rs).map (x::·)|.l xs::rs=>(iB rs).map (.list xs::·)|.s _::_=>none
theorem cz.frozen:∀{rs:List Rv}{vs:List V}{ds:List Qg}{F:Hp},bc K F H σ e->cz K σ H0 F H e rs vs->iB rs=some ds->∃F',bc K F' H σ e/\aG F F'/\aR K F' ds vs/\(∀a,F a=none->H0 a≠none->F' a=none)|[],_,_,F,R,h,q=>by cases q;have h':_=[]:=h;subst h';exact⟨F,R,aG.refl _,aR.nil,λ_ h _=>h⟩|.d x::rs,_,ds,F,R,h,q=>by obtain⟨v,ws,rfl,h1,h2⟩:=h;obtain⟨ds',q1,rfl⟩:=P9 q;obtain⟨F',R',s',d',f'⟩:=cz.frozen R h2 q1;exact⟨F',R',s',.cons (DA.mono s' h1) d',f'⟩|.l xs::rs,_,ds,F,R,h,q=>by obtain⟨v,ws,rfl,h1,h2⟩:=h;obtain⟨ds',q1,rfl⟩:=P9 q;obtain⟨F',R',s',d',f'⟩:=cz.frozen R h2 q1;obtain⟨l,us,rfl,g1,g2,g3,g4,g5⟩:=h1;cases hl:F' l with|none=>have h1':cw K σ H0 F' H e (.l xs) (.ref l):=⟨l,us,rfl,g1,hl,g3,aR.mono s' g4,g5⟩;obtain⟨F2,R2,s2,d2,f2⟩:=h1'.frozen R';exact⟨F2,R2,s'.trans s2,.cons d2 (aR.mono s2 d'),λa ha hn=>f2 a (f' a ha hn) hn⟩|some o=>have:=R'.sm _ _ hl;rw[g3]at this;cases this;exact⟨F',R',s',.cons (cB.mpr ⟨l,us,rfl,.inl (.inl hl),aR.mono s' g4⟩) d',f'⟩
end
section
variable{X:Cx}{K:⇑0}{a b c:Qh}{fa fb:FE}{ft fu:FT}{pos:Pos}{es:List Qh}{fs:FA}
def af(i:Nat):FE:=λe=>match e[i]? with|some (some (.d x))=>some (.d x,e)|some (some (.l _))=>some (.s i,e)|_=>none
def vC(x:Qg):FE:=λe=>some (.d x,e)
theorem GT{i:Nat}{σ:L2.St}{H:Hp}{Q:VK}(h:fE K (af i) σ H Q):pN i σ H Q:=by obtain⟨F,e,r,e',R,hf,q⟩:=h;unfold af at hf;match h1:e[i]?,hf with|some (some (.d x)),hf=>cases hf;obtain⟨v,h2,h3⟩:=R.dat i x h1;exact⟨v,h2,q F H v (fm.refl _ _ _ _) R h3⟩|some (some (.n _)),hf=>cases hf|some (some (.l xs)),hf=>cases hf;obtain⟨l,vs,h2,h3⟩:=R.own i xs h1;exact⟨_,h2,q F H _ (fm.refl _ _ _ _) R ⟨h2,xs,h1⟩⟩|some none,hf=>cases hf|none,hf=>cases hf
theorem qv(i:Nat){x:Str}{pos:Pos}(hN:X.N[i]?=some x)(hv:Bw X.env.scope x)(hd:(x==("__debug__":Str))=false)(hcd:(x==("__classdict__":Str))=false):PE X (.Name x pos) (fE K (af i)):=(hJ hN hv hd hcd).mono λ_ _ _ h=>GT h
theorem Al{x:Qg}{v:V}{σ:L2.St}{H:Hp}{Q:VK}(hx:∀F,DA K F x v)(h:fE K (vC x) σ H Q):tC v σ H Q:=by obtain⟨F,e,r,e',R,hf,q⟩:=h;cases hf;exact q F H v (fm.refl _ _ _ _) R (hx F)
theorem ag{i j pos}:PE X (.Constant (.int i) j pos) (fE K (vC (.int i))):=C6.mono λ_ _ _ h=>Al (λ_=>bT.mpr rfl) h
theorem km{b j pos}:PE X (.Constant (.bool b) j pos) (fE K (vC (.bool b))):=rk.mono λ_ _ _ h=>Al (λ_=>eV.mpr rfl) h
theorem IX{x j pos}:PE X (.Constant (.str x) j pos) (fE K (vC (.str x))):=II.mono λ_ _ _ h=>Al (λ_=>uI.mpr rfl) h
theorem lM{x:Str}{v:V}{u:Qd}{pos:Pos}{y:Qg}(hg:Gl X x)(hm:X.mg x=some u)(r:bC v u)(hy:∀F,DA K F y v)(hd:(x==("__debug__":Str))=false):PE X (.Name x pos) (fE K (vC y)):=(lL hg hm r hd).mono λ_ _ _ h=>Al hy h
def kz(K:⇑0)(r:R2)(g:En->Rv->Rv->Option Rv):Prop:=∀(σ:L2.St) (H0 F H:Hp) (e:En) (x y z:Rv) (v u:V) (Q:VK),bc K F H σ e->cw K σ H0 F H e x v->cw K σ H0 F H e y u->g e x y=some z->(∀F' H' w,fm σ F H e F' H' e->bc K F' H' σ e->cw K σ H F' H' e z w->Q w H')->r v u H Q
def ax(g:En->Rv->Rv->Option Rv)(fa fb:FE):FE:=λe=>(fa e).bind λp=>(fb p.2).bind λq=>(g q.2 p.1 q.1).map λz=>(z,q.2)
theorem r9{r:R2}{g:En->Rv->Rv->Option Rv}(ho:kz K r g){σ:L2.St}{H:Hp}{Q:VK}(h:fE K (ax g fa fb) σ H Q):Jo r (fE K fa) (fE K fb) σ H Q:=by obtain⟨F,e,z,e2,R,hf,q⟩:=h;unfold ax at hf;obtain⟨⟨x,e1⟩,h1,hf⟩:=P8 hf;obtain⟨⟨y,e2'⟩,h2,hf⟩:=P8 hf;obtain⟨z',h3,hf⟩:=P9 hf;cases hf;refine⟨F,e,x,e1,R,h1,λF1 H1 v X1 R1 A1=>⟨F1,e1,y,_,R1,h2,λF2 H2 u X2 R2 A2=>?_⟩⟩;have X12:=X1.trans X2;refine ho σ H F2 H2 _ x y _ v u Q R2 (A1.ext X2) (A2.weak X1.dom) h3 λF3 H3 w X3 R3 A3=>?_;exact q F3 H3 w (X12.trans X3) R3 (A3.weak X12.dom)
theorem tV{op:Operator}{r:R2}{g:En->Rv->Rv->Option Rv}(hr:kB X (Rz op) r)(ho:kz K r g)(ha:PE X a (fE K fa))(hb:PE X b (fE K fb)):PE X (.BinOp a op b pos) (fE K (ax g fa fb)):=(C8 hr ha hb).mono λ_ _ _ h=>r9 ho h
theorem IW{op:CmpOp}{r:R2}{g:En->Rv->Rv->Option Rv}(hr:kB X (SD op) r)(ho:kz K r g)(ha:PE X a (fE K fa))(hb:PE X b (fE K fb))(hm:Tj op b=false):PE X (.Compare a [op] [b] pos) (fE K (ax g fa fb)):=(zH hr ha hb hm).mono λ_ _ _ h=>r9 ho h
theorem Kw{r:R2}{g:En->Rv->Rv->Option Rv}(hr:Em X r)(ho:kz K r g)(ha:PE X a (fE K fa))(hb:PE X b (fE K fb))(hs:mE b):PE X (.Subscript a b pos) (fE K (ax g fa fb)):=(C7 hr ha hb hs).mono λ_ _ _ h=>r9 ho h
def um(g:En->Rv->Option Rv)(fa:FE):FE:=λe=>(fa e).bind λp=>(g p.2 p.1).map λz=>(z,p.2)
def JN(K:⇑0)(r:V->Hp->VK->Prop)(g:En->Rv->Option Rv):Prop:=∀(σ:L2.St) (H0 F H:Hp) (e:En) (x z:Rv) (v:V) (Q:VK),bc K F H σ e->cw K σ H0 F H e x v->g e x=some z->(∀F' H' w,fm σ F H e F' H' e->bc K F' H' σ e->cw K σ H F' H' e z w->Q w H')->r v H Q
theorem Eg{r:V->Hp->VK->Prop}{g:En->Rv->Option Rv}(ho:JN K r g){σ:L2.St}{H:Hp}{Q:VK}(h:fE K (um g fa) σ H Q):Ms r (fE K fa) σ H Q:=by obtain⟨F,e,z,e2,R,hf,q⟩:=h;unfold um at hf;obtain⟨⟨x,e1⟩,h1,hf⟩:=P8 hf;obtain⟨z',h3,hf⟩:=P9 hf;cases hf;refine⟨F,e,x,_,R,h1,λF1 H1 v X1 R1 A1=>?_⟩;refine ho σ H F1 H1 _ x _ v Q R1 A1 h3 λF3 H3 w X3 R3 A3=>?_;exact q F3 H3 w (X1.trans X3) R3 (A3.weak X1.dom)
theorem Kx{op:UnaryOp}{r:V->Hp->VK->Prop}{g:En->Rv->Option Rv}(hr:K' X (unaryOp op) r)(ho:JN K r g)(ha:PE X a (fE K fa)):PE X (.UnaryOp op a pos) (fE K (um g fa)):=(Ks hr ha).mono λ_ _ _ h=>Eg ho h
def eR:Rv->Option Bool|.d (.bool b)=>some b|_=>none
theorem Au{σ:L2.St}{H0 F H:Hp}{e:En}{r:Rv}{v:V}{b:Bool}(h:cw K σ H0 F H e r v)(q:eR r=some b):v=.bl b:=by
 unfold eR at q;split at q;·cases q;exact eV.mp (show DA K F (.bool _) v from h)
 ·cases q
theorem zR{σ:L2.St}{H0 F H:Hp}{e:En}{b:Bool}:cw K σ H0 F H e (.d (.bool b)) (.bl b):=(eV (K:=K) (F:=F)).mpr rfl
def aX(f:FE):FT:=λe=>(f e).bind λp=>(eR p.1).map λb=>(b,p.2)
theorem xT{σ:L2.St}{H:Hp}{Q:Bool->Hp->Prop}(h:fT K (aX fa) σ H Q):fE K fa σ H λx H'=>∃k,x=.bl k/\Q k H':=by obtain⟨F,e,b,e1,R,hf,q⟩:=h;unfold aX at hf;obtain⟨⟨x,e1'⟩,h1,hf⟩:=P8 hf;obtain⟨b',h3,hf⟩:=P9 hf;cases hf;exact⟨F,e,x,_,R,h1,λF1 H1 v X1 R1 A1=>⟨_,Au A1 h3,q F1 H1 X1 R1⟩⟩
theorem I0{op:CmpOp}{r:R2}{g:En->Rv->Rv->Option Rv}(hr:kB X (SD op) r)(ho:kz K r g)(ha:PE X a (fE K fa))(hb:PE X b (fE K fb))(hm:Tj op b=false):PT X (.Compare a [op] [b] pos) (fT K (aX (ax g fa fb))):=(Gc hr ha hb hm).mono λσ H Q h=>by obtain⟨F,e,z,e2,R,hf,q⟩:=xT h;exact r9 ho ⟨F,e,z,e2,R,hf,q⟩
theorem kc{e:Qh}(h:PE X e (fE K fa))(he:∀whole,isTrue e X.env whole=(do let v<-whole;RQ e.pos;Sn [v] (truthy v))):PT X e (fT K (aX fa)):=(IS h he).mono λ_ _ _ h=>xT h
def lV(f g:FT):FT:=λe=>(f e).bind λp=>if p.1=true then g p.2 else some (false,p.2)
def Am(f g:FT):FT:=λe=>(f e).bind λp=>if p.1=true then some (true,p.2) else g p.2
def nM(f:FT):FT:=λe=>(f e).map λp=>(!p.1,p.2)
theorem GP{σ:L2.St}{H:Hp}{Q:Bool->Hp->Prop}(h:fT K (lV ft fu) σ H Q):KR (fT K ft) (fT K fu) σ H Q:=by obtain⟨F,e,b,e1,R,hf,q⟩:=h;unfold lV at hf;obtain⟨⟨x,e1'⟩,h1,hf⟩:=P8 hf;refine⟨F,e,x,e1',R,h1,λF1 H1 X1 R1=>?_⟩;cases x with|true=>exact⟨F1,e1',b,e1,R1,hf,λF2 H2 X2 R2=>q F2 H2 (X1.trans X2) R2⟩|false=>cases hf;exact q F1 H1 X1 R1
theorem JA{σ:L2.St}{H:Hp}{Q:Bool->Hp->Prop}(h:fT K (Am ft fu) σ H Q):Mr (fT K ft) (fT K fu) σ H Q:=by obtain⟨F,e,b,e1,R,hf,q⟩:=h;unfold Am at hf;obtain⟨⟨x,e1'⟩,h1,hf⟩:=P8 hf;refine⟨F,e,x,e1',R,h1,λF1 H1 X1 R1=>?_⟩;cases x with|false=>exact⟨F1,e1',b,e1,R1,hf,λF2 H2 X2 R2=>q F2 H2 (X1.trans X2) R2⟩|true=>cases hf;exact q F1 H1 X1 R1
theorem GQ{σ:L2.St}{H:Hp}{Q:Bool->Hp->Prop}(h:fT K (nM ft) σ H Q):KY (fT K ft) σ H Q:=by obtain⟨F,e,b,e1,R,hf,q⟩:=h;unfold nM at hf;obtain⟨⟨x,e1'⟩,h1,hf⟩:=P9 hf;cases hf;exact⟨F,e,x,_,R,h1,λF1 H1 X1 R1=>q F1 H1 X1 R1⟩
variable{ic:List Qh}
theorem pX(ha:PT X a (fT K ft)):PW X (.BoolOp .And [a] pos) (fT K ft):=Ge ha
theorem yO(ha:PT X a (fT K ft)):PW X (.BoolOp .Or [a] pos) (fT K ft):=IU ha
theorem rH(ha:PT X a (fT K ft))(hb:PW X (.BoolOp .And (b::ic) pos) (fT K fu)):PW X (.BoolOp .And (a::b::ic) pos) (fT K (lV ft fu)):=(IT ha hb).mono λ_ _ _ h=>GP h
theorem Du(ha:PT X a (fT K ft))(hb:PW X (.BoolOp .Or (b::ic) pos) (fT K fu)):PW X (.BoolOp .Or (a::b::ic) pos) (fT K (Am ft fu)):=(Ku ha hb).mono λ_ _ _ h=>JA h
theorem yM(ha:PT X a (fT K ft)):PT X (.UnaryOp .Not a pos) (fT K (nM ft)):=(IR ha).mono λ_ _ _ h=>GQ h
theorem yN{e:Qh}(h:PW X e (fT K ft)):PT X e (fT K ft):=h.pt
def pC(f g:FE):FE:=λe=>(f e).bind λp=>(eR p.1).bind λb=>if b=true then g p.2 else some (.d (.bool false),p.2)
def xR(f g:FE):FE:=λe=>(f e).bind λp=>(eR p.1).bind λb=>if b=true then some (.d (.bool true),p.2) else g p.2
def pE(f:FE):FE:=λe=>(f e).bind λp=>(eR p.1).map λb=>(.d (.bool (!b)),p.2)
def Bs(t:FT)(f g:FE):FE:=λe=>(t e).bind λp=>if p.1=true then f p.2 else g p.2
theorem rE{c:Qh}(hc:PT X c (fT K ft))(ha:PE X a (fE K fa))(hb:PE X b (fE K fb)):PE X (.IfExp c a b pos) (fE K (Bs ft fa fb)):=(C5 hc ha hb).mono λσ H Q h=>by obtain⟨F,e,z,e2,R,hf,q⟩:=h;unfold Bs at hf;obtain⟨⟨x,e1⟩,h1,hf⟩:=P8 hf;refine⟨F,e,x,e1,R,h1,λF1 H1 X1 R1=>?_⟩;cases x with|true=>exact⟨F1,e1,z,e2,R1,hf,λF2 H2 w X2 R2 A2=>q F2 H2 w (X1.trans X2) R2 (A2.weak X1.dom)⟩|false=>exact⟨F1,e1,z,e2,R1,hf,λF2 H2 w X2 R2 A2=>q F2 H2 w (X1.trans X2) R2 (A2.weak X1.dom)⟩
def am:FA:=λe=>some ([],e)
def ac(fa:FE)(fs:FA):FA:=λe=>(fa e).bind λp=>(fs p.2).map λq=>(p.1::q.1,q.2)
theorem ae:PA X [] (fA K am):=g_.mono λσ H Q h=>by obtain⟨F,e,r,e',R,hf,q⟩:=h;cases hf;exact q F H [] (fm.refl _ _ _ _) R rfl
theorem LV(ha:PE X a (fE K fa))(hr:PA X es (fA K fs))(h:TY a=false):PA X (a::es) (fA K (ac fa fs)):=(FP ha hr h).mono λσ H Q h=>by obtain⟨F,e,z,e2,R,hf,q⟩:=h;unfold ac at hf;obtain⟨⟨x,e1⟩,h1,hf⟩:=P8 hf;obtain⟨⟨xs,e2'⟩,h2,hf⟩:=P9 hf;cases hf;refine⟨F,e,x,e1,R,h1,λF1 H1 v X1 R1 A1=>⟨F1,e1,xs,_,R1,h2,λF2 H2 vs X2 R2 A2=>?_⟩⟩;exact q F2 H2 (v::vs) (X1.trans X2) R2 ⟨v,vs,rfl,A1.ext X2,A2.weak X1.dom⟩
def bo(fs:FA):FE:=λe=>(fs e).bind λp=>(iB p.1).bind λds=>if ds.length<=1000 then some (.d (.tuple ds),p.2) else none
def cQ(fs:FA):FE:=λe=>(fs e).bind λp=>(iB p.1).bind λds=>if ds.length<=1000 then some (.l ds,p.2) else none
theorem aM{x1}(h:PA X es (fA K fs)):PE X (.Tuple es x1 pos) (fE K (bo fs)):=(IJ h).mono λσ H Q h=>by
 obtain⟨F,e,z,e2,R,hf,q⟩:=h;unfold bo at hf;obtain⟨⟨rs,e1⟩,h1,hf⟩:=P8 hf;obtain⟨ds,h2,hf⟩:=P8 hf;split at hf;case isFalse=>cases hf
 case isTrue hl=>cases hf;refine⟨F,e,rs,_,R,h1,λF1 H1 vs X1 R1 A1=>?_⟩;obtain⟨F2,R2,s2,d2,f2⟩:=cz.frozen R1 A1 h2;have hlen:=d2.len;refine⟨Tx (uc ↥0),λp hp=>?_⟩;obtain⟨R3,X3⟩:=R2.newT (vs:=vs) hp;exact q _ _ _ ((X1.frz s2 f2).trans X3) R3 (cC.mpr ⟨p,vs,rfl,.inl (.inl aw),aR.mono X3.sf d2⟩)
theorem bH(h:PA X es (fA K fs)):PE X (.List es pos) (fE K (cQ fs)):=(rA h).mono λσ H Q h=>by
 obtain⟨F,e,z,e2,R,hf,q⟩:=h;unfold cQ at hf;obtain⟨⟨rs,e1⟩,h1,hf⟩:=P8 hf;obtain⟨ds,h2,hf⟩:=P8 hf;split at hf;case isFalse=>cases hf
 case isTrue hl=>cases hf;refine⟨F,e,rs,_,R,h1,λF1 H1 vs X1 R1 A1=>?_⟩;obtain⟨F2,R2,s2,d2,f2⟩:=cz.frozen R1 A1 h2;have hlen:=d2.len;refine⟨Tx (uc ↥0),λp hp=>?_⟩;obtain⟨R3,X3,hF,no⟩:=R2.newL (vs:=vs) hp;exact q _ _ _ ((X1.frz s2 f2).trans X3) R3 ⟨p,vs,rfl,X1.dom p hp,hF,aw,d2,no⟩
def gb(K:⇑0)(r:List V->Hp->VK->Prop)(g:En->List Rv->Option Rv):Prop:=∀(σ:L2.St) (H0 F H:Hp) (e:En) (xs:List Rv) (z:Rv) (vs:List V) (Q:VK),bc K F H σ e->cz K σ H0 F H e xs vs->g e xs=some z->(∀F' H' w,fm σ F H e F' H' e->bc K F' H' σ e->cw K σ H F' H' e z w->Q w H')->r vs H Q
def aF(g:En->List Rv->Option Rv)(fs:FA):FE:=λe=>(fs e).bind λp=>(g p.2 p.1).map λz=>(z,p.2)
theorem xP{r:List V->Hp->VK->Prop}{g:En->List Rv->Option Rv}(ho:gb K r g){σ:L2.St}{H:Hp}{Q:VK}(h:fE K (aF g fs) σ H Q):L5 r (fA K fs) σ H Q:=by obtain⟨F,e,z,e2,R,hf,q⟩:=h;unfold aF at hf;obtain⟨⟨x,e1⟩,h1,hf⟩:=P8 hf;obtain⟨z',h3,hf⟩:=P9 hf;cases hf;refine⟨F,e,x,_,R,h1,λF1 H1 vs X1 R1 A1=>?_⟩;refine ho σ H F1 H1 _ x _ vs Q R1 A1 h3 λF3 H3 w X3 R3 A3=>?_;exact q F3 H3 w (X1.trans X3) R3 (A3.weak X1.dom)
theorem Dq{x:Str}{p pos:Pos}{id:String}{r:List V->Hp->VK->Prop}{g:En->List Rv->Option Rv}(hc:eA X (.builtin id) r)(ho:gb K r g)(hg:Gl X x)(hm:X.mg x=none)(hv:Sb x=some (.builtin id))(ha:PA X (a::es) (fA K fs))(hn:x≠"__name__")(hdb:(x==("__debug__":Str))=false)(he:Qq (a::es) X.env=(false,Qs a X.env)::Qq es X.env)(hpl:(QH pos (Qq es X.env)).any (·.1)=false):PE X (.Call (.Name x p) (a::es) [] pos) (fE K (aF g fs)):=(rq hc hg hm hv ha hn hdb he hpl).mono λ_ _ _ h=>xP ho h
theorem A_{x:Str}{p pos:Pos}{T:String}{r:List V->Hp->VK->Prop}{g:En->List Rv->Option Rv}(hc:eA X (.type T) r)(ho:gb K r g)(hg:Gl X x)(hm:X.mg x=none)(hv:Sb x=some (.type T))(ha:PA X (a::es) (fA K fs))(hn:x≠"__name__")(hdb:(x==("__debug__":Str))=false)(he:Qq (a::es) X.env=(false,Qs a X.env)::Qq es X.env)(hpl:(QH pos (Qq es X.env)).any (·.1)=false):PE X (.Call (.Name x p) (a::es) [] pos) (fE K (aF g fs)):=(oh hc hg hm hv ha hn hdb he hpl).mono λ_ _ _ h=>xP ho h
end
mutual
theorem DA.reads{X:Cx}{pins:List (Qe×Obj)}{σ:L2.St}{H:Hp}{s:Qf}(I:aJ X pins σ H s):∀{d:Qg}{v:V}{u:Qd},d.canLay0=true->DA X.K H d v->bC v u->∃as,Reads s.heap u d as|.none,_,_,_,q,r=>by simp only[DA]at q;subst q;cases r;exact⟨_,.none⟩|.bool b,_,_,_,q,r=>by simp only[DA]at q;subst q;cases r;exact⟨_,.bool b⟩|.int i,_,_,_,q,r=>by simp only[DA]at q;subst q;obtain⟨t,rfl⟩:=r;exact⟨_,.int i t⟩|.str x,_,_,_,q,r=>by simp only[DA]at q;subst q;obtain⟨t,rfl⟩:=r;exact⟨_,.str x t⟩|.tuple ds,_,_,c,q,r=>by simp only[DA]at q;obtain⟨a,xs,e,hs,rr⟩:=q;subst e;cases r;obtain⟨its,rv,⟨o,ho,hc,n,hd⟩,hz⟩:=I.tuple hs;obtain⟨as,q⟩:=aR.reads I (by simpa[RB]using c) rr rv;exact⟨_,.tuple ho hc hd q⟩|.list ds,_,_,c,q,r=>by simp only[DA]at q;obtain⟨a,xs,e,hs,rr⟩:=q;subst e;cases r;obtain⟨its,rv,ht,hz⟩:=I.list hs;obtain⟨o,ho,hc,n,hd⟩:=ht.isList;obtain⟨as,q⟩:=aR.reads I (by simpa[RB]using c) rr rv;exact⟨_,.list ho hc hd q⟩|.dict _,_,_,c,_,_=>by simp[RB]at c
theorem aR.reads{X:Cx}{pins:List (Qe×Obj)}{σ:L2.St}{H:Hp}{s:Qf}(I:aJ X pins σ H s):∀{ds:List Qg}{xs:List V}{us:List Qd},RZ ds=true->aR X.K H ds xs->a' xs us->∃as,ReadsAll s.heap us ds as|[],_,_,_,q,r=>by simp only[aR]at q;subst q;cases r;exact⟨_,.nil⟩|d::ds,_,_,c,q,r=>by simp only[aR]at q;simp only[RZ,QU]at c;obtain⟨x,rr,e,a,b⟩:=q;subst e;cases r with|cons p p'=>obtain⟨as,q1⟩:=DA.reads I c.1 a p;obtain⟨bs,q2⟩:=aR.reads I c.2 b p';exact⟨_,.cons q1 q2⟩
end
def l4(e:En):Rv->Option Qg|.d x=>some x|.l xs=>some (.list xs)|.s i=>match e[i]? with|some (some (.l xs))=>some (.list xs)|_=>none
theorem qt{K:⇑0}{σ:L2.St}{H0 F H:Hp}{e:En}{r:Rv}{v:V}{d:Qg}(R:bc K F H σ e)(h:cw K σ H0 F H e r v)(q:l4 e r=some d):DA K H d v:=by cases r with|d x=>cases q;exact DA.mono R.sm h|l xs=>cases q;obtain⟨l,vs,rfl,h1,h2,h3,h4,_⟩:=h;exact cB.mpr ⟨l,vs,rfl,.inl (.inl h3),aR.mono R.sm h4⟩|s i=>obtain⟨h1,ys,h2⟩:=h;simp only[l4,h2]at q;cases q;obtain⟨l,vs,e1,e2,e3,e4⟩:=R.own i _ h2;rw[h1]at e1;cases e1;exact cB.mpr ⟨l,vs,rfl,.inl (.inl e3),aR.mono R.sm e4⟩
section
variable{X:Cx}{K:⇑0}
def bL:Rv->Option Int|.d (.int i)=>some i|_=>none
theorem bS{σ:L2.St}{H0 F H:Hp}{e:En}{r:Rv}{v:V}{i:Int}(h:cw K σ H0 F H e r v)(q:bL r=some i):v=.int i:=by
 unfold bL at q;split at q;·cases q;exact bT.mp (show DA K F (.int _) v from h)
 ·cases q
theorem om{σ:L2.St}{H0 F H:Hp}{e:En}{i:Int}:cw K σ H0 F H e (.d (.int i)) (.int i):=(bT (K:=K) (F:=F)).mpr rfl
def gI(C:Int->Int->Bool)(f:Int->Int->Qg):En->Rv->Rv->Option Rv:=λ_ x y=>(bL x).bind λi=>(bL y).bind λj=>if C i j=true then some (.d (f i j)) else none
theorem xc{C:Int->Int->Prop}{c:Int->Int->Bool}{g:Int->Int->V}{f:Int->Int->Qg}(hc:∀i j,c i j=true->C i j)(hf:∀F i j,DA K F (f i j) (g i j)):kz K (rI C g) (gI c f):=by
 intro σ H0 F H e x y z v u Q R A B hg q;unfold gI at hg;obtain⟨i,h1,hg⟩:=P8 hg;obtain⟨j,h2,hg⟩:=P8 hg;split at hg;case isFalse=>cases hg
 case isTrue hh=>cases hg;exact⟨i,j,bS A h1,bS B h2,hc i j hh,q F H _ (fm.refl _ _ _ _) R (hf F i j)⟩
theorem mv{g:Int->Int->V}{f:Int->Int->Qg}(hf:∀F i j,DA K F (f i j) (g i j)):kz K (Ba g) (gI (λ_ _=>true) f):=by intro σ H0 F H e x y z v u Q R A B hg q;obtain⟨i,j,h1,h2,h3,h4⟩:=xc (K:=K) (C:=λ_ _=>True) (c:=λ_ _=>true) (g:=g) (f:=f) (λ_ _ _=>trivial) hf σ H0 F H e x y z v u Q R A B hg q;exact⟨i,j,h1,h2,h4⟩
def Ep(g g':En->Rv->Rv->Option Rv):En->Rv->Rv->Option Rv:=λe x y=>(g e x y).or (g' e x y)
theorem kz.or{r r':R2}{g g':En->Rv->Rv->Option Rv}(h:kz K r g)(h':kz K r' g'):kz K (λx y H Q=>r x y H Q\/r' x y H Q) (Ep g g'):=by intro σ H0 F H e x y z v u Q R A B hg q;unfold Ep at hg;cases e1:g e x y with|some w=>rw[e1]at hg;cases hg;exact .inl (h σ H0 F H e x y _ v u Q R A B e1 q)|none=>rw[e1]at hg;exact .inr (h' σ H0 F H e x y _ v u Q R A B hg q)
def B9:=gI (λ_ _=>true) λi j=>.int (i+j)
def kW:=gI (λ_ _=>true) λi j=>.int (i-j)
def kg(i:Int):Bool:=decide (-(2^64)<i)&&decide (i<2^64)
def JT(n:Nat)(i:Int):Bool:=decide (i.natAbs<2^n)
theorem jW{n:Nat}{i:Int}:JT n i=true↔Bt n i:=by unfold JT Bt;exact decide_eq_true_iff
def mq(i j:Int):Bool:=kg i||kg j||(JT 4000 i&&JT 4000 j)
def wq:=gI mq λi j=>.int (i*j)
def dj:=gI (λ_ j=>j !=0&&JT 8000 j) λi j=>.int (i.fdiv j)
def be:=gI (λ_ j=>j !=0) λi j=>.int (i.fmod j)
def Dg(i j:Int):Bool:=decide (0<=j)&&decide (j<=1000000)&&kg i
def yk:=gI Dg λi j=>.int (i^j.toNat)
theorem my{i:Int}(h:kg i=true):-(2^64)<i/\i<2^64:=by unfold kg at h;rw[QU,decide_eq_true_iff,decide_eq_true_iff]at h;exact h
theorem Ga{i j:Int}(h:Dg i j=true):Hv i j:=by unfold Dg at h;rw[QU,QU,decide_eq_true_iff,decide_eq_true_iff]at h;have:=my h.2;exact⟨h.1.1,h.1.2,by lia⟩
def y6(i j:Int):Prop:=Ex i j\/GX i j
theorem FK:kB X (Rz .Mult) (rI y6 λi j=>.int (i*j)):=by
 intro pins s σ H x y v u Q I rx ry h;obtain⟨i,j,e1,e2,h1,q⟩:=h;rcases h1 with h1|h1;·exact IC pins s σ H x y v u Q I rx ry ⟨i,j,e1,e2,h1,q⟩
 ·exact FL pins s σ H x y v u Q I rx ry ⟨i,j,e1,e2,h1,q⟩
theorem Fs{i j:Int}(h:mq i j=true):y6 i j:=by
 unfold mq at h;rw[Bool.or_eq_true,Bool.or_eq_true,QU]at h;rcases h with (h|h)|h;·exact .inl (.inl (my h))
 ·exact .inl (.inr (my h))
 ·exact .inr ⟨jW.mp h.1,jW.mp h.2⟩
theorem Io:kz K (rI y6 λi j=>.int (i*j)) wq:=xc (λ_ _ h=>Fs h) λ_ _ _=>bT.mpr rfl
theorem KO:kz K (Ba λi j=>.int (i-j)) kW:=mv λ_ _ _=>bT.mpr rfl
theorem HP:kz K (rI GW λi j=>.int (i.fdiv j)) dj:=xc (λi j h=>by rw[QU]at h;exact⟨by simpa using h.1,jW.mp h.2⟩) λ_ _ _=>bT.mpr rfl
theorem Ki:kz K (rI (λ_ j=>j≠0) λi j=>.int (i.fmod j)) be:=xc (λi j h=>by simpa using h) λ_ _ _=>bT.mpr rfl
theorem Kt:kz K (rI Hv λi j=>.int (i^j.toNat)) yk:=xc (λ_ _ h=>Ga h) λ_ _ _=>bT.mpr rfl
def wk:En->Rv->Rv->Option Rv:=λe x y=>match gL e x,gL e y with|some (false,xs),some (false,ys)=>if xs.length+ys.length<=1000000 then some (.d (.tuple (xs++ys))) else none|_,_=>none
theorem HH:kz K (Dv K) wk:=by intro σ H0 F H e x y z v u Q R A B hg q;unfold wk at hg;match h1:gL e x,h2:gL e y,hg with
 |some (false,xs),some (false,ys),hg=>
  obtain⟨p,vs,rfl,d1,s1⟩:=f_ R A h1;obtain⟨p',us,rfl,d2,s2⟩:=f_ R B h2;dsimp only at hg;split at hg;case isFalse=>cases hg
  case isTrue hl=>cases hg;have l1:=d1.len;have l2:=d2.len;have sl:Qv=16777216:=Rm;refine⟨p,p',vs,us,rfl,rfl,s1,s2,by lia,λt H' sm hT=>?_⟩;obtain⟨F',R',X',hF⟩:=R.growT sm hT;exact q F' H' _ X' R' (cC.mpr ⟨t,_,rfl,hF,(d1.append d2).mono X'.sf⟩)
def AX(e:En):Rv->Option (List Qg)
 |.l xs=>some xs|.s i=>match e[i]? with|some (some (.l xs))=>some xs|_=>none
 |_=>none
theorem uZ{σ:L2.St}{H0 F H:Hp}{e:En}{r:Rv}{v:V}(R:bc K F H σ e)(h:cw K σ H0 F H e r v){xs:List Qg}(q:AX e r=some xs):∃p vs,v=.ref p/\F p=none/\H p=some (.lst vs)/\aR K F xs vs:=by cases r with|d x=>cases q|l ys=>cases q;obtain⟨l,vs,e1,h1,h2,h3,h4,_⟩:=h;exact⟨l,vs,e1,h2,h3,h4⟩|s i=>obtain⟨h1,ys,h2⟩:=h;simp only[AX,h2]at q;cases q;obtain⟨l,vs,e1,e2,e3,e4⟩:=R.own i _ h2;rw[h1]at e1;cases e1;exact⟨l,vs,rfl,e2,e3,e4⟩
def zq:En->Rv->Rv->Option Rv:=λe x y=>(AX e x).bind λxs=>(AX e y).bind λys=>if xs.length+ys.length<=1000000 then some (.l (xs++ys)) else none
theorem HG:kz K Gk zq:=by
 intro σ H0 F H e x y z v u Q R A B hg q;unfold zq at hg;obtain⟨xs,h1,hg⟩:=P8 hg;obtain⟨ys,h2,hg⟩:=P8 hg;split at hg;case isFalse=>cases hg
 case isTrue hl=>cases hg;obtain⟨p,vs,rfl,f1,s1,d1⟩:=uZ R A h1;obtain⟨p',us,rfl,f2,s2,d2⟩:=uZ R B h2;have l1:=d1.len;have l2:=d2.len;have sl:Qv=16777216:=Rm;refine⟨p,p',vs,us,rfl,rfl,s1,s2,by lia,λt ht=>?_⟩;obtain⟨R3,X3,hF,no⟩:=R.newL (vs:=vs++us) ht;exact q _ _ _ X3 R3 ⟨t,_,rfl,ht,hF,aw,d1.append d2,no⟩
def bF:En->Rv->Rv->Option Rv:=Ep B9 (Ep wk zq)
def Hl(K:⇑0):R2:=λx y H Q=>Ba (λi j=>.int (i+j)) x y H Q\/(Dv K x y H Q\/Gk x y H Q)
theorem FC:kB X (Rz .Add) (Hl X.K):=CY.or (FD.or CZ)
theorem JP:kz K (Hl K) bF:=kz.or (mv λ_ _ _=>bT.mpr rfl) (kz.or HH HG)
def wx:En->Rv->Rv->Option Rv:=λe x y=>match gL e x,bL y with|some (false,[d]),some k=>if 0<=k/\k<=100000 then some (.d (.tuple (Qu k.toNat d))) else none|_,_=>none
theorem aR.rep{F:Hp}{d:Qg}{v:V}(h:DA K F d v):∀n,aR K F (Qu n d) (Qu n v)|0=>aR.nil|n+1=>aR.cons h (aR.rep h n)
theorem Jd:kz K (Dx K) wx:=by intro σ H0 F H e x y z v u Q R A B hg q;unfold wx at hg;match h1:gL e x,h2:bL y,hg with
 |some (false,[d]),some k,hg=>
  obtain⟨p,vs,rfl,d1,s1⟩:=f_ R A h1;dsimp only at hg;split at hg;case isFalse=>cases hg
  case isTrue hl=>cases hg;have hd:=d1;simp only[aR]at hd;obtain⟨w,r,e1,hw,e2⟩:=hd;subst e2 e1;refine⟨p,k,w,rfl,bS B h2,s1,hl.1,hl.2,λt H' sm hT=>?_⟩;obtain⟨F',R',X',hF⟩:=R.growT sm hT;exact q F' H' _ X' R' (cC.mpr ⟨t,_,rfl,hF,(aR.rep hw _).mono X'.sf⟩)
def Cg:En->Rv->Rv->Option Rv:=λe x y=>(AX e x).bind λxs=>(bL y).bind λk=>if-100000<=k/\k<=100000/\xs.length*k.toNat<=1000000 then some (.l (Qu k.toNat xs).flatten) else none
theorem aR.reps{F:Hp}{ds:List Qg}{vs:List V}(h:aR K F ds vs):∀n,aR K F (Qu n ds).flatten (Qu n vs).flatten|0=>aR.nil|n+1=>by simpa[Tp]using aR.append h (aR.reps h n)
theorem Jc:kz K Ja Cg:=by
 intro σ H0 F H e x y z v u Q R A B hg q;unfold Cg at hg;obtain⟨xs,h1,hg⟩:=P8 hg;obtain⟨k,h2,hg⟩:=P8 hg;split at hg;case isFalse=>cases hg
 case isTrue hl=>cases hg;obtain⟨p,vs,rfl,f1,s1,d1⟩:=uZ R A h1;have l1:=d1.len;have sl:Qv=16777216:=Rm;refine⟨p,k,vs,rfl,bS B h2,s1,by lia,by lia,by rw[<-l1];lia,λt ht=>?_⟩;obtain⟨R3,X3,hF,no⟩:=R.newL (vs:=(Qu k.toNat vs).flatten) ht;exact q _ _ _ X3 R3 ⟨t,_,rfl,ht,hF,aw,aR.reps d1 _,no⟩
def dz:En->Rv->Rv->Option Rv:=Ep wq (Ep wx Cg)
def Hm(K:⇑0):R2:=λx y H Q=>rI y6 (λi j=>.int (i*j)) x y H Q\/(Dx K x y H Q\/Ja x y H Q)
theorem FJ:kB X (Rz .Mult) (Hm X.K):=FK.or (FN.or IF)
theorem Kj:kz K (Hm K) dz:=kz.or Io (kz.or Jd Jc)
def Cd:=gI (λ_ _=>true) λi j=>.bool (decide (i<j))
def MG:=gI (λ_ _=>true) λi j=>.bool (decide (i<=j))
def Ca:=gI (λ_ _=>true) λi j=>.bool (decide (j<i))
def EW:=gI (λ_ _=>true) λi j=>.bool (decide (j<=i))
theorem LQ:kz K (Ba λi j=>.bl (decide (i<j))) Cd:=mv λ_ _ _=>eV.mpr rfl
theorem LF:kz K (Ba λi j=>.bl (decide (j<i))) Ca:=mv λ_ _ _=>eV.mpr rfl
theorem LD:kz K (Ba λi j=>.bl (decide (j<=i))) EW:=mv λ_ _ _=>eV.mpr rfl
def Gm(K:⇑0)(neg:Bool):R2:=λx y H Q=>∃a b,DA K H a x/\DA K H b y/\Ru a=true/\Ru b=true/\Q (.bl (if neg then !PyData.eqv a b else RU a b)) H
theorem C0{k:Nat}(hr:dt k X.A):kB X (SD .Eq) (Gm X.K false):=by intro pins s σ H x y v u Q I rx ry h;obtain⟨a,b,ha,hb,s1,s2,q⟩:=h;obtain⟨as,ra⟩:=DA.reads I (Vb s1) ha rx;obtain⟨bs,rb⟩:=DA.reads I (Vb s2) hb ry;exact SeqAt.compareEq_shaped ra rb s1 s2 hr.units ⟨.bl _,H,I,rfl,q⟩
theorem ID{k:Nat}(hr:dt k X.A):kB X (SD .NotEq) (Gm X.K true):=by intro pins s σ H x y v u Q I rx ry h;obtain⟨a,b,ha,hb,s1,s2,q⟩:=h;obtain⟨as,ra⟩:=DA.reads I (Vb s1) ha rx;obtain⟨bs,rb⟩:=DA.reads I (Vb s2) hb ry;exact SeqAt.compareNe_shaped ra rb s1 s2 hr.units ⟨.bl _,H,I,rfl,q⟩
def eh(neg:Bool):En->Rv->Rv->Option Rv:=λe x y=>(l4 e x).bind λa=>(l4 e y).bind λb=>if (Ru a&&Ru b)=true then some (.d (.bool (if neg then !PyData.eqv a b else RU a b))) else none
theorem G'{neg:Bool}:kz K (Gm K neg) (eh neg):=by
 intro σ H0 F H e x y z v u Q R A B hg q;unfold eh at hg;obtain⟨a,h1,hg⟩:=P8 hg;obtain⟨b,h2,hg⟩:=P8 hg;split at hg;case isFalse=>cases hg
 case isTrue hl=>cases hg;rw[QU]at hl;exact⟨a,b,qt R A h1,qt R B h2,hl.1,hl.2,q F H _ (fm.refl _ _ _ _) R zR⟩
def Kz(K:⇑0)(neg:Bool):R2:=λx y H Q=>∃a xs,DA K H a x/\(DA K H (.list xs) y\/DA K H (.tuple xs) y)/\a.canLay0=true/\a.depth<=60/\RZ xs=true/\Q (.bl (if neg then !(xs.any λy=>RU y a) else xs.any λy=>RU y a)) H
theorem IB{k:Nat}(hr:dt k X.A):kB X (SD .In) (Kz X.K false):=by
 intro pins s σ H x y v u Q I rx ry h;obtain⟨a,xs,ha,hb,s1,s2,s3,q⟩:=h;obtain⟨as,ra⟩:=DA.reads I s1 ha rx;have hu:=hr.units;rcases hb with hb|hb;·obtain⟨bs,rb⟩:=DA.reads I (by simpa[RB]using s3) hb ry;exact PySem.SeqAt.in_list_reads rb ra s3 s1 ↥0 ⟨.bl _,H,I,rfl,q⟩
 ·obtain⟨bs,rb⟩:=DA.reads I (by simpa[RB]using s3) hb ry;exact PySem.SeqAt.in_tuple_reads rb ra s3 s1 ↥0 ⟨.bl _,H,I,rfl,q⟩
def Cc(neg:Bool):En->Rv->Rv->Option Rv:=λe x y=>(l4 e x).bind λa=>(gL e y).bind λp=>if (a.canLay0&&decide (a.depth<=60)&&RZ p.2)=true then some (.d (.bool (if neg then !(p.2.any λy=>RU y a) else p.2.any λy=>RU y a))) else none
theorem LK{neg:Bool}:kz K (Kz K neg) (Cc neg):=by
 intro σ H0 F H e x y z v u Q R A B hg q;unfold Cc at hg;obtain⟨a,h1,hg⟩:=P8 hg;obtain⟨⟨b,xs⟩,h2,hg⟩:=P8 hg;split at hg;case isFalse=>cases hg
 case isTrue hl=>cases hg;rw[QU,QU,decide_eq_true_iff]at hl;obtain⟨p,vs,rfl,d1,s1⟩:=f_ R B h2;refine⟨a,xs,qt R A h1,?_,hl.1.1,hl.1.2,hl.2,q F H _ (fm.refl _ _ _ _) R zR⟩;cases b with|true=>exact .inl (cB.mpr ⟨p,vs,rfl,s1,d1.mono R.sm⟩)|false=>exact .inr (cC.mpr ⟨p,vs,rfl,s1,d1.mono R.sm⟩)
def ba:En->Rv->Rv->Option Rv:=λe x y=>(gL e x).bind λp=>(bL y).bind λi=>(atI p.2 i).map .d
def KA(K:⇑0):R2:=λx y H Q=>I_ K x y H Q\/KB K x y H Q
theorem LN:Em X (KA X.K):=zz.or HW
theorem aR.atI{F:Hp}{ds:List Qg}{vs:List V}(h:aR K F ds vs){i:Int}{d:Qg}(q:atI ds i=some d):∃v,L2.atI vs i=some v/\DA K F d v:=by unfold L2.atI at q⊢;obtain⟨j,h1,h2⟩:=P8 q;obtain⟨v,h3,h4⟩:=h.get h2;exact⟨v,by rw[<-h.len,h1];exact h3,h4⟩
theorem LO:kz K (KA K) ba:=by intro σ H0 F H e x y z v u Q R A B hg q;unfold ba at hg;obtain⟨⟨b,xs⟩,h1,hg⟩:=P8 hg;obtain⟨i,h2,hg⟩:=P8 hg;obtain⟨d,h3,hg⟩:=P9 hg;cases hg;obtain⟨p,vs,rfl,d1,s1⟩:=f_ R A h1;obtain⟨w,h4,h5⟩:=d1.atI h3;have fin:=q F H w (fm.refl _ _ _ _) R h5;cases b with|true=>exact .inl ⟨p,vs,i,w,rfl,bS B h2,s1,h4,fin⟩|false=>exact .inr ⟨p,vs,i,w,rfl,bS B h2,s1,h4,fin⟩
end
end L2
namespace HT
open PySem PySem.Spec PyProof.Rows
section
variable{prog:Qn}{w:Qk}{A:Qr}{E:Qd->Qf->Prop}{s:Qf}
theorem getItem_tuple_all{t sl:Qe}{items:Array Qd}{vl vu:Qd}{lo hi:Option Int}{Q:Qd->Qf->Prop}(ht:IsTup s.heap t items)(hs:s.heap.IsSliceOf sl vl vu .none)(pl:IsPart vl lo)(pu:IsPart vu hi)(hw:sIx items.size 0 lo=0/\sIx items.size items.size hi=items.size)(h:Q (.ref t) s):Qj (Ql prog w) A (SN (.ref t) (.ref sl)) Q E s:=by
 obtain⟨os,hos,hcs,hds⟩:=id hs;have hTs:s.TypeIs (.ref sl) "slice":=⟨os,hos,hcs⟩;unfold SN;try with_reducible refine SL ?_
 first|refine Qi (Qp ?_)|skip
 refine Qi (wpAny_sequenceKey ht.typeIs ⋯ ?_);refine Qi (TB (name:=Rj "__getitem__") ht.typeIs TC (Td TC ht.typeIs entry_tuple_getitem ?_ (args_tuple_getitem _ _)));show Qj _ _ (VT (.ref t)>>=_) _ _ s;refine Qi (tupleItemsOf_ ht ?_);refine Qi (Uu hTs ?_);rw[if_pos ⋯];refine Qi (jP hs pl pu ?_);have hno:(((sIx items.size 0 lo:Nat):Int)==0&&(1:Int)==1&&(sIx items.size items.size hi-sIx items.size 0 lo)==items.size)=true:=by rw[hw.1,hw.2];simp
 show Qj _ _ (if (((sIx items.size 0 lo:Nat):Int)==0&&(1:Int)==1&&(sIx items.size items.size hi-sIx items.size 0 lo)==items.size)=true then _ else _) _ _ s;rw[if_pos hno];unfold Builtin.Tuple.tupleIsExact;refine Qi (Qi (Uu ht.typeIs (Qp ?_)));rw[if_pos ⋯];exact Qi (Ta (Qp ⟨_,rfl,Qp h⟩))
end
end HT
namespace L2
open PySem PySem.Spec PyProof.Rows
section
variable{X:Cx}{K:⇑0}{a:Qh}{fa:FE}{lo hi:Option Qh}{pos p2:Pos}
def cutD(xs:List Qg)(lo hi:Option Int):List Qg:=(xs.drop (HT.sIx xs.length 0 lo)).take (HT.sIx xs.length xs.length hi-HT.sIx xs.length 0 lo)
def KH(K:⇑0):V->Option Int->Option Int->Hp->VK->Prop:=λx lo hi H Q=>∃a xs,x=.ref a/\eO K H a xs/\(HT.sIx xs.length 0 lo=0/\HT.sIx xs.length xs.length hi=xs.length)/\Q (.ref a) H
theorem Gy:EB X (KH X.K):=by
 intro pins s σ H x v vl vu lo hi sl Q I rx hs pl pu h;obtain⟨a,xs,rfl,hx,hw,q⟩:=h;cases rx;obtain⟨its,r,ht,hz⟩:=I.tuple hx;have hlen:its.toArray.size=xs.length:=by rw[QN];exact r.length.symm
 refine⟨"tuple",_,TC.lookup,ht.typeIs,?_⟩;exact HT.getItem_tuple_all ht hs pl pu (by rw[hlen];exact hw) ⟨.ref a,H,I,rfl,q⟩
def LY(K:⇑0):V->Option Int->Option Int->Hp->VK->Prop:=λx lo hi H Q=>KG K x lo hi H Q\/(KH K x lo hi H Q\/KD K x lo hi H Q)
theorem L0:EB X (LY X.K):=Jm.or (Gy.or Gx)
abbrev FO:=En->Option (Option Int×En)
def fO(K:⇑0)(f:FO):TO:=λσ H Q=>∃F e o e',bc K F H σ e/\f e=some (o,e')/\∀F' H',fm σ F H e F' H' e'->bc K F' H' σ e'->Q o H'
theorem PO.mono{e:Option Qh}{t t':TO}(h:PO X e t)(m:∀σ H Q,t' σ H Q->t σ H Q):PO X e t':=λpins s σ H Q I q=>h pins s σ H Q I (m σ H Q q)
def fD:FO:=λe=>some (none,e)
def fg(f:FE):FO:=λe=>(f e).bind λp=>(bL p.1).map λi=>(some i,p.2)
theorem jb:PO X none (fO K fD):=FZ.mono λσ H Q h=>by obtain⟨F,e,o,e',R,hf,q⟩:=h;cases hf;exact q F H (fm.refl _ _ _ _) R
theorem jc(h:PE X a (fE K fa)):PO X (some a) (fO K (fg fa)):=(F8 h).mono λσ H Q h=>by obtain⟨F,e,o,e',R,hf,q⟩:=h;unfold fg at hf;obtain⟨⟨x,e1⟩,h1,hf⟩:=P8 hf;obtain⟨i,h2,hf⟩:=P9 hf;cases hf;exact⟨F,e,x,_,R,h1,λF1 H1 v X1 R1 A1=>⟨i,bS A1 h2,q F1 H1 X1 R1⟩⟩
def LB(e:En)(x:Rv)(lo hi:Option Int):Option Rv:=(gL e x).map λp=>if p.1=true then .l (cutD p.2 lo hi) else .d (.tuple (cutD p.2 lo hi))
def uk(fa:FE)(fl fh:FO):FE:=λe=>(fa e).bind λp=>(fl p.2).bind λl=>(fh l.2).bind λh=>(LB h.2 p.1 l.1 h.1).map λz=>(z,h.2)
theorem BY{F:Hp}{ds:List Qg}{vs:List V}(h:aR K F ds vs)(lo hi:Option Int):aR K F (cutD ds lo hi) (sD vs lo hi):=by unfold cutD sD;rw[h.len];exact(h.drop _).take _
theorem EI{α:Type}{xs:List α}{lo hi:Option Int}(h:HT.sIx xs.length 0 lo=0/\HT.sIx xs.length xs.length hi=xs.length):(xs.drop (HT.sIx xs.length 0 lo)).take (HT.sIx xs.length xs.length hi-HT.sIx xs.length 0 lo)=xs:=by rw[h.1,h.2];simp
theorem Dr{fl fh:FO}(he:PE X a (fE X.K fa))(hl:PO X lo (fO X.K fl))(hh:PO X hi (fO X.K fh)):PE X (.Subscript a (.Slice lo hi none p2) pos) (fE X.K (uk fa fl fh)):=(C9 L0 he hl hh).mono λσ H Q h=>by obtain⟨F,e,z,e',R,hf,q⟩:=h;unfold uk at hf;obtain⟨⟨x,e1⟩,h1,hf⟩:=P8 hf;obtain⟨⟨l,e2⟩,h2,hf⟩:=P8 hf;obtain⟨⟨u,e3⟩,h3,hf⟩:=P8 hf;obtain⟨z',h4,hf⟩:=P9 hf;cases hf;refine⟨F,e,x,e1,R,h1,λF1 H1 v X1 R1 A1=>⟨F1,e1,l,e2,R1,h2,λF2 H2 X2 R2=>⟨F2,e2,u,_,R2,h3,λF3 H3 X3 R3=>?_⟩⟩⟩;have X12:=X1.trans X2;have X13:=X12.trans X3;have A3:=(A1.ext X2).ext X3;unfold LB at h4;obtain⟨⟨b,xs⟩,h5,h4⟩:=P9 h4;obtain⟨p,vs,rfl,d1,s1⟩:=f_ R3 A3 h5;cases b with|true=>rw[if_pos rfl]at h4;cases h4;refine .inr (.inr ⟨p,vs,rfl,s1,λt ht=>?_⟩);obtain⟨R4,X4,hF,no⟩:=R3.newL (vs:=sD vs l u) ht;exact q _ _ _ (X13.trans X4) R4 ⟨t,_,rfl,X13.dom _ ht,hF,aw,BY d1 l u,no⟩|false=>
 rw[if_neg ↥1]at h4;cases h4;by_cases hw:HT.sIx vs.length 0 l=0/\HT.sIx vs.length vs.length u=vs.length
 ·refine .inr (.inl ⟨p,vs,rfl,s1,hw,?_⟩);have e5:cutD xs l u=xs:=by unfold cutD;exact EI (by rw[d1.len];exact hw)
  rw[e5]at q;obtain⟨F4,R4,X4,hF⟩:=R3.growT (aG.refl _) s1;exact q _ _ _ (X13.trans X4) R4 (cC.mpr ⟨p,vs,rfl,hF,d1.mono X4.sf⟩)
 ·refine .inl ⟨p,vs,rfl,s1,hw,λt ht=>?_⟩;obtain⟨R4,X4⟩:=R3.newT (vs:=sD vs l u) ht;exact q _ _ _ (X13.trans X4) R4 (cC.mpr ⟨t,_,rfl,.inl (.inl aw),(BY d1 l u).mono X4.sf⟩)
end
section
variable{X:Cx}{K:⇑0}
theorem pY{σ:L2.St}{H0 F H:Hp}{e:En}{x:Rv}{vs:List V}(h:cz K σ H0 F H e [x] vs):∃v,vs=[v]/\cw K σ H0 F H e x v:=by obtain⟨v,ws,rfl,h1,h2⟩:=h;have h2':ws=[]:=h2;subst h2';exact⟨v,rfl,h1⟩
theorem ni{σ:L2.St}{H0 F H:Hp}{e:En}{x y:Rv}{vs:List V}(h:cz K σ H0 F H e [x,y] vs):∃v u,vs=[v,u]/\cw K σ H0 F H e x v/\cw K σ H0 F H e y u:=by obtain⟨v,ws,rfl,h1,h2⟩:=h;obtain⟨u,rfl,h3⟩:=pY h2;exact⟨v,u,rfl,h1,h3⟩
def g1(g:En->Rv->Option Rv):En->List Rv->Option Rv:=λe xs=>match xs with|[x]=>g e x|_=>none
def g2(g:En->Rv->Rv->Option Rv):En->List Rv->Option Rv:=λe xs=>match xs with|[x,y]=>g e x y|_=>none
theorem jY{r:List V->Hp->VK->Prop}{g:En->Rv->Option Rv}(h:JN K (λv H Q=>r [v] H Q) g):gb K r (g1 g):=by intro σ H0 F H e xs z vs Q R A hg q;unfold g1 at hg;match xs,hg with|[x],hg=>obtain⟨v,rfl,h1⟩:=pY A;exact h σ H0 F H e x z v Q R h1 hg q
theorem zi{r:List V->Hp->VK->Prop}{g:En->Rv->Rv->Option Rv}(h:kz K (λv u H Q=>r [v,u] H Q) g):gb K r (g2 g):=by intro σ H0 F H e xs z vs Q R A hg q;unfold g2 at hg;match xs,hg with|[x,y],hg=>obtain⟨v,u,rfl,h1,h2⟩:=ni A;exact h σ H0 F H e x y z v u Q R h1 h2 hg q
def ce:En->Rv->Option Rv:=λe x=>(gL e x).map λp=>.d (.int p.2.length)
theorem Kc:gb K (λxs H Q=>∃p ys,xs=[.ref p]/\(jR K H p ys\/eO K H p ys)/\Q (.int ys.length) H) (g1 ce):=jY λσ H0 F H e x z v Q R A hg q=>by
 obtain⟨⟨b,xs⟩,h5,h4⟩:=P9 hg;obtain⟨p,vs,rfl,d1,s1⟩:=f_ R A h5;cases h4;refine⟨p,vs,rfl,?_,?_⟩;·cases b with|true=>exact .inl s1|false=>exact .inr s1
 ·rw[<-d1.len];exact q F H _ (fm.refl _ _ _ _) R om
def yj:En->Rv->Option Rv:=λ_ x=>(bL x).map λi=>.d (.int (if i<0 then-i else i))
theorem JO:gb K (λxs H Q=>∃i,xs=[.int i]/\Q (.int (if i<0 then-i else i)) H) (g1 yj):=jY λσ H0 F H e x z v Q R A hg q=>by obtain⟨i,h5,h4⟩:=P9 hg;cases h4;exact⟨i,by rw[bS A h5],q F H _ (fm.refl _ _ _ _) R om⟩
def mR:En->Rv->Option Rv:=λ_ x=>match x with|.d (.int i)=>some (.d (.int i))|.d (.bool k)=>some (.d (.int (if k then 1 else 0)))|_=>none
theorem J4:gb K (λxs H Q=>(∃i,xs=[.int i]/\Q (.int i) H)\/∃k,xs=[.bl k]/\Q (.int (if k then 1 else 0)) H) (g1 mR):=jY λσ H0 F H e x z v Q R A hg q=>by
 unfold mR at hg;split at hg;·cases hg;exact .inl ⟨_,by rw[bT.mp (show DA K F (.int _) v from A)],q F H _ (fm.refl _ _ _ _) R om⟩
 ·cases hg;exact .inr ⟨_,by rw[eV.mp (show DA K F (.bool _) v from A)],q F H _ (fm.refl _ _ _ _) R om⟩
 ·cases hg
def Ce:=gI (λ_ _=>true) λi j=>.int (if j<i then j else i)
def wo:=gI (λ_ _=>true) λi j=>.int (if j>i then j else i)
theorem Kh:gb K (λxs H Q=>∃i j,xs=[.int i,.int j]/\Q (.int (if j<i then j else i)) H) (g2 Ce):=zi λσ H0 F H e x y z v u Q R A B hg q=>by obtain⟨i,j,h1,h2,h3⟩:=mv (K:=K) (g:=λi j=>.int (if j<i then j else i)) (λ_ _ _=>bT.mpr rfl) σ H0 F H e x y z v u Q R A B hg q;exact⟨i,j,by rw[h1,h2],h3⟩
theorem Kg:gb K (λxs H Q=>∃i j,xs=[.int i,.int j]/\Q (.int (if j>i then j else i)) H) (g2 wo):=zi λσ H0 F H e x y z v u Q R A B hg q=>by obtain⟨i,j,h1,h2,h3⟩:=mv (K:=K) (g:=λi j=>.int (if j>i then j else i)) (λ_ _ _=>bT.mpr rfl) σ H0 F H e x y z v u Q R A B hg q;exact⟨i,j,by rw[h1,h2],h3⟩
def bf:En->Rv->Option Rv:=λe x=>(gL e x).map λp=>.d (.tuple p.2)
theorem GN:gb K (λxs H Q=>∃p ys,xs=[.ref p]/\((jR K H p ys/\∀l,H l=none->Q (.ref l) (bz H l (.tup ys)))\/(eO K H p ys/\Q (.ref p) H))) (g1 bf):=jY λσ H0 F H e x z v Q R A hg q=>by obtain⟨⟨b,xs⟩,h5,h4⟩:=P9 hg;obtain⟨p,vs,rfl,d1,s1⟩:=f_ R A h5;cases h4;refine⟨p,vs,rfl,?_⟩;cases b with|true=>refine .inl ⟨s1,λt ht=>?_⟩;obtain⟨R4,X4⟩:=R.newT (vs:=vs) ht;exact q _ _ _ X4 R4 (cC.mpr ⟨t,_,rfl,.inl (.inl aw),d1.mono X4.sf⟩)|false=>obtain⟨F4,R4,X4,hF⟩:=R.growT (aG.refl _) s1;exact .inr ⟨s1,q _ _ _ X4 R4 (cC.mpr ⟨p,vs,rfl,hF,d1.mono X4.sf⟩)⟩
def tO:List Qg->Option (List Int)|[]=>some []|.int i::r=>(tO r).map (i::·)|_=>none
theorem qH:∀{ds:List Qg}{ns:List Int},tO ds=some ns->ds=ns.map .int|[],_,h=>by cases h;rfl|.int i::r,_,h=>by obtain⟨ns,h1,rfl⟩:=P9 h;rw[qH h1];rfl
theorem nW:∀(ns:List Int),tO (ns.map .int)=some ns|[]=>rfl|i::r=>by simp[tO,nW r]
def oY(g:List Qg->Option Qg):En->Rv->Option Rv:=λe x=>match gL e x with|some (true,xs)=>(g xs).map .d|_=>none
theorem Jl{r:List V->Hp->VK->Prop}{g:List Qg->Option Qg}(h:∀(F H:Hp) (p:Qe) (xs:List Qg) (vs:List V) (d:Qg) (Q:VK),aR K F xs vs->jR K H p vs->g xs=some d->(∀v,(∀F,DA K F d v)->Q v H)->r [.ref p] H Q):gb K r (g1 (oY g)):=jY λσ H0 F H e x z v Q R A hg q=>by
 unfold oY at hg;split at hg;case h_2=>cases hg
 case h_1 xs h5=>obtain⟨p,vs,rfl,d1,s1⟩:=f_ R A h5;obtain⟨d,h6,hg⟩:=P9 hg;cases hg;exact h F H p xs vs d Q d1 s1 h6 λv hv=>q F H v (fm.refl _ _ _ _) R (hv F)
def tK:List Qg->Option Qg:=λxs=>(tO xs).map λns=>.int ns.sum
theorem KQ:gb K (λxs H Q=>∃(l:Qe) (ns:List Int),xs=[.ref l]/\jR K H l (ns.map V.int)/\Q (.int ns.sum) H) (g1 (oY tK)):=Jl λF H p xs vs d Q d1 s1 hg q=>by obtain⟨ns,h1,h2⟩:=P9 hg;cases h2;rw[qH h1]at d1;rw[aR.ints.mp d1]at s1;exact⟨p,ns,rfl,s1,q _ λ_=>bT.mpr rfl⟩
def j7:En->Rv->Option Rv:=λe x=>match gL e x with|some (false,xs)=>(tO xs).bind λns=>if ns.length<64 then some (.l ((lq ns).map .int)) else none|_=>none
def Dz(K:⇑0):List V->Hp->VK->Prop:=λxs H Q=>∃(a:Qe) (ns:List Int),xs=[.ref a]/\eO K H a (ns.map V.int)/\ns.length<64/\∀(l:Qe) (H':Hp),aG H H'->H l=none->H' l=some (.lst ((lq ns).map V.int))->Q (.ref l) H'
theorem yg:eA X (.builtin "sorted") (Dz X.K):=by intro pins s σ H xs us Q I rv h;obtain⟨a,ns,e1,e2,e3,q⟩:=h;exact vS pins s σ H xs us Q I rv ⟨a,ns,e1,e2,e3,λl ns' H' sm hn hl hp hs=>q l H' sm hn (by rw[<-DY hp hs];exact hl)⟩
theorem Gz:gb K (Dz K) (g1 j7):=jY λσ H0 F H e x z v Q R A hg q=>by
 unfold j7 at hg;split at hg;case h_2=>cases hg
 case h_1 xs h5=>
 obtain⟨p,vs,rfl,d1,s1⟩:=f_ R A h5;obtain⟨ns,h6,hg⟩:=P8 hg;split at hg;case isFalse=>cases hg
 case isTrue hl=>cases hg;rw[qH h6]at d1;have s1':eO K H p vs:=s1;rw[aR.ints.mp d1]at s1';refine⟨p,ns,rfl,s1',hl,λl H' sm hn hl'=>?_⟩;obtain⟨R4,X4⟩:=R.same sm;exact q F H' _ X4 R4 ⟨l,_,rfl,hn,R.freeF hn,hl',aR.ints.mpr rfl,λz=>R.ownH l ((R.sameOwn sm l).mp z) hn⟩
mutual
def dS:Qg->Bool|.tuple ds=>bA ds|.list _=>false|.dict _=>false|_=>true
def bA:List Qg->Bool|[]=>true|d::r=>dS d&&bA r
end
mutual
def mr:Qg->Bool|.list _=>false|.tuple ds=>m6 ds|_=>true
def m6:List Qg->Bool|[]=>true|d::r=>mr d&&m6 r
end
theorem rJ{X:Cx}{pins:List (Qe×Obj)}{σ:L2.St}{H:Hp}{s:Qf}(I:aJ X pins σ H s):∀{m:List (Int×jp)}{es:List DictEntry}{vs:List (gS×Qd)}{P:Qn}{w:Qk},(∀p∈m,p.2.ok X.K H)->KV (m.map λp=>((Sum.inl p.1:gS),p.2.toV)) vs->Pairs (dO P w) es vs->ReadsAll s.heap (es.map (·.key)) (m.map λp=>PyData.int p.1) []/\ReadsAll s.heap (es.map (·.val)) (m.map λp=>p.2.toD) []|[],es,vs,P,w,_,r,q=>by cases r;cases q;exact⟨.nil,.nil⟩|p::m,es,vs,P,w,ok,r,q=>by rw[QB]at r;cases r with|@cons a b as bs h1 t=>cases q with|@cons e kv es' kvs' h2 h3 h4=>
 obtain⟨z1,z2⟩:=h1;obtain⟨c1,c2⟩:=rJ I (λp hp=>ok p (Sm _ hp)) t h4;have k1:qI (Sum.inl p.1) e.key=true:=by have:b.1=Sum.inl p.1:=z1.symm;rw[<-this];exact h2
 rcases bX k1 with⟨i,t',e1,e2⟩|⟨x,t',e1,e2⟩
 ·cases e1;refine⟨?_,?_⟩;·simp only[QB,e2];exact ReadsAll.cons (as:=[]) (bs:=[]) (.int p.1 t') c1
  ·simp only[QB,h3];refine ReadsAll.cons (as:=[]) (bs:=[]) ?_ c2;have ok0:=ok p (SY ..);obtain⟨k,at_⟩:=p;cases at_ with
   |vp a x y=>rw[show b.2=Value.ref a from z2];obtain⟨its,rv,⟨o,ho,hc,n,hd⟩,hz⟩:=I.tuple (show eO X.K H a _ from ok0);match its,rv,hd with|_,.cons r1 (.cons r2 .nil),hd=>obtain⟨t1,rfl⟩:=r1;obtain⟨t2,rfl⟩:=r2;exact .tuple ho hc hd (ReadsAll.cons (as:=[]) (bs:=[]) (.int _ _) (ReadsAll.cons (as:=[]) (bs:=[]) (.int _ _) .nil))
   |vi n=>obtain⟨tk,z2⟩:=z2;rw[z2];exact .int n tk|vb x=>rw[show b.2=Value.bool x from z2];exact .bool x|vn=>rw[show b.2=Value.none from z2];exact .none
 ·cases e1
mutual
theorem DA.readsR{X:Cx}{pins:List (Qe×Obj)}{σ:L2.St}{H:Hp}{s:Qf}(I:aJ X pins σ H s):∀{d:Qg}{v:V}{u:Qd},DA X.K H d v->bC v u->∃as,Reads s.heap u d as/\(mr d=true->SB∉as)
 |.none,_,_,q,r=>by simp only[DA]at q;subst q;cases r;exact⟨_,.none,λ_=>by simp⟩|.bool b,_,_,q,r=>by simp only[DA]at q;subst q;cases r;exact⟨_,.bool b,λ_=>by simp⟩|.int i,_,_,q,r=>by simp only[DA]at q;subst q;obtain⟨t,rfl⟩:=r;exact⟨_,.int i t,λ_=>by simp⟩|.str x,_,_,q,r=>by simp only[DA]at q;subst q;obtain⟨t,rfl⟩:=r;exact⟨_,.str x t,λ_=>by simp⟩|.tuple ds,_,_,q,r=>by simp only[DA]at q;obtain⟨a,xs,e,hs,rr⟩:=q;subst e;cases r;obtain⟨its,rv,⟨o,ho,hc,n,hd⟩,hz⟩:=I.tuple hs;obtain⟨as,q,z⟩:=aR.readsR I rr rv;exact⟨_,.tuple ho hc hd q,λc=>z (by simpa[mr]using c)⟩|.list ds,_,_,q,r=>by simp only[DA]at q;obtain⟨a,xs,e,hs,rr⟩:=q;subst e;cases r;obtain⟨its,rv,ht,hz⟩:=I.list hs;obtain⟨o,ho,hc,n,hd⟩:=ht.isList;obtain⟨as,q,z⟩:=aR.readsR I rr rv;exact⟨_,.list ho hc hd q,λc=>by simp[mr]at c⟩|.dict kvs,_,_,q,r=>by
  simp only[DA]at q;obtain⟨a,m,e,hs,rfl,ok⟩:=q;subst e;cases r;obtain⟨_,hS,vs,kv,o,es,ep,ho,hx,hd,_,hp,_⟩:=(show dg X.prog X.w H s.heap a (.dK (m.map λp=>(Sum.inl p.1,p.2.toV))) from I.hok a _ hs);obtain⟨c1,c2⟩:=rJ I ok kv hp;refine⟨_,Reads.dict (as:=[]) (bs:=[]) ho hx.1 hd ?_ ?_,λ_=>?_⟩;·rw[QE];exact c1
  ·rw[QE];exact c2
  ·have:a≠SB:=by simpa using hS
   simpa using this.symm
theorem aR.readsR{X:Cx}{pins:List (Qe×Obj)}{σ:L2.St}{H:Hp}{s:Qf}(I:aJ X pins σ H s):∀{ds:List Qg}{xs:List V}{us:List Qd},aR X.K H ds xs->a' xs us->∃as,ReadsAll s.heap us ds as/\(m6 ds=true->SB∉as)|[],_,_,q,r=>by simp only[aR]at q;subst q;cases r;exact⟨_,.nil,λ_=>by simp⟩|d::ds,_,_,q,r=>by simp only[aR]at q;obtain⟨x,rr,e,a,b⟩:=q;subst e;cases r with|cons p p'=>
 obtain⟨as,q1,z1⟩:=DA.readsR I a p;obtain⟨bs,q2,z2⟩:=aR.readsR I b p';refine⟨_,.cons q1 q2,λc=>?_⟩;simp only[m6,QU]at c;intro z;rcases P' z with z|z;·exact z1 c.1 z
 ·exact z2 c.2 z
end
def nD(d:Qg):Bool:=(dS d||(!d.hasDict||mr d))&&d.showable&&decide (d.depth<=60)&&decide (d.shown.length<=Qv)
def oX:En->Rv->Option Rv:=λ_ x=>match x with|.d d=>if nD d=true then some (.d (.str d.shown)) else none|_=>none
def Dy(K:⇑0):List V->Hp->VK->Prop:=λxs H Q=>∃x d,xs=[x]/\DA K H d x/\(d.hasDict=true->mr d=true)/\d.showable=true/\d.depth<=60/\d.shown.length<=Qv/\Q (.str d.shown) H
mutual
theorem oU:∀(d:Qg),dS d=true->d.hasDict=false|.none,_=>rfl|.bool _,_=>rfl|.int _,_=>rfl|.str _,_=>rfl|.tuple ds,h=>by simp only[PyData.hasDict];exact mP ds (by simpa[dS]using h)|.list ds,h=>by simp[dS]at h|.dict _,h=>by simp[dS]at h
theorem mP:∀(ds:List Qg),bA ds=true->PyData.hasDictAll ds=false|[],_=>rfl|d::r,h=>by simp only[bA,QU]at h;simp only[PyData.hasDictAll,oU d h.1,mP r h.2,Bool.or_self]
end
theorem yf{X:Cx}{k:Nat}(hr:dt k X.A):eA X (.builtin "repr") (Dy X.K):=by
 intro pins s σ H xs us Q I r h;obtain⟨x,d,rfl,ha,hdl,hsh,hdp,hsz,q⟩:=h;obtain⟨u,rfl,ru⟩:∃u,us=[u]/\bC x u:=by cases r with|cons p p'=>cases p';exact⟨_,rfl,p⟩
 have hun:=hr.un;obtain⟨as,rd,hm⟩:=DA.readsR I ha ru;have fin:∀a,u=.ref a->Qj (Ql X.prog X.w) X.A (call (.builtin "repr") [u]) (EP X pins σ Q) X.xe s:=λa e=>by subst e;exact repr_of_reads' rd hsh (λz=>hm (hdl z)) hr.gd ↥0 (λ_ _ e=>e) (λh' u tk hk=>⟨.str _,H,I.kept hk,⟨_,rfl⟩,q⟩) hsz
 cases d with|none=>simp only[DA]at ha;subst ha;cases ru;exact P.repr_of_none ⟨.str _,H,I.tok _,⟨_,rfl⟩,q⟩|bool b=>simp only[DA]at ha;subst ha;cases ru;exact P.repr_of_bool ⟨.str _,H,I.tok _,⟨_,rfl⟩,q⟩|int i=>simp only[DA]at ha;subst ha;obtain⟨t,rfl⟩:=ru;simp only[PyData.showable,decide_eq_true_eq]at hsh;exact P.repr_of_int hsh ⟨.str _,H,I.tok _,⟨_,rfl⟩,q⟩|str y=>simp only[DA]at ha;subst ha;obtain⟨t,rfl⟩:=ru;exact P.repr_of_str ⟨.str _,H,I.tok _,⟨_,rfl⟩,q⟩ hsz|list ds=>obtain⟨a,_,e,_⟩:=cB.mp ha;subst e;exact fin a ru|dict ds=>simp only[DA]at ha;obtain⟨a,_,e,_⟩:=ha;subst e;exact fin a ru|tuple ds=>obtain⟨a,_,e,_⟩:=cC.mp ha;subst e;exact fin a ru
theorem Jf:gb K (Dy K) (g1 oX):=jY λσ H0 F H e x z v Q R A hg q=>by
 unfold oX at hg;split at hg;case h_2=>cases hg
 case h_1 d=>
 split at hg;case isFalse=>cases hg
 case isTrue hl=>cases hg;unfold nD at hl;rw[QU,QU,QU,decide_eq_true_iff,decide_eq_true_iff]at hl;refine⟨v,d,rfl,DA.mono R.sm A,λz=>?_,hl.1.1.2,hl.1.2,hl.2,q F H _ (fm.refl _ _ _ _) R ((uI (K:=K) (F:=F)).mpr rfl)⟩;have c:=hl.1.1.1;cases hf:dS d with|true=>rw[oU d hf]at z;cases z|false=>rw[hf,z]at c;simpa using c
end
section
variable{K:⇑0}{σ:L2.St}{H0 F H F' H':Hp}{e e':En}
theorem bc.upd1(R:bc K F H σ e){σ':L2.St}(i:Nat)(hl:σ'.length=e'.length)(hσ:∀j,j≠i->σ'[j]?=σ[j]?)(he:∀j,j≠i->e'[j]?=e[j]?)(sF:aG F F')(sm:aG F' H')(hf:∀j a,j≠i->Fp σ e H j a->F' a=none)(hh:∀j a o,j≠i->Fp σ e H j a->H a=some o->H' a=some o)(hd:∀x,e'[i]?=some (some (.d x))->∃v,σ'[i]?=some (some v)/\DA K F' x v)(ho:∀xs,e'[i]?=some (some (.l xs))->∃l vs,σ'[i]?=some (some (.ref l))/\F' l=none/\H' l=some (.lst vs)/\aR K F' xs vs)(hn:∀xss,e'[i]?=some (some (.n xss))->∃(l:Qe) (bs:List Qe),σ'[i]?=some (some (.ref l))/\F' l=none/\H' l=some (.lst (bs.map V.ref))/\bs.length=xss.length/\bs.Nodup/\l∉bs/\∀(k:Nat) (b:Qe) (ys:List Qg),bs[k]?=some b->xss[k]?=some ys->F' b=none/\∃us,H' b=some (.lst us)/\aR K F' ys us)(hi:∀a j,j≠i->Fp σ' e' H' i a->¬Fp σ e H j a):bc K F' H' σ' e'/\∀j a,j≠i->(Fp σ' e' H' j a↔Fp σ e H j a):=by
 have fs:∀j a,j≠i->(Fp σ' e' H' j a↔Fp σ e H j a):=by
  intro j a hj;have key:∀xss l,e[j]?=some (some (.n xss))->σ[j]?=some (some (.ref l))->H' l=H l:=λxss l h1 h2=>by obtain⟨l',bs,g1,g2,g3,_⟩:=R.nst j xss h1;rw[h2]at g1;cases g1;rw[g3];exact hh j l _ hj (.inr ⟨xss,l,bs,h1,h2,g3,.inl rfl⟩) g3
  unfold Fp;rw[he j hj,hσ j hj];constructor
  ·rintro(h1|⟨xss,l,bs,h1,h2,h3,h4⟩);·exact .inl h1
   ·exact .inr ⟨xss,l,bs,h1,h2,by rw[<-key xss l h1 h2];exact h3,h4⟩
  ·rintro(h1|⟨xss,l,bs,h1,h2,h3,h4⟩);·exact .inl h1
   ·exact .inr ⟨xss,l,bs,h1,h2,by rw[key xss l h1 h2];exact h3,h4⟩
 refine⟨⟨sm,hl,λj x q=>?_,λj xs q=>?_,λj xss q=>?_,λj k a q1 q2=>?_⟩,fs⟩
 ·by_cases z:j=i;·subst z;exact hd x q
  ·rw[he j z]at q;obtain⟨v,h1,h2⟩:=R.dat j x q;exact⟨v,by rw[hσ j z];exact h1,DA.mono sF h2⟩
 ·by_cases z:j=i;·subst z;exact ho xs q
  ·rw[he j z]at q;obtain⟨l,vs,h1,h2,h3,h4⟩:=R.own j xs q;have o:Fp σ e H j l:=.inl ⟨xs,q,h1⟩;exact⟨l,vs,by rw[hσ j z];exact h1,hf j l z o,hh j l _ z o h3,h4.mono sF⟩
 ·by_cases z:j=i;·subst z;exact hn xss q
  ·rw[he j z]at q;obtain⟨l,bs,h1,h2,h3,h4,h5,h6,h7⟩:=R.nst j xss q;have o:Fp σ e H j l:=.inr ⟨xss,l,bs,q,h1,h3,.inl rfl⟩;refine⟨l,bs,by rw[hσ j z];exact h1,hf j l z o,hh j l _ z o h3,h4,h5,h6,λk b ys g1 g2=>?_⟩;obtain⟨c1,us,c2,c3⟩:=h7 k b ys g1 g2;have ob:Fp σ e H j b:=.inr ⟨xss,l,bs,q,h1,h3,.inr (Qc g1)⟩;exact⟨hf j b z ob,us,hh j b _ z ob c2,c3.mono sF⟩
 ·by_cases zj:j=i
  ·subst zj;by_cases zk:k=j;·exact zk.symm
   ·exact absurd ((fs k a zk).mp q2) (hi a k zk q1)
  ·by_cases zk:k=i;·subst zk;exact absurd ((fs j a zj).mp q1) (hi a j zj q2)
   ·exact R.fp j k a ((fs j a zj).mp q1) ((fs k a zk).mp q2)
theorem bc.putL(R:bc K F H σ e){i:Nat}{xs ys:List Qg}{l:Qe}{vs:List V}(hi:e[i]?=some (some (.l xs)))(hl:σ[i]?=some (some (.ref l)))(hd:aR K F ys vs):bc K F (bz H l (.lst vs)) σ (e.set i (some (.l ys)))/\fm σ F H e F (bz H l (.lst vs)) (e.set i (some (.l ys))):=by
 obtain⟨l',vs',h1,h2,h3,h4⟩:=R.own i xs hi;rw[hl]at h1;cases h1;have hlt:i<e.length:=(P_ hi).1;have fi:Fp σ e H i l:=.inl ⟨xs,hi,hl⟩;have gi:(e.set i (some (Sv.l ys)))[i]?=some (some (.l ys)):=Rt hlt;obtain⟨R',fs⟩:=R.upd1 (F':=F) (H':=bz H l (.lst vs)) (e':=e.set i (some (.l ys))) i (by rw[RY];exact R.len) ↥4 (λj hj=>QQ (QK hj)) (aG.refl F) (λb o q=>by
  have z:b≠l:=λz=>by rw[z,h2]at q;cases q
  rw[aA z];exact R.sm b o q) (λj a _ q=>(R.fpAt q).1) (λj a o hj q ha=>by have z:a≠l:=λz=>hj (R.fp j i a q (by rw[z];exact fi));rw[aA z];exact ha) (λx q=>by rw[gi]at q;cases q) (λzs q=>by rw[gi]at q;cases q;exact⟨l,vs,hl,h2,aw,hd⟩) (λxss q=>by rw[gi]at q;cases q) (λa j hj q q2=>by
  rcases q with⟨zs,_,q⟩|⟨xss,_,_,q,_⟩;·rw[hl]at q;cases q;exact hj (R.fp j i _ q2 fi)
  ·rw[gi]at q;cases q);refine⟨R',⟨aG.refl _,λa q=>?_,λ_ _ q _ _=>q,λa ws q=>?_,λa o q n=>?_,λj=>?_,λa⟨j,q⟩=>?_,λ_ _ q _ _=>q⟩⟩
 ·by_cases z:a=l;·rw[z,aw]at q;cases q
  ·rw[aA z]at q;exact q
 ·by_cases z:a=l;·rw[z];exact⟨vs,aw⟩
  ·rw[aA z];exact⟨ws,q⟩
 ·have z:a≠l:=λz=>n ⟨i,by rw[z];exact fi⟩;rw[aA z];exact q
 ·by_cases z:j=i;·subst z;rw[gi];exact⟨λ_=>⟨xs,hi⟩,λ_=>⟨ys,rfl⟩⟩
  ·rw[QQ (QK z)]
 ·by_cases z:j=i
  ·subst z;rcases q with⟨zs,_,q⟩|⟨xss,_,_,q,_⟩;·rw[hl]at q;cases q;exact .inl ⟨j,fi⟩
   ·rw[gi]at q;cases q
  ·exact .inl ⟨j,(fs j a z).mp q⟩
theorem bc.setD(R:bc K F H σ e)(i:Nat){x:Qg}{v:V}(h:DA K F x v):bc K F H (σ.set i (some v)) (e.set i (some (.d x)))/\∀a,cm (σ.set i (some v)) (e.set i (some (.d x))) H a->cm σ e H a:=by
 have gi:∀s,(e.set i (some (Sv.d x)))[i]?=some (some s)->s=.d x/\i<e.length:=λs q=>by
  have hlt:i<e.length:=by have:=(P_ q).1;simpa using this
  rw[Rt hlt]at q;exact⟨(QY (QY q)).symm,hlt⟩
 have nofp:∀a,¬Fp (σ.set i (some v)) (e.set i (some (.d x))) H i a:=λa q=>by
  rcases q with⟨zs,q,_⟩|⟨xss,_,_,q,_⟩;·cases (gi _ q).1
  ·cases (gi _ q).1
 obtain⟨R',fs⟩:=R.upd1 (F':=F) (H':=H) (σ':=σ.set i (some v)) (e':=e.set i (some (.d x))) i (by rw[RY,RY];exact R.len) (λj hj=>QQ (QK hj)) (λj hj=>QQ (QK hj)) (aG.refl F) R.sm (λj a _ q=>(R.fpAt q).1) (λj a o _ _ ha=>ha) (λy q=>by obtain⟨z,hlt⟩:=gi _ q;cases z;exact⟨v,Rt (by rw[R.len];exact hlt),h⟩) (λzs q=>by cases (gi _ q).1) (λxss q=>by cases (gi _ q).1) (λa j hj q=>absurd q (nofp a));refine⟨R',λa⟨j,q⟩=>?_⟩;by_cases z:j=i;·subst z;exact absurd q (nofp a)
 ·exact⟨j,(fs j a z).mp q⟩
theorem bc.setL(R:bc K F H σ e)(i:Nat){xs:List Qg}{l:Qe}{vs:List V}(h1:F l=none)(h2:H l=some (.lst vs))(h3:aR K F xs vs)(h4:¬cm σ e H l):bc K F H (σ.set i (some (.ref l))) (e.set i (some (.l xs)))/\∀a,cm (σ.set i (some (.ref l))) (e.set i (some (.l xs))) H a->cm σ e H a\/a=l:=by
 have gi:∀s,(e.set i (some (Sv.l xs)))[i]?=some (some s)->s=.l xs/\i<e.length:=λs q=>by
  have hlt:i<e.length:=by have:=(P_ q).1;simpa using this
  rw[Rt hlt]at q;exact⟨(QY (QY q)).symm,hlt⟩
 have onefp:∀a,Fp (σ.set i (some (.ref l))) (e.set i (some (.l xs))) H i a->a=l:=λa q=>by
  rcases q with⟨zs,q,q2⟩|⟨xss,_,_,q,_⟩;·obtain⟨_,hlt⟩:=gi _ q;rw[Rt (by rw[R.len];exact hlt)]at q2;cases q2;rfl
  ·cases (gi _ q).1
 obtain⟨R',fs⟩:=R.upd1 (F':=F) (H':=H) (σ':=σ.set i (some (.ref l))) (e':=e.set i (some (.l xs))) i (by rw[RY,RY];exact R.len) (λj hj=>QQ (QK hj)) (λj hj=>QQ (QK hj)) (aG.refl F) R.sm (λj a _ q=>(R.fpAt q).1) (λj a o _ _ ha=>ha) (λy q=>by cases (gi _ q).1) (λzs q=>by obtain⟨z,hlt⟩:=gi _ q;cases z;exact⟨l,vs,Rt (by rw[R.len];exact hlt),h1,h2,h3⟩) (λxss q=>by cases (gi _ q).1) (λa j hj q q2=>h4 ⟨j,by rw[onefp a q]at q2;exact q2⟩);refine⟨R',λa⟨j,q⟩=>?_⟩;by_cases z:j=i;·subst z;exact .inr (onefp a q)
 ·exact .inl ⟨j,(fs j a z).mp q⟩
end
section
variable{X:Cx}{K:⇑0}{o a:Qh}{es:List Qh}{fo:FE}{fs:FA}{name:Str}{apos cpos:Pos}{id:String}
def y8(K:⇑0)(r:V->List V->Hp->VK->Prop)(g:List Qg->List Qg->Option (Qg×List Qg)):Prop:=∀(F H:Hp) (l:Qe) (xs ys ds:List Qg) (z:Qg) (vs us:List V) (Q:VK),F l=none->aG F H->H l=some (.lst vs)->aR K F xs vs->aR K F ds us->g xs ds=some (z,ys)->(∀w ws,DA K F z w->aR K F ys ws->Q w (bz H l (.lst ws)))->r (.ref l) us H Q
def cG(g:List Qg->List Qg->Option (Qg×List Qg))(fo:FE)(fs:FA):FE:=λe=>(fo e).bind λp=>match p.1 with
 |.s i=>(fs p.2).bind λq=>(iB q.1).bind λds=>match q.2[i]? with|some (some (.l xs))=>(g xs ds).map λz=>(.d z.1,q.2.set i (some (.l z.2)))|_=>none
 |_=>none
theorem Ee{r:V->List V->Hp->VK->Prop}{g:List Qg->List Qg->Option (Qg×List Qg)}(hm:y8 K r g){σ:L2.St}{H:Hp}{Q:VK}(h:fE K (cG g fo fs) σ H Q):Mq K "list" r (fE K fo) (fA K fs) σ H Q:=by obtain⟨F,e,z,e',R,hf,q⟩:=h;unfold cG at hf;obtain⟨⟨x,e1⟩,h1,hf⟩:=P8 hf;match x,h1,hf with|.s i,h1,hf=>dsimp only at hf;obtain⟨⟨rs,e2⟩,h2,hf⟩:=P8 hf;obtain⟨ds,h3,hf⟩:=P8 hf;refine⟨F,e,_,e1,R,h1,λF1 H1 v X1 R1 A1=>?_⟩;obtain⟨g1,zs,g2⟩:=A1;obtain⟨l,vs,c1,c2,c3,c4⟩:=R1.own i zs g2;rw[g1]at c1;cases c1;refine⟨.inl ⟨rfl,vs,.inl (.inl c3)⟩,F1,e1,rs,e2,R1,h2,λF2 H2 us X2 R2 A2=>?_⟩;match h4:e2[i]?,hf with|some (some (.l xs)),hf=>dsimp only at hf;obtain⟨⟨zd,ys⟩,h5,hf⟩:=P9 hf;cases hf;obtain⟨F3,R3,s3,d3,f3⟩:=cz.frozen R2 A2 h3;obtain⟨l',vs',k1,k2,k3,k4⟩:=R3.own i xs h4;rw[g1]at k1;cases k1;refine hm F3 H2 l xs ys ds zd vs' us Q k2 R3.sm k3 k4 d3 h5 λw ws hw hws=>?_;obtain⟨R4,X4⟩:=R3.putL h4 g1 hws;exact q _ _ _ ((X1.trans (X2.frz s3 f3)).trans X4) R4 hw
theorem Hk{r:V->List V->Hp->VK->Prop}{g:List Qg->List Qg->Option (Qg×List Qg)}(slot:Slot "list" name id)(hty:typeOf (.builtin id)=pure (.type "method_descriptor"))(hm:Md X id r)(hf:y8 X.K r g)(ho:PE X o (fE X.K fo))(ha:PA X (a::es) (fA X.K fs))(hbase:TH o name X.env (Qs o X.env)=Qs o X.env)(hfew:((QH cpos (Qq (a::es) X.env)).all (λx=>!x.1)&&(backToKw cpos (TJ [] X.env)).all (λx=>x.1.isSome)&&decide ((a::es).length+([]:List RG).length+(if ([]:List RG).isEmpty then 0 else 1)<30))=true)(hline:(apos.endLine==cpos.line)=true)(hs:Qq (a::es) X.env=(false,Qs a X.env)::Qq es X.env)(hplain:(QH cpos (Qq es X.env)).any (·.1)=false):PE X (.Call (.Attribute o name apos) (a::es) [] cpos) (fE X.K (cG g fo fs)):=(C3 VI slot hty hm ho ha hbase hfew hline hs hplain).mono λ_ _ _ h=>Ee hf h
def bD:List Qg->List Qg->Option (Qg×List Qg):=λxs ds=>match ds with|[d]=>if xs.length<1000000 then some (.none,xs++[d]) else none|_=>none
theorem BF:y8 K zP bD:=by intro F H l xs ys ds z vs us Q hF sm hl d1 d2 hg q;unfold bD at hg;match ds,hg,d2 with
 |[d],hg,d2=>
  simp only[aR]at d2;obtain⟨w,r,rfl,hw,rfl⟩:=d2;dsimp only at hg;split at hg;case isFalse=>cases hg
  case isTrue hlt=>cases hg;have:=d1.len;have sl:Qv=16777216:=Rm;exact⟨l,vs,w,rfl,rfl,hl,by lia,q _ _ (mL.mpr rfl) (d1.append (aR.one hw))⟩
def wN:List Qg->List Qg->Option (Qg×List Qg):=λxs ds=>match ds with|[]=>(xs[xs.length-1]?).map λd=>(d,xs.dropLast)|_=>none
def fM:List Qg->List Qg->Option (Qg×List Qg):=λxs ds=>match ds with|[.int i]=>if 0<=i/\i<1000000000 then(xs[i.toNat]?).map λd=>(d,xs.eraseIdx i.toNat) else none|_=>none
theorem F_:y8 K Dw fM:=by intro F H l xs ys ds z vs us Q hF sm hl d1 d2 hg q;unfold fM at hg;match ds,hg,d2 with
 |[.int i],hg,d2=>
  simp only[aR,DA]at d2;obtain⟨w,r,rfl,rfl,rfl⟩:=d2;dsimp only at hg;split at hg;case isFalse=>cases hg
  case isTrue hlt=>obtain⟨d,h1,h2⟩:=P9 hg;cases h2;obtain⟨v,g1,g2⟩:=d1.get h1;have hlt2:i.toNat<vs.length:=(P_ g1).1;exact⟨l,vs,i,i.toNat,v,rfl,rfl,hl,by lia,by lia,seqIndex_of hlt.1 ↥0,g1,q _ _ g2 (d1.erase _)⟩
end
inductive Fl where|nx (e:En)|bk (e:En)|ct (e:En)|rt (r:Rv) (e:En)
abbrev FS:=En->Option Fl
structure dr (W:List Nat) (σ:L2.St) (F H:Hp) (e:En) (σ':L2.St) (F' H':Hp) (e':En):Prop where
 sf:aG F F'
 dom:∀a,H' a=none->H a=none
 fr:∀a vs,F a=none->H a=some (.lst vs)->¬cm σ e H a->F' a=none
 lst:∀a vs,H a=some (.lst vs)->∃vs',H' a=some (.lst vs')tmp:∀a o,H a=some o->¬cm σ e H a->H' a=some o
 own:∀a,cm σ' e' H' a->cm σ e H a\/H a=none
 wr:∀j,j∉W->σ'[j]?=σ[j]?
 fd:∀a m,F a=none->H a=some (.dK m)->¬cm σ e H a->F' a=none
section
variable{K:⇑0}{W W1 W2:List Nat}{σ σ1 σ2 σ':L2.St}{H0 F H F1 H1 F2 H2 F' H':Hp}{e e1 e2 e':En}
theorem dr.refl:dr W σ F H e σ F H e:=⟨aG.refl _,λ_ h=>h,λ_ _ h _ _=>h,λ_ vs h=>⟨vs,h⟩,λ_ _ h _=>h,λ_ h=>.inl h,λ_ _=>rfl,λ_ _ h _ _=>h⟩
theorem fm.s(x:fm σ F H e F' H' e'):dr W σ F H e σ F' H' e':=⟨x.sf,x.dom,x.fr,x.lst,x.tmp,x.ow,λ_ _=>rfl,x.fd⟩
theorem dr.trans(x:dr W σ F H e σ1 F1 H1 e1)(y:dr W σ1 F1 H1 e1 σ2 F2 H2 e2):dr W σ F H e σ2 F2 H2 e2:=⟨x.sf.trans y.sf,λa h=>x.dom a (y.dom a h),λa vs h n no=>let⟨vs',q⟩:=x.lst a vs n;y.fr a vs' (x.fr a vs h n no) q (λz=>(x.own a z).elim no λz=>by rw[n]at z;cases z),λa vs h=>let⟨vs',q⟩:=x.lst a vs h;y.lst a vs' q,λa o h n=>y.tmp a o (x.tmp a o h n) (λz=>(x.own a z).elim n λz=>by rw[h]at z;cases z),λa h=>(y.own a h).elim (x.own a) (λz=>.inr (x.dom a z)),λj h=>(y.wr j h).trans (x.wr j h),λa m h n no=>y.fd a m (x.fd a m h n no) (x.tmp a _ n no) (λz=>(x.own a z).elim no λz=>by rw[n]at z;cases z)⟩
theorem dr.mono(x:dr W1 σ F H e σ' F' H' e')(h:∀j,j∈W1->j∈W):dr W σ F H e σ' F' H' e':=⟨x.sf,x.dom,x.fr,x.lst,x.tmp,x.own,λj n=>x.wr j λz=>n (h j z),x.fd⟩
end
def qA(K:⇑0)(W:List Nat)(σ:L2.St)(F H:Hp)(e:En)(D:su):Fl->Prop|.nx e'=>∀F' H' σ',dr W σ F H e σ' F' H' e'->bc K F' H' σ' e'->D.nx σ' H'|.bk e'=>∀F' H' σ',dr W σ F H e σ' F' H' e'->bc K F' H' σ' e'->D.bk σ' H'|.ct e'=>∀F' H' σ',dr W σ F H e σ' F' H' e'->bc K F' H' σ' e'->D.ct σ' H'|.rt r e'=>∀F' H' σ' v,dr W σ F H e σ' F' H' e'->bc K F' H' σ' e'->cw K σ' H F' H' e' r v->D.rt v H'
def fS(K:⇑0)(f:FS)(W:List Nat):TS:=λD σ H=>∃F e fl,bc K F H σ e/\f e=some fl/\qA K W σ F H e D fl
theorem PS.mono{X:Cx}{st:Qo}{t t':TS}(h:PS X st t)(m:∀D σ H,t' D σ H->t D σ H):PS X st t':=λpins s σ H D I q=>h pins s σ H D I (m D σ H q)
theorem mD.mono{X:Cx}{st:List Qo}{t t':TS}(h:mD X st t)(m:∀D σ H,t' D σ H->t D σ H):mD X st t':=λpins s σ H D I q=>h pins s σ H D I (m D σ H q)
theorem qA.later{K:⇑0}{W W1 W2:List Nat}{σ σ1:L2.St}{F H F1 H1:Hp}{e e1:En}{D:su}{fl:Fl}(h:qA K W σ F H e D fl)(x:dr W1 σ F H e σ1 F1 H1 e1)(h1:∀j,j∈W1->j∈W)(h2:∀j,j∈W2->j∈W):qA K W2 σ1 F1 H1 e1 D fl:=by cases fl with|nx e'=>exactλF' H' σ' y R=>h F' H' σ' ((x.mono h1).trans (y.mono h2)) R|bk e'=>exactλF' H' σ' y R=>h F' H' σ' ((x.mono h1).trans (y.mono h2)) R|ct e'=>exactλF' H' σ' y R=>h F' H' σ' ((x.mono h1).trans (y.mono h2)) R|rt r e'=>exactλF' H' σ' v y R A=>h F' H' σ' v ((x.mono h1).trans (y.mono h2)) R (A.weak x.dom)
section
variable{X:Cx}{K:⇑0}{W W1 W2:List Nat}{st:Qo}{ic:List Qo}{f g:FS}{a b:Qh}{fa:FE}{ft:FT}{pos:Pos}
def eM:FS:=λe=>some (.nx e)
def aC(f g:FS):FS:=λe=>(f e).bind λfl=>match fl with|.nx e1=>g e1|fl=>some fl
theorem bV:mD X [] (fS K eM []):=zL.mono λD σ H h=>by obtain⟨F,e,fl,R,hf,q⟩:=h;cases hf;exact q F H σ dr.refl R
theorem aj(h1:PS X st (fS K f W1))(h2:mD X ic (fS K g W2)):mD X (st::ic) (fS K (aC f g) (W1++W2)):=(nc h1 h2).mono λD σ H h=>by obtain⟨F,e,fl,R,hf,q⟩:=h;unfold aC at hf;obtain⟨fl1,h1,hf⟩:=P8 hf;have s1:∀j,j∈W1->j∈W1++W2:=λj h=>RK.mpr (.inl h);have s2:∀j,j∈W2->j∈W1++W2:=λj h=>RK.mpr (.inr h);refine⟨F,e,fl1,R,h1,?_⟩;cases fl1 with|nx e1=>exactλF' H' σ' x R'=>⟨F',e1,fl,R',hf,q.later x s1 s2⟩|bk e1=>cases hf;exactλF' H' σ' x R'=>q F' H' σ' (x.mono s1) R'|ct e1=>cases hf;exactλF' H' σ' x R'=>q F' H' σ' (x.mono s1) R'|rt r e1=>cases hf;exactλF' H' σ' v x R' A=>q F' H' σ' v (x.mono s1) R' A
theorem ao(h1:PS X st (fS K f W)):mD X [st] (fS K f W):=ng h1
def dm(fa:FE):FS:=λe=>(fa e).map λp=>.nx p.2
theorem dk(he:PE X a (fE K fa))(hs:So a none pos.line X.env=pure false):PS X (.Expr a pos) (fS K (dm fa) []):=(Gb he hs).mono λD σ H h=>by obtain⟨F,e,fl,R,hf,q⟩:=h;obtain⟨⟨x,e1⟩,h1,hf⟩:=P9 hf;cases hf;exact⟨F,e,x,e1,R,h1,λF1 H1 v X1 R1 A1=>q F1 H1 σ X1.s R1⟩
def bx(fa:FE):FS:=λe=>(fa e).map λp=>.rt p.1 p.2
theorem aO(he:PE X a (fE K fa)):PS X (.Return (some a) pos) (fS K (bx fa) []):=(yK he).mono λD σ H h=>by obtain⟨F,e,fl,R,hf,q⟩:=h;obtain⟨⟨x,e1⟩,h1,hf⟩:=P9 hf;cases hf;exact⟨F,e,x,e1,R,h1,λF1 H1 v X1 R1 A1=>q F1 H1 σ v X1.s R1 A1⟩
def ky(ft:FT)(f g:FS):FS:=λe=>(ft e).bind λp=>if p.1=true then f p.2 else g p.2
theorem eK{c:Qh}{bs cs:List Qo}(hc:PT X c (fT K ft))(ha:mD X bs (fS K f W1))(hb:mD X cs (fS K g W2)):PS X (.If c bs cs pos) (fS K (ky ft f g) (W1++W2)):=(Hh hc ha hb).mono λD σ H h=>by obtain⟨F,e,fl,R,hf,q⟩:=h;unfold ky at hf;obtain⟨⟨x,e1⟩,h1,hf⟩:=P8 hf;refine⟨F,e,x,e1,R,h1,λF1 H1 X1 R1=>?_⟩;cases x with|true=>exact⟨F1,e1,fl,R1,hf,q.later (W1:=[]) X1.s (λj h=>by cases h) λj h=>RK.mpr (.inl h)⟩|false=>exact⟨F1,e1,fl,R1,hf,q.later (W1:=[]) X1.s (λj h=>by cases h) λj h=>RK.mpr (.inr h)⟩
def rD(i:Nat)(r:Rv)(e:En):Option En:=match r with|.d x=>some (e.set i (some (.d x)))|.l xs=>some (e.set i (some (.l xs)))|.s _=>none
theorem yL{σ:L2.St}{H F H1 F1:Hp}{e e1 e2:En}{i:Nat}{r:Rv}{v:V}(R:bc K F H σ e)(X1:fm σ F H e F1 H1 e1)(R1:bc K F1 H1 σ e1)(A1:cw K σ H F1 H1 e1 r v)(h:rD i r e1=some e2):dr [i] σ F H e (σ.set i (some v)) F1 H1 e2/\bc K F1 H1 (σ.set i (some v)) e2:=by
 have wr:∀j,j∉[i]->(σ.set i (some v))[j]?=σ[j]?:=λj n=>QQ (λz=>n (by simp[z]))
 cases r with|d x=>cases h;obtain⟨R2,o2⟩:=R1.setD i A1;exact⟨⟨X1.sf,X1.dom,X1.fr,X1.lst,X1.tmp,λa h=>X1.ow a (o2 a h),wr,X1.fd⟩,R2⟩|l xs=>
  cases h;obtain⟨l,vs,rfl,h1,h2,h3,h4,h5⟩:=A1;obtain⟨R2,o2⟩:=R1.setL i h2 h3 h4 h5;refine⟨⟨X1.sf,X1.dom,X1.fr,X1.lst,X1.tmp,λa h=>?_,wr,X1.fd⟩,R2⟩;rcases o2 a h with z|z;·exact X1.ow a z
  ·exact .inr (by rw[z];exact h1)|s j=>cases h
def aN(i:Nat)(fa:FE):FS:=λe=>(fa e).bind λp=>(rD i p.1 p.2).map .nx
theorem az{i:Nat}{x:Str}{pos':Pos}(hN:X.N.Nodup)(hi:X.N[i]?=some x)(hx:Hz X.env.scope x)(he:PE X a (fE K fa))(hs:So a (some (.Name x pos')) pos.line X.env=pure false)(hf:X.fn x=true\/X.env.scope.names.lookup x=some .local):PS X (.Assign [.Name x pos'] a pos) (fS K (aN i fa) [i]):=(rC hN hi hx he hs hf).mono λD σ H h=>by obtain⟨F,e,fl,R,hf,q⟩:=h;unfold aN at hf;obtain⟨⟨r,e1⟩,h1,hf⟩:=P8 hf;obtain⟨e2,h2,hf⟩:=P9 hf;cases hf;refine⟨F,e,r,e1,R,h1,λF1 H1 v X1 R1 A1=>?_⟩;obtain⟨x,R2⟩:=yL R X1 R1 A1 h2;exact q F1 H1 _ x R2
abbrev FG:=Qg->En->Option En
def fG(K:⇑0)(g:FG)(W:List Nat):TG:=λv σ H Q=>∃F e x e',bc K F H σ e/\DA K F x v/\g x e=some e'/\∀σ',dr W σ F H e σ' F H e'->bc K F H σ' e'->Q σ' H
abbrev GZ:=List Qg->En->Option En
def Lb(K:⇑0)(g:GZ)(W:List Nat):Eo:=λvs σ H Q=>∃F e xs e',bc K F H σ e/\aR K F xs vs/\g xs e=some e'/\∀σ',dr W σ F H e σ' F H e'->bc K F H σ' e'->Q σ' H
theorem PG.mono{tg:Qh}{t t':TG}(h:PG X tg t)(m:∀v σ H Q,t' v σ H Q->t v σ H Q):PG X tg t':=λpins s σ H v u Q I r q=>h pins s σ H v u Q I r (m v σ H Q q)
theorem Bv.mono{tg:List Qh}{t t':Eo}(h:Bv X tg t)(m:∀v σ H Q,t' v σ H Q->t v σ H Q):Bv X tg t':=λpins s σ H v u Q I r q=>h pins s σ H v u Q I r (m v σ H Q q)
def ah(i:Nat):FG:=λx e=>some (e.set i (some (.d x)))
def aY:GZ:=λxs e=>match xs with|[]=>some e|_=>none
def aq(g:FG)(gs:GZ):GZ:=λxs e=>match xs with|x::r=>(g x e).bind λe1=>gs r e1|_=>none
def a8(gs:GZ):FG:=λx e=>match x with|.tuple xs=>gs xs e|_=>none
theorem av{i:Nat}{x:Str}(hN:X.N.Nodup)(hi:X.N[i]?=some x)(hx:Hz X.env.scope x)(hf:X.fn x=true\/X.env.scope.names.lookup x=some .local):PG X (.Name x pos) (fG K (ah i) [i]):=(FU hN hi hx hf).mono λv σ H Q h=>by obtain⟨F,e,x,e',R,hx,hg,q⟩:=h;cases hg;obtain⟨R2,o2⟩:=R.setD i hx;exact q _ ⟨aG.refl _,λ_ h=>h,λ_ _ h _ _=>h,λ_ vs h=>⟨vs,h⟩,λ_ _ h _=>h,λa h=>.inl (o2 a h),λj n=>QQ (λz=>n (by simp[z])),λ_ _ h _ _=>h⟩ R2
theorem bU:Bv X [] (Lb K aY []):=FW.mono λv σ H Q h=>by
 obtain⟨F,e,x,e',R,hx,hg,q⟩:=h;unfold aY at hg;split at hg;·cases hg;simp only[aR]at hx;exact⟨hx,q σ dr.refl R⟩
 ·cases hg
theorem aE{es:List Qh}{g1:FG}{gs:GZ}(h1:PG X a (fG K g1 W1))(h2:Bv X es (Lb K gs W2))(hs:(RW (a::es) X.env).map (·.2)=RD a X.env::(RW es X.env).map (·.2)):Bv X (a::es) (Lb K (aq g1 gs) (W1++W2)):=(Da h1 h2 hs).mono λv σ H Q h=>by obtain⟨F,e,xs,e',R,hx,hg,q⟩:=h;unfold aq at hg;match xs,hg,hx with|x::r,hg,hx=>simp only[aR]at hx;obtain⟨w,ws,e1,hw,hr⟩:=hx;dsimp only at hg;obtain⟨e1',h3,h4⟩:=P8 hg;refine⟨w,ws,e1,F,e,x,e1',R,hw,h3,λσ1 x1 R1=>⟨F,e1',r,e',R1,hr,h4,λσ2 x2 R2=>?_⟩⟩;exact q σ2 ((x1.mono λj h=>RK.mpr (.inl h)).trans (x2.mono λj h=>RK.mpr (.inr h))) R2
theorem cN{es:List Qh}{k n:Nat}{gs:GZ}(hK:X.K=K)(hc:X.calm=true)(h:Bv X es (Lb K gs W))(hl:∀xs e e',gs xs e=some e'->xs.length=n)(hn:(RW es X.env).length=n)(hst:(RW es X.env).findIdx? (·.1)=none):PG X (.Tuple es k pos) (fG K (a8 gs) W):=(FV hK hc h hn hst).mono λv σ H Q h=>by obtain⟨F,e,x,e',R,hx,hg,q⟩:=h;unfold a8 at hg;match x,hg,hx with|.tuple xs,hg,hx=>obtain⟨p,vs,e1,e2,e3⟩:=cC.mp hx;exact⟨p,vs,e1,R.sm.tup e2,by rw[<-e3.len];exact hl xs e e' hg,F,e,xs,e',R,e3,hg,q⟩
theorem cK(xs:List Qg)(e e':En)(h:aY xs e=some e'):xs.length=0:=by
 unfold aY at h;split at h;·rfl
 ·cases h
theorem aL{g:FG}{gs:GZ}{n:Nat}(hl:∀xs e e',gs xs e=some e'->xs.length=n)(xs:List Qg)(e e':En)(h:aq g gs xs e=some e'):xs.length=n+1:=by unfold aq at h;match xs,h with|x::r,h=>obtain⟨e1,h3,h4⟩:=P8 h;simp[hl r e1 e' h4]
def jo(fa:FE)(g:FG):FS:=λe=>(fa e).bind λp=>match p.1 with|.d x=>(g x p.2).map .nx|_=>none
theorem jm{tg:Qh}{g:FG}(he:PE X a (fE K fa))(hg:PG X tg (fG K g W))(hs:Ul [tg] a pos.line X.env=pure false)(hw:Um [tg] a X.env=pure none)(h1:(RW [tg] X.env).map (·.2)=[RD tg X.env]):PS X (.Assign [tg] a pos) (fS K (jo fa g) W):=(Di he hg hs hw h1).mono λD σ H h=>by obtain⟨F,e,fl,R,hf,q⟩:=h;unfold jo at hf;obtain⟨⟨r,e1⟩,h1,hf⟩:=P8 hf;match r,h1,hf with|.d x,h1,hf=>obtain⟨e2,h2,hf⟩:=P9 hf;cases hf;exact⟨F,e,_,e1,R,h1,λF1 H1 v X1 R1 A1=>⟨F1,e1,x,e2,R1,A1,h2,λσ' x2 R2=>q F1 H1 σ' (X1.s.trans x2) R2⟩⟩
def pM(i j:Nat)(fs:FA):FS:=λe=>(fs e).bind λp=>match p.1 with|[.d x,.d y]=>some (.nx ((p.2.set i (some (.d x))).set j (some (.d y))))|_=>none
theorem Dt{i j:Nat}{x y:Str}{fs:FA}{px py pt:Pos}{kt k2 pt2}(hc:X.calm=true)(hN:X.N.Nodup)(hi:X.N[i]?=some x)(hj:X.N[j]?=some y)(hij:i≠j)(hx:X.env.scope.names.lookup x=some .local)(hy:X.env.scope.names.lookup y=some .local)(ha:PA X [a,b] (fA K fs))(hw:Um [.Tuple [.Name x px,.Name y py] kt pt] (.Tuple [a,b] k2 pt2) X.env=pure (some [x,y]))(hs:Ul [.Tuple [.Name x px,.Name y py] kt pt] (.Tuple [a,b] k2 pt2) pos.line X.env=pure false):PS X (.Assign [.Tuple [.Name x px,.Name y py] kt pt] (.Tuple [a,b] k2 pt2) pos) (fS K (pM i j fs) [i,j]):=(IQ hc hN hi hj hij hx hy ha hw hs).mono λD σ H h=>by obtain⟨F,e,fl,R,hf,q⟩:=h;unfold pM at hf;obtain⟨⟨rs,e1⟩,h1,hf⟩:=P8 hf;refine⟨F,e,rs,e1,R,h1,λF1 H1 vs X1 R1 A1=>?_⟩;match rs,hf,A1 with|[.d x,.d y],hf,A1=>cases hf;obtain⟨v,u,rfl,a1,a2⟩:=ni A1;obtain⟨R2,o2⟩:=R1.setD i a1;obtain⟨R3,o3⟩:=R2.setD j a2;refine⟨v,u,rfl,q F1 H1 _ ⟨X1.sf,X1.dom,X1.fr,X1.lst,X1.tmp,λa h=>X1.ow a (o2 a (o3 a h)),λm n=>?_,X1.fd⟩ R3⟩;rw[QQ (λz=>n (by simp[z])),QQ (λz=>n (by simp[z]))]
def mM:Rv->Option Qg|.d x=>some x|.l xs=>some (.list xs)|.s _=>none
theorem nR{r:Rv}{d:Qg}(h:mM r=some d):iB [r]=some [d]:=by cases r with|d x=>cases h;rfl|l xs=>cases h;rfl|s i=>cases h
def kh(ft:FT)(f:FS):Nat->FS|0,_=>none|n+1,e=>(ft e).bind λp=>if p.1=true then(f p.2).bind λfl=>match fl with|.nx e1=>kh ft f n e1|.ct e1=>kh ft f n e1|.bk e1=>some (.nx e1)|.rt r e1=>some (.rt r e1)else some (.nx p.2)
def fV(n:Nat)(ft:FT)(f:FS):FS:=kh ft f n
theorem jG{n:Nat}{c:Qh}{body:List Qo}(hp:PassesOwn (Ql X.prog X.w) X.A X.env X.xe)(hc:PT X c (fT K ft))(hb:mD X body (fS K f W)):PS X (.While c body [] pos) (fS K (fV n ft f) W):=(Dm hp hc hb).mono λD σ H h=>by refine⟨λm σ H=>∃F e fl,bc K F H σ e/\kh ft f m e=some fl/\qA K W σ F H e D fl,⟨n,h⟩,?_⟩;rintro m σ H⟨F,e,fl,R,hf,q⟩;cases m with|zero=>cases hf|succ m=>
 unfold kh at hf;obtain⟨⟨x,e1⟩,h1,hf⟩:=P8 hf;refine⟨F,e,x,e1,R,h1,λF1 H1 X1 R1=>?_⟩;have sub:∀j,j∈([]:List Nat)->j∈W:=λj h=>by cases h
 cases x with|false=>rw[if_neg ↥1]at hf;cases hf;exact E5 (q F1 H1 σ X1.s R1)|true=>rw[if_pos rfl]at hf;refine yo ?_;obtain⟨fl1,h2,hf⟩:=P8 hf;have q1:qA K W σ F1 H1 e1 D fl:=q.later (W1:=[]) X1.s sub λj h=>h;refine⟨λσ' H'=>∃F' e',bc K F' H' σ' e'/\kh ft f m e'=some fl/\qA K W σ' F' H' e' D fl,λσ' H'⟨F',e',r1,r2,r3⟩=>⟨m,Nat.lt_succ_self m,F',e',fl,r1,r2,r3⟩,F1,e1,fl1,R1,h2,?_⟩;cases fl1 with|nx e2=>exactλF2 H2 σ2 x R2=>⟨F2,e2,R2,hf,q1.later x (λj h=>h) λj h=>h⟩|ct e2=>exactλF2 H2 σ2 x R2=>⟨F2,e2,R2,hf,q1.later x (λj h=>h) λj h=>h⟩|bk e2=>cases hf;exactλF2 H2 σ2 x R2=>q1 F2 H2 σ2 x R2|rt r e2=>cases hf;exactλF2 H2 σ2 v x R2 A=>q1 F2 H2 σ2 v x R2 A
end
theorem PI.mono{X:Cx}{tg iter:Qh}{t t':TI}(h:PI X tg iter t)(m:∀σ H R,t' σ H R->t σ H R):PI X tg iter t':=λpins s σ H R I q=>h pins s σ H R I (m σ H R q)
theorem PI.or{X:Cx}{tg iter:Qh}{t t':TI}(h:PI X tg iter t)(h':PI X tg iter t'):PI X tg iter (λσ H R=>t σ H R\/t' σ H R):=λpins s σ H R I q=>by
 rcases q with q|q;·exact h pins s σ H R I q
 ·exact h' pins s σ H R I q
abbrev jq:=List (Nat×List Qg)
def Ap(K:⇑0)(σ:L2.St)(F H:Hp)(own:jq):Prop:=∀p∈own,∃l vs,σ[p.1]?=some (some (.ref l))/\H l=some (.lst vs)/\aR K F p.2 vs
def Aq(K:⇑0)(σ:L2.St)(J:It)(items:List Qg)(own:jq)(F0:Hp):Prop:=∀F H,aG F0 F->aG F H->Ap K σ F H own->(∀i,i<items.length->J.go i H)/\(∀i,items.length<=i->J.stop i H)/\∀i d x H',items[i]?=some d->J.yld i H x H'->∃F',aG H H'/\aG F F'/\aG F' H'/\(∀a,F a=none->H a≠none->F' a=none)/\DA K F' d x
abbrev FI:=En->Option (List Qg×jq×En)
def keeps(own:jq)(e:En):Prop:=∀p∈own,e[p.1]?=some (some (.l p.2))
def fI(K:⇑0)(f:FI):TI:=λσ H R=>∃F e items own e',bc K F H σ e/\f e=some (items,own,e')/\∀J F' H',fm σ F H e F' H' e'->bc K F' H' σ e'->keeps own e'->Aq K σ J items own F'->R J H'
section
variable{K:⇑0}{σ:L2.St}{H0 F H F' H':Hp}{e e':En}
theorem bc.held(R:bc K F H σ e){own:jq}(h:keeps own e):Ap K σ F H own:=λp hp=>by obtain⟨l,vs,h1,h2,h3,h4⟩:=R.own p.1 p.2 (h p hp);exact⟨l,vs,h1,h3,h4⟩
theorem bc.step(R:bc K F H σ e)(s:aG H H')(sF:aG F F')(sm:aG F' H')(fz:∀a,F a=none->H a≠none->F' a=none):bc K F' H' σ e/\fm σ F H e F' H' e:=by obtain⟨R',o'⟩:=R.keep sF sm (λa⟨i,h⟩=>by obtain⟨h1,vs,h2⟩:=R.fpAt h;exact fz a h1 (by rw[h2];simp)) λa o _ h=>s a o h;exact⟨R',⟨sF,λa h=>s.free h,λa vs h1 h2 _=>fz a h1 (by rw[h2];simp),λa vs h=>⟨vs,s _ _ h⟩,λa o h _=>s a o h,λ_=>Iff.rfl,λa h=>.inl ((o' a).mp h),λa m h1 h2 _=>fz a h1 (by rw[h2];simp)⟩⟩
inductive vH (K:⇑0) (σ:L2.St) (F:Hp) (p:Qe):Bool->List Qg->jq->Prop|tup{xs vs}:eO K F p vs->aR K F xs vs->vH K σ F p false xs []|lst{xs vs}:jR K F p vs->aR K F xs vs->vH K σ F p true xs []|own{i xs}:σ[i]?=some (some (.ref p))->vH K σ F p true xs [(i,xs)]
theorem vH.at{p:Qe}{b:Bool}{xs:List Qg}{own:jq}{F0:Hp}(h:vH K σ F0 p b xs own)(s0:aG F0 F)(s1:aG F H){own':jq}(hh:Ap K σ F H own')(hs:∀q∈own,q∈own'):∃vs,aR K F xs vs/\(if b=true then jR K H p vs else eO K H p vs):=by cases h with|tup h1 h2=>exact⟨_,h2.mono s0,(s0.trans s1).tup h1⟩|lst h1 h2=>exact⟨_,h2.mono s0,(s0.trans s1).seq h1⟩|@own i xs h1=>obtain⟨l,vs,g1,g2,g3⟩:=hh (i,xs) (hs (i,xs) ↥1);dsimp only at g1 g3;rw[h1]at g1;cases g1;exact⟨vs,g3,.inl (.inl g2)⟩
def vw(e:En):Rv->Option (Bool×List Qg×jq)
 |.d (.tuple xs)=>some (false,xs,[])|.d (.list xs)=>some (true,xs,[])|.l xs=>some (true,xs,[])|.s i=>match e[i]? with|some (some (.l xs))=>some (true,xs,[(i,xs)])|_=>none
 |_=>none
theorem nH{r:Rv}{v:V}{b:Bool}{xs:List Qg}{own:jq}(R:bc K F H σ e)(A:cw K σ H0 F H e r v)(h:vw e r=some (b,xs,own)):∃F' p,bc K F' H σ e/\aG F F'/\(∀a,F a=none->H0 a≠none->F' a=none)/\v=.ref p/\vH K σ F' p b xs own/\keeps own e:=by cases r with
 |d x=>cases x with|tuple ds=>cases h;obtain⟨a,ys,e1,e2,e3⟩:=cC.mp A;exact⟨F,a,R,aG.refl _,λ_ h _=>h,e1,.tup e2 e3,λp hp=>by cases hp⟩|list ds=>cases h;obtain⟨a,ys,e1,e2,e3⟩:=cB.mp A;exact⟨F,a,R,aG.refl _,λ_ h _=>h,e1,.lst e2 e3,λp hp=>by cases hp⟩|_=>cases h
 |l ys=>cases h;obtain⟨F',R',s',d',f'⟩:=A.frozen R;obtain⟨a,ys,e1,e2,e3⟩:=cB.mp d';exact⟨F',a,R',s',f',e1,.lst e2 e3,λp hp=>by cases hp⟩|s i=>obtain⟨h1,ys,h2⟩:=A;simp only[vw,h2]at h;cases h;obtain⟨l,vs,e1,e2,e3,e4⟩:=R.own i _ h2;rw[h1]at e1;cases e1;exact⟨F,l,R,aG.refl _,λ_ h _=>h,rfl,.own h1,λp hp=>by simp only[VG]at hp;subst hp;exact h2⟩
theorem tP{p:Qe}{xs:List Qg}{own:jq}{F0:Hp}(h:vH K σ F0 p true xs own):Aq K σ (Lm K p) xs own F0:=by intro F H s0 s1 hh;obtain⟨vs,d,q⟩:=h.at s0 s1 hh λ_ h=>h;have q:jR K H p vs:=q;refine⟨λi hi=>⟨vs,vs[i]'(by rw[<-d.len];exact hi),q,QR _⟩,λi hi=>⟨vs,q,by rw[<-d.len];exact hi⟩,λi x v H' hx hy=>?_⟩;obtain⟨rfl,hy⟩:=hy;obtain⟨w,g1,g2⟩:=d.get hx;have e:=hy vs q;rw[g1]at e;cases e;exact⟨F,aG.refl _,aG.refl _,s1,λ_ h _=>h,g2⟩
theorem wA{p:Qe}{xs:List Qg}{own:jq}{F0:Hp}(h:vH K σ F0 p false xs own):Aq K σ (Ln K p) xs own F0:=by intro F H s0 s1 hh;obtain⟨vs,d,q⟩:=h.at s0 s1 hh λ_ h=>h;have q:eO K H p vs:=q;refine⟨λi hi=>⟨vs,vs[i]'(by rw[<-d.len];exact hi),q,QR _⟩,λi hi=>⟨vs,q,by rw[<-d.len];exact hi⟩,λi x v H' hx hy=>?_⟩;obtain⟨rfl,hy⟩:=hy;obtain⟨w,g1,g2⟩:=d.get hx;have e:=hy vs q;rw[g1]at e;cases e;exact⟨F,aG.refl _,aG.refl _,s1,λ_ h _=>h,g2⟩
theorem wV{p:Qe}{x y:V}{a b:Qg}(s1:aG F H)(hp:H p=none)(hx:DA K F a x)(hy:DA K F b y):∃F',aG H (bz H p (.tup [x,y]))/\aG F F'/\aG F' (bz H p (.tup [x,y]))/\(∀c,F c=none->H c≠none->F' c=none)/\DA K F' (.tuple [a,b]) (.ref p):=by
 have hF:F p=none:=s1.free hp;have sF:aG F (bz F p (.tup [x,y])):=aG.new hF;refine⟨bz F p (.tup [x,y]),aG.new hp,sF,λb o q=>?_,λc h n=>?_,cC.mpr ⟨p,_,rfl,.inl (.inl aw),.cons (DA.mono sF hx) (.one (DA.mono sF hy))⟩⟩
 ·by_cases z:b=p;·subst z;rw[aw]at q⊢;exact q
  ·rw[aA z]at q⊢;exact s1 _ _ q
 ·have z:c≠p:=λz=>n (by rw[z];exact hp);rw[aA z];exact h
def di:Nat->List Qg->List Qg|_,[]=>[]|n,x::r=>.tuple [.int n,x]::di (n+1) r
theorem io:∀{xs:List Qg}{n i:Nat},(di n xs)[i]?=(xs[i]?).map λx=>.tuple [.int ((n+i:Nat):Int),x]|[],n,i=>by simp[di]|x::r,n,0=>by simp[di]|x::r,n,i+1=>by simp only[di,Vc];rw[io (xs:=r) (n:=n+1) (i:=i)];congr 1;funext y;rw[show n+1+i=n+(i+1) by lia]
theorem ip:∀(xs:List Qg) (n:Nat),(di n xs).length=xs.length|[],_=>rfl|x::r,n=>by simp[di,ip r (n+1)]
def gP:List Qg->List Qg->List Qg|x::r,y::s=>.tuple [x,y]::gP r s|_,_=>[]
theorem xV:∀{xs ys:List Qg}{i:Nat}{d:Qg},(gP xs ys)[i]?=some d->∃x y,xs[i]?=some x/\ys[i]?=some y/\d=.tuple [x,y]|[],ys,i,d,h=>by simp[gP]at h|x::r,[],i,d,h=>by simp[gP]at h|x::r,y::s,0,d,h=>by simp only[gP,List.getElem?_cons_zero]at h;cases h;exact⟨x,y,rfl,rfl,rfl⟩|x::r,y::s,i+1,d,h=>by simp only[gP,Vc]at h;obtain⟨a,b,h1,h2,h3⟩:=xV h;exact⟨a,b,by simpa using h1,by simpa using h2,h3⟩
theorem xW:∀(xs ys:List Qg),(gP xs ys).length=min xs.length ys.length|[],ys=>by simp[gP]|x::r,[]=>by simp[gP]|x::r,y::s=>by simp[gP,xW r s]
theorem wB{P Q:Hp->Qe->List V->Prop}{J:It}{l1 l2:Qe}{b1 b2:Bool}{xs ys:List Qg}{own1 own2:jq}{F0:Hp}(h1:vH K σ F0 l1 b1 xs own1)(h2:vH K σ F0 l2 b2 ys own2)(hP:∀H vs,(if b1=true then jR K H l1 vs else eO K H l1 vs)->P H l1 vs)(hQ:∀H vs,(if b2=true then jR K H l2 vs else eO K H l2 vs)->Q H l2 vs)(go:∀i H vs us x y,P H l1 vs->Q H l2 us->vs[i]?=some x->us[i]?=some y->J.go i H)(stop:∀i H vs us,P H l1 vs->Q H l2 us->(vs.length<=i\/us.length<=i)->J.stop i H)(yld:∀i H v H',J.yld i H v H'->∃p x y,v=.ref p/\H p=none/\H'=bz H p (.tup [x,y])/\∀xs ys,P H l1 xs->Q H l2 ys->xs[i]?=some x/\ys[i]?=some y):Aq K σ J (gP xs ys) (own1++own2) F0:=by intro F H s0 s1 hh;obtain⟨vs,d1,q1⟩:=h1.at s0 s1 hh λ_ h=>RK.mpr (.inl h);obtain⟨us,d2,q2⟩:=h2.at s0 s1 hh λ_ h=>RK.mpr (.inr h);have q1:=hP H vs q1;have q2:=hQ H us q2;have l1':=d1.len;have l2':=d2.len;rw[xW];refine⟨λi hi=>go i H vs us (vs[i]'↥0) (us[i]'↥0) q1 q2 (QR _) (QR _),λi hi=>stop i H vs us q1 q2 ↥0,λi x v H' hx hy=>?_⟩;obtain⟨t,a,b,rfl,ht,rfl,hy3⟩:=yld i H v H' hy;obtain⟨x',y',hx2,hy',rfl⟩:=xV hx;obtain⟨w,g1,g2⟩:=d1.get hx2;obtain⟨w',g3,g4⟩:=d2.get hy';obtain⟨e1,e2⟩:=hy3 vs us q1 q2;rw[g1]at e1;cases e1;rw[g3]at e2;cases e2;exact wV s1 ht g2 g4
def aT(lo:Int)(n:Nat):List Qg:=(RV n).map fun(i:Nat)=>.int (lo+(i:Int))
theorem ym{lo:Int}{n:Nat}{F0:Hp}:Aq K σ (K7 lo n) (aT lo n) [] F0:=by intro F H s0 s1 hh;unfold aT;rw[Qz,List.length_range];refine⟨λi hi=>hi,λi hi=>hi,λi x v H' hx hy=>?_⟩;obtain⟨rfl,rfl⟩:=hy;rw[QD]at hx;obtain⟨k,h1,rfl⟩:=P9 hx;have h2:=(P_ h1).2;simp at h2;subst h2;exact⟨F,aG.refl _,aG.refl _,s1,λ_ h _=>h,bT.mpr rfl⟩
end
inductive Lk (K:⇑0) (own:jq) (σ0:L2.St) (F1:Hp) (P:En->Prop) (G:L2.St->Hp->Hp->En->Prop) (σ:L2.St) (H:Hp):Prop|mk{F:Hp}{e:En}(R:bc K F H σ e) (kp:keeps own e) (hσ:∀p∈own,σ[p.1]?=σ0[p.1]?) (sF:aG F1 F) (hf:P e) (q:G σ F H e):Lk K own σ0 F1 P G σ H
section
variable{X:Cx}{K:⇑0}{tg a b:Qh}{es:List Qh}{fa:FE}{fs:FA}{pos p tp:Pos}{k0:Nat}
def iE(fa:FE):FI:=λe=>(fa e).bind λp=>(vw p.2 p.1).map λs=>(s.2.1,s.2.2,p.2)
theorem dH(hK:X.K=K)(h:PE X a (fE K fa)):PI X tg a (fI K (iE fa)):=((xf (tg:=tg) hK h).or (FY (tg:=tg) hK h)).mono λσ H R hh=>by obtain⟨F,e,items,own,e',R0,hf,q⟩:=hh;unfold iE at hf;obtain⟨⟨r,e1⟩,h1,hf⟩:=P8 hf;obtain⟨⟨b,xs,ow⟩,h2,hf⟩:=P9 hf;cases hf;cases b with|true=>refine .inl ⟨F,e,r,e1,R0,h1,λF1 H1 v X1 R1 A1=>?_⟩;obtain⟨F2,p,R2,s2,f2,rfl,sc,kp⟩:=nH R1 A1 h2;obtain⟨vs,_,c⟩:=sc.at (aG.refl _) R2.sm (R2.held kp) λ_ h=>h;exact⟨p,rfl,⟨vs,c⟩,q _ F2 H1 (X1.frz s2 f2) R2 kp (tP sc)⟩|false=>refine .inr ⟨F,e,r,e1,R0,h1,λF1 H1 v X1 R1 A1=>?_⟩;obtain⟨F2,p,R2,s2,f2,rfl,sc,kp⟩:=nH R1 A1 h2;obtain⟨vs,_,c⟩:=sc.at (aG.refl _) R2.sm (R2.held kp) λ_ h=>h;exact⟨p,rfl,⟨vs,c⟩,q _ F2 H1 (X1.frz s2 f2) R2 kp (wA sc)⟩
def oZ(fs:FA):FI:=λe=>(fs e).bind λp=>match p.1 with|[r]=>(vw p.2 r).map λs=>(di 0 s.2.1,s.2.2,p.2)|_=>none
def Cm(fs:FA):FI:=λe=>(fs e).bind λp=>match p.1 with|[r,t]=>(vw p.2 r).bind λs=>(vw p.2 t).map λu=>(gP s.2.1 u.2.1,s.2.2++u.2.2,p.2)|_=>none
theorem vH.mono{σ:L2.St}{F F':Hp}{p:Qe}{b:Bool}{xs:List Qg}{own:jq}(h:vH K σ F p b xs own)(s:aG F F'):vH K σ F' p b xs own:=by cases h with|tup h1 h2=>exact .tup (s.tup h1) (h2.mono s)|lst h1 h2=>exact .lst (s.seq h1) (h2.mono s)|own h1=>exact .own h1
def DG(j:Int):Bool:=decide (-1000000<=j)&&decide (j<=1000000)
theorem DH{j:Int}(h:DG j=true):-1000000<=j/\j<=1000000:=by unfold DG at h;rw[QU,decide_eq_true_iff,decide_eq_true_iff]at h;exact h
def cq(fs:FA):FI:=λe=>(fs e).bind λp=>match p.1 with|[r]=>(bL r).bind λj=>if DG j=true then some (aT 0 j.toNat,[],p.2) else none|_=>none
theorem bY(hg:Gl X "range")(hm:X.mg "range"=none)(ha:PA X [a] (fA K fs))(hs:Qq [a] X.env=[(false,Qs a X.env)]):PI X tg (.Call (.Name "range" p) [a] [] pos) (fI K (cq fs)):=(A7 hg hm ha hs).mono λσ H R hh=>by obtain⟨F,e,items,own,e',R0,hf,q⟩:=hh;unfold cq at hf;obtain⟨⟨rs,e1⟩,h1,hf⟩:=P8 hf;match rs,h1,hf with
 |[r],h1,hf=>
 obtain⟨j,h2,hf⟩:=P8 hf;split at hf;case isFalse=>cases hf
 case isTrue hj=>cases hf;refine⟨F,e,_,e1,R0,h1,λF1 H1 vs X1 R1 A1=>?_⟩;obtain⟨v,rfl,A2⟩:=pY A1;have:=DH hj;exact⟨j,by rw[bS A2 h2],by lia,by lia,q _ F1 H1 X1 R1 (λ_ h=>by cases h) ym⟩
open Classical in
def j5(own:jq)(g:FG)(f:FS):List Qg->FS|[],e=>some (.nx e)|x::r,e=>(g x e).bind λe1=>(f e1).bind λfl=>match fl with|.nx e2=>if keeps own e2 then j5 own g f r e2 else none|.ct e2=>if keeps own e2 then j5 own g f r e2 else none|.bk e2=>some (.nx e2)|.rt v e2=>some (.rt v e2)
def cx(W:List Nat)(fi:FI)(g:FG)(f:FS):FS:=λe=>(fi e).bind λp=>if (p.2.1.all λq=>!W.contains q.1)=true then j5 p.2.1 g f p.1 p.2.2 else none
theorem dI{W1 W2:List Nat}{iter:Qh}{body:List Qo}{fi:FI}{g:FG}{f:FS}(hp:PassesOwn (Ql X.prog X.w) X.A X.env X.xe)(hc:X.calm=true)(hi:PI X tg iter (fI K fi))(hg:PG X tg (fG K g W1))(hb:mD X body (fS K f W2))(hs:∀x,Rl iter X.env x=pure x):PS X (.For tg iter body [] pos) (fS K (cx (W1++W2) fi g f) (W1++W2)):=(IP hp hc hi hg hb hs).mono λD σ0 H0 hh=>by
 obtain⟨F0,e0,fl,R0,hf,q0⟩:=hh;unfold cx at hf;obtain⟨⟨items,own,e1⟩,h1,hf⟩:=P8 hf;dsimp only at hf;split at hf;case isFalse=>cases hf
 case isTrue hW=>
 have hW':∀p∈own,p.1∉W1++W2:=λp hp=>by have:=Rp.mp hW p hp;simpa using this
 refine⟨F0,e0,items,own,e1,R0,h1,λJ F1 H1 X1 R1 kp ok=>?_⟩;have s1:∀j,j∈W1->j∈W1++W2:=λj h=>RK.mpr (.inl h);have s2:∀j,j∈W2->j∈W1++W2:=λj h=>RK.mpr (.inr h);have q1:qA K (W1++W2) σ0 F1 H1 e1 D fl:=q0.later (W1:=[]) X1.s (λj h=>by cases h) λj h=>h;refine⟨λi m σ H=>m=items.length-i/\i<=items.length/\Lk K own σ0 F1 (λe=>j5 own g f (items.drop i) e=some fl) (λσ F H e=>qA K (W1++W2) σ F H e D fl) σ H,⟨items.length,by simp,Ss _,.mk R1 kp ↥4 (aG.refl _) hf q1⟩,?_⟩;rintro i m σ H⟨rfl,hi,⟨R,kp,hσ,sF,hf,q⟩⟩;rename_i F e;have held:Ap K σ0 F H own:=λp hp=>by obtain⟨l,vs,g1,g2⟩:=R.held kp p hp;exact⟨l,vs,by rw[<-hσ p hp];exact g1,g2⟩
 obtain⟨go,stop,yld⟩:=ok F H sF R.sm held;by_cases hlt:i<items.length
 ·have hd:items.drop i=items[i]::items.drop (i+1):=Ub hlt;rw[hd]at hf;unfold j5 at hf;obtain⟨e2,h2,hf⟩:=P8 hf;obtain⟨fl2,h3,hf⟩:=P8 hf;refine .inr ⟨go i hlt,Lk K own σ0 F1 (λe=>j5 own g f (items.drop (i+1)) e=some fl) (λσ F H e=>qA K (W1++W2) σ F H e D fl),λσ' H' r=>⟨items.length-(i+1),by lia,rfl,hlt,r⟩,λx H' hy=>?_⟩;obtain⟨F',sH,sF',sm',fz,hx⟩:=yld i items[i] x H' (QR hlt) hy;obtain⟨R',X'⟩:=R.step sH sF' sm' fz;refine⟨F',e,items[i],e2,R',hx,h2,λσ2 x2 R2=>⟨F',e2,fl2,R2,h3,?_⟩⟩;have q2:qA K (W1++W2) σ2 F' H' e2 D fl:=(q.later (W1:=[]) (W2:=W1++W2) X'.s (λj h=>by cases h) λj h=>h).later x2 s1 λj h=>h
  have w2:∀p∈own,σ2[p.1]?=σ0[p.1]?:=λp hp=>(x2.wr p.1 λz=>hW' p hp (s1 _ z)).trans (hσ p hp);cases fl2 with|nx e3=>
   intro F3 H3 σ3 x3 R3;dsimp only at hf;split at hf;case isFalse=>cases hf
   case isTrue kp3=>exact .mk R3 kp3 (λp hp=>(x3.wr p.1 λz=>hW' p hp (s2 _ z)).trans (w2 p hp)) (sF.trans (sF'.trans x3.sf)) hf (q2.later x3 s2 λj h=>h)|ct e3=>
   intro F3 H3 σ3 x3 R3;dsimp only at hf;split at hf;case isFalse=>cases hf
   case isTrue kp3=>exact .mk R3 kp3 (λp hp=>(x3.wr p.1 λz=>hW' p hp (s2 _ z)).trans (w2 p hp)) (sF.trans (sF'.trans x3.sf)) hf (q2.later x3 s2 λj h=>h)|bk e3=>cases hf;exactλF3 H3 σ3 x3 R3=>q2 F3 H3 σ3 (x3.mono s2) R3|rt r e3=>cases hf;exactλF3 H3 σ3 v x3 R3 A3=>q2 F3 H3 σ3 v (x3.mono s2) R3 A3
 ·have hd:items.drop i=[]:=Uc ↥0;rw[hd]at hf;cases hf;exact .inl ⟨stop i ↥0,q F H σ dr.refl R⟩
end
def AO:Option (Option Sv)->Bool|some (some (.l _))=>true|_=>false
theorem zw{s:Option (Option Sv)}:AO s=true↔∃xs,s=some (some (.l xs)):=by
 unfold AO;split;·simp
 ·rename_i h;constructor;·intro z;cases z
  ·rintro⟨xs,rfl⟩;exact absurd rfl (h xs)
def mB(pos:Nat->Option Nat)(ei e:En):En:=e.mapIdx λi s=>match s with
 |some (.l xs)=>match pos i with|some k=>(ei[k]?).join|none=>some (.l xs)
 |s=>s
theorem ci{pos:Nat->Option Nat}{ei e:En}{i:Nat}:(mB pos ei e)[i]?=(e[i]?).map λs=>match s with
 |some (.l xs)=>match pos i with|some k=>(ei[k]?).join|none=>some (.l xs)
 |s=>s:=by unfold mB;rw[List.getElem?_mapIdx]
structure vM (σ:L2.St) (e:En) (σi:L2.St) (ei:En) (pos:Nat->Option Nat):Prop where
 a:∀(i k:Nat) (xs:List Qg),e[i]?=some (some (.l xs))->pos i=some k->σi[k]?=σ[i]?
 b:∀(k:Nat) (ys:List Qg),ei[k]?=some (some (.l ys))->∃(i:Nat) (xs:List Qg),e[i]?=some (some (.l xs))/\pos i=some k/\σi[k]?=σ[i]?
section
variable{K:⇑0}{σ σi σi':L2.St}{F H F' H':Hp}{e ei ei':En}{pos:Nat->Option Nat}
def JI(e:En):Prop:=∀(i:Nat) (xss:List (List Qg)),e[i]?≠some (some (.n xss))
theorem vM.own(s:vM σ e σi ei pos)(hn:JI ei){a:Qe}{H H':Hp}(h:cm σi ei H a):∃(i k:Nat) (xs:List Qg),e[i]?=some (some (.l xs))/\pos i=some k/\σ[i]?=some (some (.ref a)):=by
 obtain⟨k,⟨ys,h1,h2⟩|⟨xss,_,_,h1,_⟩⟩:=h;·obtain⟨i,xs,g1,g2,g3⟩:=s.b k ys h1;exact⟨i,k,xs,g1,g2,by rw[<-g3];exact h2⟩
 ·exact absurd h1 (hn k xss)
theorem nI(R:bc K F H σ e)(s:vM σ e σi ei pos)(hnn:JI ei)(sf:aG F F')(dom:∀a,H' a=none->H a=none)(fr:∀a vs,F a=none->H a=some (.lst vs)->¬cm σi ei H a->F' a=none)(lst:∀a vs,H a=some (.lst vs)->∃vs',H' a=some (.lst vs'))(tmp:∀a o,H a=some o->¬cm σi ei H a->H' a=some o)(fd:∀a m,F a=none->H a=some (.dK m)->¬cm σi ei H a->F' a=none)(R':bc K F' H' σi' ei')(hσ:∀(i k:Nat) (xs:List Qg),e[i]?=some (some (.l xs))->pos i=some k->σi'[k]?=σi[k]?)(hsh:∀(i k:Nat) (xs:List Qg),e[i]?=some (some (.l xs))->pos i=some k->∃ys,ei'[k]?=some (some (.l ys))):bc K F' H' σ (mB pos ei' e)/\fm σ F H e F' H' (mB pos ei' e)/\∀a,cm σ (mB pos ei' e) H' a->cm σ e H a:=by
 have shp:∀i:Nat,(∃xs,(mB pos ei' e)[i]?=some (some (.l xs)))↔(∃xs,e[i]?=some (some (.l xs))):=by intro i;rw[ci];match h:e[i]? with
  |none=>simp|some none=>simp|some (some (.d x))=>simp|some (some (.n x))=>simp|some (some (.l xs))=>
   simp only[RP];constructor;·intro _;exact⟨xs,rfl⟩
   ·intro _;match hp:pos i with|none=>exact⟨xs,rfl⟩|some k=>obtain⟨ys,g⟩:=hsh i k xs h hp;exact⟨ys,by show some ((ei'[k]?).join)=_;rw[g];rfl⟩
 have oth:∀(i:Nat) (s:Sv),(∀xs,s≠.l xs)->((mB pos ei' e)[i]?=some (some s)↔e[i]?=some (some s)):=by
  intro i s hs;constructor;·intro h;rw[ci]at h;match h1:e[i]?,h with
   |some (some (.d y)),h=>exact h|some (some (.n y)),h=>exact h|some (some (.l ys)),h=>simp only[RP,Tw]at h;match hp:pos i,h with|none,h=>cases h;exact absurd rfl (hs _)|some k,h=>obtain⟨zs,g⟩:=hsh i k ys h1 hp;change (ei'[k]?).join=_ at h;rw[g]at h;cases h;exact absurd rfl (hs _)
   |some none,h=>simp at h|none,h=>simp at h
  ·intro h;rw[ci,h];cases s with|d y=>rfl|n y=>rfl|l y=>exact absurd rfl (hs y)
 have out:∀i a,Fp σ e H i a->(∀k xs,e[i]?=some (some (.l xs))->pos i≠some k)->¬cm σi ei H a:=by intro i a hi hp z;obtain⟨j,k,ws,d1,d2,d3⟩:=s.own hnn (H':=H') z;have:i=j:=R.fp i j a hi (.inl ⟨ws,d1,d3⟩);subst this;exact hp k ws d1 d2
 have keep:∀i a o,Fp σ e H i a->(∀k xs,e[i]?=some (some (.l xs))->pos i≠some k)->H a=some o->H' a=some o:=λi a o hi hp ha=>tmp a o ha (out i a hi hp);have sown:∀a,cm σi ei H a->cm σ e H a:=λa z=>by obtain⟨j,k,ws,d1,d2,d3⟩:=s.own hnn (H':=H') z;exact⟨j,.inl ⟨ws,d1,d3⟩⟩
 have fs:∀i a,Fp σ (mB pos ei' e) H' i a↔Fp σ e H i a:=by
  intro i a;have key:∀xss l,e[i]?=some (some (.n xss))->σ[i]?=some (some (.ref l))->H' l=H l:=λxss l h1 h2=>by obtain⟨l',bs,g1,g2,g3,_⟩:=R.nst i xss h1;rw[h2]at g1;cases g1;rw[g3];exact keep i l _ (.inr ⟨xss,l,bs,h1,h2,g3,.inl rfl⟩) (λk xs z=>by rw[h1]at z;cases z) g3
  constructor
  ·rintro(⟨xs,h1,h2⟩|⟨xss,l,bs,h1,h2,h3,h4⟩);·obtain⟨ys,h⟩:=(shp i).mp ⟨xs,h1⟩;exact .inl ⟨ys,h,h2⟩
   ·have h1':=(oth i (.n xss) (λ_ z=>nomatch z)).mp h1;exact .inr ⟨xss,l,bs,h1',h2,by rw[<-key xss l h1' h2];exact h3,h4⟩
  ·rintro(⟨xs,h1,h2⟩|⟨xss,l,bs,h1,h2,h3,h4⟩);·obtain⟨ys,h⟩:=(shp i).mpr ⟨xs,h1⟩;exact .inl ⟨ys,h,h2⟩
   ·exact .inr ⟨xss,l,bs,(oth i (.n xss) (λ_ z=>nomatch z)).mpr h1,h2,by rw[key xss l h1 h2];exact h3,h4⟩
 refine⟨⟨R'.sm,?_,λi x h=>?_,λi xs h=>?_,λi xss h=>?_,λi j a h1 h2=>R.fp i j a ((fs i a).mp h1) ((fs j a).mp h2)⟩,⟨sf,dom,λa vs h1 h2 n=>fr a vs h1 h2 λz=>n (sown a z),lst,λa o h n=>tmp a o h λz=>n (sown a z),shp,λa⟨i,h⟩=>.inl ⟨i,(fs i a).mp h⟩,λa m h1 h2 n=>fd a m h1 h2 λz=>n (sown a z)⟩,λa⟨i,h⟩=>⟨i,(fs i a).mp h⟩⟩;·unfold mB;rw[List.length_mapIdx];exact R.len
 ·obtain⟨v,g1,g2⟩:=R.dat i x ((oth i (.d x) (λ_ z=>nomatch z)).mp h);exact⟨v,g1,DA.mono sf g2⟩
 ·obtain⟨ys,h1⟩:=(shp i).mp ⟨xs,h⟩;obtain⟨l,vs,g1,g2,g3,g4⟩:=R.own i ys h1;rw[ci,h1]at h;simp only[RP,Tw]at h;match hp:pos i,h with
  |none,h=>
   cases h;have np:∀k xs,e[i]?=some (some (Sv.l xs))->pos i≠some k:=λk xs _ z=>by rw[hp]at z;cases z
   have fi:Fp σ e H i l:=.inl ⟨_,h1,g1⟩;exact⟨l,vs,g1,fr l vs g2 g3 (out i l fi np),keep i l _ fi np g3,g4.mono sf⟩|some k,h=>obtain⟨zs,c1⟩:=hsh i k ys h1 hp;change (ei'[k]?).join=_ at h;rw[c1]at h;cases h;obtain⟨l',vs',d1,d2,d3,d4⟩:=R'.own k _ c1;rw[hσ i k ys h1 hp,s.a i k ys h1 hp]at d1;exact⟨l',vs',d1,d2,d3,d4⟩
 ·have h1:=(oth i (.n xss) (λ_ z=>nomatch z)).mp h;obtain⟨l,bs,g1,g2,g3,g4,g5,g6,g7⟩:=R.nst i xss h1;have np:∀k xs,e[i]?=some (some (Sv.l xs))->pos i≠some k:=λk xs z=>by rw[h1]at z;cases z
  have fi:Fp σ e H i l:=.inr ⟨xss,l,bs,h1,g1,g3,.inl rfl⟩;refine⟨l,bs,g1,fr l _ g2 g3 (out i l fi np),keep i l _ fi np g3,g4,g5,g6,λk b ys q1 q2=>?_⟩;obtain⟨c1,us,c2,c3⟩:=g7 k b ys q1 q2;have fb:Fp σ e H i b:=.inr ⟨xss,l,bs,h1,g1,g3,.inr (Qc q1)⟩;exact⟨fr b _ c1 c2 (out i b fb np),us,keep i b _ fb np c2,c3.mono sf⟩
end
def cA(e:En):List Rv->Option (List Sv)|[]=>some []|.d x::r=>(cA e r).map (.d x::·)|.l xs::r=>(cA e r).map (.d (.list xs)::·)|.s i::r=>match e[i]? with|some (some (.l xs))=>(cA e r).map (.l xs::·)|_=>none
def aS:List Rv->List Nat|[]=>[]|.s i::r=>i::aS r|.d _::r=>aS r|.l _::r=>aS r
def mw(rs:List Rv)(i:Nat):Option Nat:=rs.findIdx? λr=>match r with|.s j=>j==i|_=>false
def noS:Rv->Prop|.s _=>False|_=>True
abbrev FM:=List Sv->Option (Rv×List Sv)
def fX(K:⇑0)(n:Nat)(m:FM):Sp:=λvs H Q _=>vs.length=n/\∃F as r as',bc K F H (vs.map some) (as.map some)/\JI (as.map some)/\m as=some (r,as')/\noS r/\∀F' H' v,fm (vs.map some) F H (as.map some) F' H' (as'.map some)->bc K F' H' (vs.map some) (as'.map some)->cw K (vs.map some) H F' H' (as'.map some) r v->Q v H'
def bw:List Rv->List Sv->Bool|[],[]=>true|.s _::r,.l _::s=>bw r s|.d _::r,_::s=>bw r s|.l _::r,_::s=>bw r s|_,_=>false
def vd:Rv->Bool|.s _=>false|_=>true
def eC:List Rv->List Sv->En->En|.s i::r,.l ys::s,e=>eC r s (e.set i (some (.l ys)))|.d _::r,_::s,e=>eC r s e|.l _::r,_::s,e=>eC r s e|_,_,e=>e
def bR(n:Nat)(m:FM)(fs:FA):FE:=λe=>(fs e).bind λp=>(cA p.2 p.1).bind λas=>(m as).bind λz=>if p.1.length=n/\(aS p.1).Nodup/\bw p.1 z.2=true/\vd z.1=true then some (z.1,eC p.1 z.2 p.2) else none
theorem j_:∀{rs:List Rv}{as:List Sv},bw rs as=true->∀(k i:Nat),rs[k]?=some (.s i)->∃ys,as[k]?=some (.l ys)
 |[],[],_,k,i,h=>by simp at h|.s j::r,.l ys::s,h,k,i,hk=>by cases k with|zero=>exact⟨ys,rfl⟩|succ k=>simpa using j_ (rs:=r) (as:=s) (by simpa[bw]using h) k i (by simpa using hk)
 |.d x::r,y::s,h,k,i,hk=>by cases k with|zero=>simp at hk|succ k=>simpa using j_ (rs:=r) (as:=s) (by simpa[bw]using h) k i (by simpa using hk)
 |.l x::r,y::s,h,k,i,hk=>by cases k with|zero=>simp at hk|succ k=>simpa using j_ (rs:=r) (as:=s) (by simpa[bw]using h) k i (by simpa using hk)
 |.s _::_,.d _::_,h,_,_,_=>by simp[bw]at h|.s _::_,[],h,_,_,_=>by simp[bw]at h|.d _::_,[],h,_,_,_=>by simp[bw]at h|.l _::_,[],h,_,_,_=>by simp[bw]at h
theorem oj{r0:Rv}{rs:List Rv}{i:Nat}:mw (r0::rs) i=if (match r0 with|.s j=>j==i|_=>false)=true then some 0 else(mw rs i).map (·+1):=by unfold mw;rw[List.findIdx?_cons]
theorem ol{rs:List Rv}{i k:Nat}(h:mw rs i=some k):rs[k]?=some (.s i):=by
 unfold mw at h;rw[VV]at h;obtain⟨hk,h1,_⟩:=h;rw[QR hk];split at h1;·rename_i heq;rw[heq];have:=eq_of_beq h1;rw[this]
 ·cases h1
theorem ir:∀{rs:List Rv}{i:Nat},i∈aS rs↔Rv.s i∈rs|[],i=>by simp[aS]|.s j::r,i=>by simp[aS,ir (rs:=r)]|.d x::r,i=>by simp[aS,ir (rs:=r)]|.l x::r,i=>by simp[aS,ir (rs:=r)]
theorem iN:∀{rs:List Rv}{i k j:Nat},(aS rs).Nodup->rs[k]?=some (.s i)->rs[j]?=some (.s i)->k=j
 |[],i,k,j,_,h,_=>by simp at h|.s m::r,i,k,j,hn,h1,h2=>by simp only[aS,Tc]at hn;cases k with
  |zero=>simp at h1;subst h1;cases j with|zero=>rfl|succ j=>exact absurd (ir.mpr (Qc (by simpa using h2))) hn.1
  |succ k=>cases j with|zero=>simp at h2;subst h2;exact absurd (ir.mpr (Qc (by simpa using h1))) hn.1|succ j=>have:=iN (rs:=r) (i:=i) (k:=k) (j:=j) hn.2 (by simpa using h1) (by simpa using h2);lia
 |.d x::r,i,k,j,hn,h1,h2=>by cases k with|zero=>simp at h1|succ k=>cases j with|zero=>simp at h2|succ j=>have:=iN (rs:=r) (i:=i) (k:=k) (j:=j) (by simpa[aS]using hn) (by simpa using h1) (by simpa using h2);lia
 |.l x::r,i,k,j,hn,h1,h2=>by cases k with|zero=>simp at h1|succ k=>cases j with|zero=>simp at h2|succ j=>have:=iN (rs:=r) (i:=i) (k:=k) (j:=j) (by simpa[aS]using hn) (by simpa using h1) (by simpa using h2);lia
theorem Df{rs:List Rv}{i:Nat}(h:i∉aS rs):mw rs i=none:=by unfold mw;rw[Vd];intro r hr;cases r with|d x=>rfl|l x=>rfl|s j=>have:j≠i:=λz=>h (by rw[<-z];exact ir.mpr hr);simpa using this
theorem pS:∀{rs:List Rv}{as:List Sv}{e:En},(aS rs).Nodup->bw rs as=true->(∀j∈aS rs,∃xs,e[j]?=some (some (.l xs)))->eC rs as e=mB (mw rs) (as.map some) e
 |[],[],e,_,_,_=>by refine Sx λi=>?_;rw[ci];have:mw [] i=none:=rfl;rw[this];simp only[eC];match e[i]? with|none=>rfl|some none=>rfl|some (some (.d x))=>rfl|some (some (.l x))=>rfl|some (some (.n x))=>rfl
 |.d x::r,y::s,e,hn,hl,hs=>by rw[show eC (.d x::r) (y::s) e=eC r s e from rfl,pS (by simpa[aS]using hn) (by simpa[bw]using hl) (λj hj=>hs j (by simpa[aS]using hj))];refine Sx λi=>?_;rw[ci,ci,oj];cases mw r i<;>simp|.l x::r,y::s,e,hn,hl,hs=>by rw[show eC (.l x::r) (y::s) e=eC r s e from rfl,pS (by simpa[aS]using hn) (by simpa[bw]using hl) (λj hj=>hs j (by simpa[aS]using hj))];refine Sx λi=>?_;rw[ci,ci,oj];cases mw r i<;>simp|.s k::r,.l ys::s,e,hn,hl,hs=>by
  simp only[aS,Tc]at hn;obtain⟨xs,hk⟩:=hs k (by simp[aS]);have hlt:k<e.length:=(P_ hk).1;rw[show eC (.s k::r) (.l ys::s) e=eC r s (e.set k (some (.l ys))) from rfl,pS hn.2 (by simpa[bw]using hl) (λj hj=>by have z:k≠j:=λz=>hn.1 (by rw[z];exact hj);rw[QQ z];exact hs j (by simp[aS,hj]))];refine Sx λi=>?_;rw[ci,ci,oj];by_cases z:k=i;·subst z;rw[Rt hlt,hk,Df hn.1];simp
  ·rw[QQ z];have:((match (Rv.s k) with|.s j=>j==i|_=>false)=true)=False:=by simp[z]
   simp only[this,if_false];cases mw r i<;>simp|.s _::_,.d _::_,_,_,h,_=>by simp[bw]at h|.s _::_,.n _::_,_,_,h,_=>by simp[bw]at h|.s _::_,[],_,_,h,_=>by simp[bw]at h|.d _::_,[],_,_,h,_=>by simp[bw]at h|.l _::_,[],_,_,h,_=>by simp[bw]at h|[],_::_,_,_,h,_=>by simp[bw]at h
theorem hU{e:En}:∀{rs:List Rv}{as:List Sv},cA e rs=some as->∀j∈aS rs,∃xs,e[j]?=some (some (.l xs))|[],_,_,j,h=>by simp[aS]at h|.d x::rs,as,q,j,h=>by obtain⟨as',q1,rfl⟩:=P9 q;exact hU q1 j (by simpa[aS]using h)|.l x::rs,as,q,j,h=>by obtain⟨as',q1,rfl⟩:=P9 q;exact hU q1 j (by simpa[aS]using h)|.s k::rs,as,q,j,h=>by unfold cA at q;match he:e[k]?,q with
 |some (some (.l xs)),q=>
  obtain⟨as',q1,rfl⟩:=P9 q;simp only[aS,QV]at h;rcases h with rfl|h;·exact⟨xs,he⟩
  ·exact hU q1 j h
theorem mF{e:En}:∀{rs:List Rv}{as:List Sv}{k i:Nat},cA e rs=some as->rs[k]?=some (.s i)->∃xs,as[k]?=some (.l xs)
 |[],_,k,i,_,h=>by simp at h|.d x::rs,as,k,i,q,h=>by obtain⟨as',q1,rfl⟩:=P9 q;cases k with|zero=>simp at h|succ k=>simpa using mF (k:=k) (i:=i) q1 (by simpa using h)
 |.l x::rs,as,k,i,q,h=>by obtain⟨as',q1,rfl⟩:=P9 q;cases k with|zero=>simp at h|succ k=>simpa using mF (k:=k) (i:=i) q1 (by simpa using h)
 |.s j::rs,as,k,i,q,h=>by unfold cA at q;match he:e[j]?,q with|some (some (.l xs)),q=>obtain⟨as',q1,rfl⟩:=P9 q;cases k with|zero=>exact⟨xs,rfl⟩|succ k=>simpa using mF (k:=k) (i:=i) q1 (by simpa using h)
section
variable{X:Cx}{K:⇑0}{σ:L2.St}{H0 H:Hp}{e:En}
theorem pP:∀{rs:List Rv}{vs:List V}{as:List Sv}{F:Hp},bc K F H σ e->cz K σ H0 F H e rs vs->cA e rs=some as->∃F',bc K F' H σ e/\aG F F'/\(∀a,F a=none->H0 a≠none->F' a=none)/\vs.length=as.length/\rs.length=as.length/\(∀(k:Nat) (x:Qg),as[k]?=some (.d x)->∃v,vs[k]?=some v/\DA K F' x v)/\∀(k:Nat) (xs:List Qg),as[k]?=some (.l xs)->∃i,rs[k]?=some (.s i)/\e[i]?=some (some (.l xs))/\∃v,vs[k]?=some v/\σ[i]?=some (some v)
 |[],vs,as,F,R,h,q=>by cases q;have h':vs=[]:=h;subst h';exact⟨F,R,aG.refl _,λ_ h _=>h,rfl,rfl,λk x h=>by simp at h,λk x h=>by simp at h⟩|.d x::rs,_,as,F,R,h,q=>by
  obtain⟨v,ws,rfl,h1,h2⟩:=h;obtain⟨as',q1,rfl⟩:=P9 q;obtain⟨F',R',s',f',l1,l2,d',o'⟩:=pP R h2 q1;refine⟨F',R',s',f',by simp[l1],by simp[l2],λk y hk=>?_,λk ys hk=>?_⟩;·cases k with|zero=>simp at hk;subst hk;exact⟨v,rfl,DA.mono s' h1⟩|succ k=>simpa using d' k y (by simpa using hk)
  ·cases k with|zero=>simp at hk|succ k=>simpa using o' k ys (by simpa using hk)
 |.l xs::rs,_,as,F,R,h,q=>by
  obtain⟨v,ws,rfl,h1,h2⟩:=h;obtain⟨as',q1,rfl⟩:=P9 q;obtain⟨F',R',s',f',l1,l2,d',o'⟩:=pP R h2 q1;have key:∃F2,bc K F2 H σ e/\aG F' F2/\(∀a,F' a=none->H0 a≠none->F2 a=none)/\DA K F2 (.list xs) v:=by obtain⟨l,us,rfl,g1,g2,g3,g4,g5⟩:=h1;cases hl:F' l with|none=>have h1':cw K σ H0 F' H e (.l xs) (.ref l):=⟨l,us,rfl,g1,hl,g3,aR.mono s' g4,g5⟩;obtain⟨F2,R2,s2,d2,f2⟩:=h1'.frozen R';exact⟨F2,R2,s2,f2,d2⟩|some o=>have:=R'.sm _ _ hl;rw[g3]at this;cases this;exact⟨F',R',aG.refl _,λ_ h _=>h,cB.mpr ⟨l,us,rfl,.inl (.inl hl),aR.mono s' g4⟩⟩
  obtain⟨F2,R2,s2,f2,d2⟩:=key;refine⟨F2,R2,s'.trans s2,λa ha hn=>f2 a (f' a ha hn) hn,by simp[l1],by simp[l2],λk y hk=>?_,λk ys hk=>?_⟩;·cases k with|zero=>simp at hk;subst hk;exact⟨v,rfl,d2⟩|succ k=>obtain⟨u,c1,c2⟩:=d' k y (by simpa using hk);exact⟨u,by simpa using c1,DA.mono s2 c2⟩
  ·cases k with|zero=>simp at hk|succ k=>simpa using o' k ys (by simpa using hk)
 |.s i::rs,_,as,F,R,h,q=>by obtain⟨v,ws,rfl,h1,h2⟩:=h;unfold cA at q;match he:e[i]?,q with
  |some (some (.l xs)),q=>
   obtain⟨as',q1,rfl⟩:=P9 q;obtain⟨F',R',s',f',l1,l2,d',o'⟩:=pP R h2 q1;refine⟨F',R',s',f',by simp[l1],by simp[l2],λk y hk=>?_,λk ys hk=>?_⟩;·cases k with|zero=>simp at hk|succ k=>simpa using d' k y (by simpa using hk)
   ·cases k with|zero=>simp at hk;subst hk;exact⟨i,rfl,he,v,rfl,h1.1⟩|succ k=>simpa using o' k ys (by simpa using hk)
theorem hZ{α:Type}{l:List α}{k:Nat}{x:α}:(l.map some)[k]?=some (some x)↔l[k]?=some x:=by rw[QD];cases l[k]?<;>simp
theorem cw.noS{σ':L2.St}{e':En}{F H:Hp}{r:Rv}{v:V}(h:cw K σ' H0 F H e' r v)(n:L2.noS r)(ho:∀a,cm σ e H a->H0 a≠none):cw K σ H0 F H e r v:=by cases r with|d x=>exact h|l xs=>obtain⟨l,vs,e1,h1,h2,h3,h4,_⟩:=h;exact⟨l,vs,e1,h1,h2,h3,h4,λz=>ho l z h1⟩|s i=>exact absurd n (by simp[L2.noS])
theorem jS:∀{rs:List Rv}{as:List Sv},cA e rs=some as->JI (as.map some)
 |[],_,q=>by cases q;intro i xss h;simp at h|.d x::rs,as,q=>by obtain⟨as',q1,rfl⟩:=P9 q;have ih:=jS q1;intro i xss h;cases i with|zero=>simp at h|succ i=>exact ih i xss (by simpa using h)
 |.l x::rs,as,q=>by obtain⟨as',q1,rfl⟩:=P9 q;have ih:=jS q1;intro i xss h;cases i with|zero=>simp at h|succ i=>exact ih i xss (by simpa using h)
 |.s j::rs,as,q=>by unfold cA at q;match he:e[j]?,q with|some (some (.l xs)),q=>obtain⟨as',q1,rfl⟩:=P9 q;have ih:=jS q1;intro i xss h;cases i with|zero=>simp at h|succ i=>exact ih i xss (by simpa using h)
theorem Jz{n:Nat}{m:FM}{fs:FA}{Q:VK}{E:XK}(h:fE K (bR n m fs) σ H Q):z9 (fX K n m) [] E (fA K fs) σ H Q:=by
 obtain⟨F,e,z,e',R,hf,q⟩:=h;unfold bR at hf;obtain⟨⟨rs,e1⟩,h1,hf⟩:=P8 hf;obtain⟨as,h2,hf⟩:=P8 hf;obtain⟨⟨r,as'⟩,h3,hf⟩:=P8 hf;split at hf;case isFalse=>cases hf
 case isTrue hc=>
 obtain⟨c1,c2,c3,c4⟩:=hc;cases hf;refine⟨F,e,rs,e1,R,h1,λF1 H1 vs X1 R1 A1=>?_⟩;obtain⟨F2,R2,s2,f2,l1,l2,d2,o2⟩:=pP R1 A1 h2;have X2:=X1.frz s2 f2;rw[RF];have hn:L2.noS r:=by cases r with|d x=>trivial|l x=>trivial|s i=>cases c4
 have nN:=jS h2;have RA:bc K F2 H1 (vs.map some) (as.map some):=by
  refine⟨R2.sm,by simp[l1],λk x hk=>?_,λk xs hk=>?_,λk xss hk=>absurd hk (nN k xss),λk j l f1 f2=>?_⟩;·obtain⟨v,g1,g2⟩:=d2 k x (hZ.mp hk);exact⟨v,hZ.mpr g1,g2⟩
  ·obtain⟨i,g1,g2,v,g3,g4⟩:=o2 k xs (hZ.mp hk);obtain⟨l,us,k1,k2,k3,k4⟩:=R2.own i xs g2;rw[g4]at k1;cases k1;exact⟨l,us,hZ.mpr g3,k2,k3,k4⟩
  ·obtain⟨xs,g1,g3⟩:=f1.resolve_right λ⟨xss,_,_,z,_⟩=>nN k xss z;obtain⟨ys,g2,g4⟩:=f2.resolve_right λ⟨xss,_,_,z,_⟩=>nN j xss z;obtain⟨i1,a1,a2,v1,a3,a4⟩:=o2 k xs (hZ.mp g1);obtain⟨i2,b1,b2,v2,b3,b4⟩:=o2 j ys (hZ.mp g2);have e1:=hZ.mp g3;have e2:=hZ.mp g4;rw[a3]at e1;cases e1;rw[b3]at e2;cases e2;have:i1=i2:=R2.inj i1 i2 xs ys l a2 b2 a4 b4;subst this;exact iN c2 a1 b1
 have sub:vM σ e1 (vs.map some) (as.map some) (mw rs):=by
  refine⟨λi k xs g1 g2=>?_,λk ys g1=>?_⟩;·have g3:=ol g2;obtain⟨zs,hs⟩:=mF h2 g3;obtain⟨i',a1,a2,v,a3,a4⟩:=o2 k zs hs;rw[g3]at a1;cases a1;rw[hZ.mpr a3,a4]
  ·obtain⟨i,a1,a2,v,a3,a4⟩:=o2 k ys (hZ.mp g1);refine⟨i,ys,a2,?_,by rw[hZ.mpr a3,a4]⟩;cases hp:mw rs i with|none=>unfold mw at hp;rw[Vd]at hp;have:=hp _ (Qc a1);simp at this|some j=>rw[iN c2 (ol hp) a1]
 refine⟨by rw[l1,<-l2];exact c1,F2,as,r,as',RA,nN,h3,hn,λF' H' v X3 R3 A3=>?_⟩;obtain⟨R4,X4,o4⟩:=nI R2 sub nN X3.sf X3.dom X3.fr X3.lst X3.tmp X3.fd R3 (λ_ _ _ _ _=>rfl) λi k xs g1 g2=>by obtain⟨ys,g3⟩:=j_ c3 k i (ol g2);exact⟨ys,hZ.mpr g3⟩
 have hb:=pS (e:=e1) c2 c3 (hU h2);rw[<-hb]at R4 X4 o4;exact q F' H' v (X2.trans X4) R4 ((A3.noS hn λa z=>R2.ownH a (o4 a z)).weak X2.dom)
theorem aV{x:Str}{st:Qo}{f:Qe}{fd:QJ}{ps:List Str}{k n:Nat}{m:FM}{a:Qh}{es:List Qh}{fs:FA}{p pos:Pos}(h:eN X.K X.mg x st f fd ps)(G:bu X.prog X.w X.K X.mg X.base fx k f fd ps (fX K n m))(hr:dt k X.A)(ha:PA X (a::es) (fA K fs))(hg:Gl X x)(hdb:(x==("__debug__":Str))=false)(he:Qq (a::es) X.env=(false,Qs a X.env)::Qq es X.env)(hpl:(QH pos (Qq es X.env)).any (·.1)=false):PE X (.Call (.Name x p) (a::es) [] pos) (fE K (bR n m fs)):=(LS h G hr ha hg hdb he hpl).mono λ_ _ _ h=>Jz h
def vE:List Sv->En->Option (List Sv)
 |[],_=>some []|.d x::r,e=>(vE r e.tail).map (.d x::·)|.l _::r,e=>match e.head? with|some (some (.l ys))=>(vE r e.tail).map (.l ys::·)|_=>none
 |.n _::_,_=>none
def sE(n:Nat)(e:En):Rv->Option Rv|.s i=>if n<=i then match e[i]? with|some (some (.l xs))=>some (.l xs)|_=>none else none|r=>some r
def k'(W:List Nat)(as:List Sv):Bool:=W.all λj=>match as[j]? with|some (.l _)=>false|_=>true
def gQ(n k:Nat)(W:List Nat)(f:FS):FM:=λas=>if as.length=n/\k' W as=true then(f (as.map some++Qu k none)).bind λfl=>match fl with|.rt r e=>(sE n e r).bind λr'=>(vE as e).map λas'=>(r',as')|.nx e=>(vE as e).map λas'=>(.d .none,as')|_=>none else none
theorem p7:∀{as as':List Sv}{e:En},vE as e=some as'->as'.length=as.length/\(∀(j:Nat) (x:Qg),as'[j]?=some (.d x)↔as[j]?=some (.d x))/\(∀(j:Nat) (ys:List Qg),as'[j]?=some (.l ys)->(∃xs,as[j]?=some (.l xs))/\e[j]?=some (some (.l ys)))/\∀(j:Nat) (xs:List Qg),as[j]?=some (.l xs)->∃ys,as'[j]?=some (.l ys)
 |[],_,e,h=>by cases h;simp|.d x::r,_,e,h=>by
  obtain⟨s,h1,rfl⟩:=P9 h;obtain⟨g1,g2,g3,g4⟩:=p7 h1;refine⟨by simp[g1],λj y=>?_,λj ys hj=>?_,λj xs hj=>?_⟩;·cases j with|zero=>simp|succ j=>simpa using g2 j y
  ·cases j with|zero=>simp at hj|succ j=>obtain⟨c1,c2⟩:=g3 j ys (by simpa using hj);refine⟨by simpa using c1,?_⟩;rw[List.getElem?_tail]at c2;exact c2
  ·cases j with|zero=>simp at hj|succ j=>simpa using g4 j xs (by simpa using hj)
 |.l xs::r,_,e,h=>by unfold vE at h;match he:e.head?,h with
  |some (some (.l ys)),h=>
   obtain⟨s,h1,rfl⟩:=P9 h;obtain⟨g1,g2,g3,g4⟩:=p7 h1;refine⟨by simp[g1],λj y=>?_,λj zs hj=>?_,λj zs hj=>?_⟩;·cases j with|zero=>simp|succ j=>simpa using g2 j y
   ·cases j with|zero=>simp at hj;subst hj;exact⟨⟨xs,rfl⟩,by rw[List.head?_eq_getElem?]at he;exact he⟩|succ j=>obtain⟨c1,c2⟩:=g3 j zs (by simpa using hj);refine⟨by simpa using c1,?_⟩;rw[List.getElem?_tail]at c2;exact c2
   ·cases j with|zero=>exact⟨ys,rfl⟩|succ j=>simpa using g4 j zs (by simpa using hj)
 |.n x::r,_,e,h=>by simp[vE]at h
end
theorem fZ{α:Type}{l:List (Option α)}{k i:Nat}{x:α}(h:(l++Qu k none)[i]?=some (some x)):l[i]?=some (some x):=by
 rw[List.getElem?_append]at h;split at h;·exact h
 ·rw[Vu]at h;split at h<;>simp at h
theorem gD{α:Type}{l:List (Option α)}{k i:Nat}{x:α}(h:l[i]?=some (some x)):(l++Qu k none)[i]?=some (some x):=by have hi:i<l.length:=(P_ h).1;rw[Sr hi];exact h
section
variable{K:⇑0}{F H:Hp}{σ:L2.St}{e:En}{k:Nat}
theorem uK{i:Nat}{a:Qe}:Fp (σ++Qu k none) (e++Qu k none) H i a↔Fp σ e H i a:=by
 constructor
 ·rintro(⟨xs,h1,h2⟩|⟨xss,l,bs,h1,h2,h3⟩);·exact .inl ⟨xs,fZ h1,fZ h2⟩
  ·exact .inr ⟨xss,l,bs,fZ h1,fZ h2,h3⟩
 ·rintro(⟨xs,h1,h2⟩|⟨xss,l,bs,h1,h2,h3⟩);·exact .inl ⟨xs,gD h1,gD h2⟩
  ·exact .inr ⟨xss,l,bs,gD h1,gD h2,h3⟩
theorem pW{a:Qe}:cm (σ++Qu k none) (e++Qu k none) H a↔cm σ e H a:=⟨λ⟨i,h⟩=>⟨i,uK.mp h⟩,λ⟨i,h⟩=>⟨i,uK.mpr h⟩⟩
theorem bc.pad(R:bc K F H σ e):bc K F H (σ++Qu k none) (e++Qu k none):=by
 refine⟨R.sm,by simp[R.len],λi x h=>?_,λi xs h=>?_,λi xss h=>?_,λi j a h1 h2=>R.fp i j a (uK.mp h1) (uK.mp h2)⟩;·obtain⟨v,g1,g2⟩:=R.dat i x (fZ h);exact⟨v,gD g1,g2⟩
 ·obtain⟨l,vs,g1,g2⟩:=R.own i xs (fZ h);exact⟨l,vs,gD g1,g2⟩
 ·obtain⟨l,bs,g1,g2⟩:=R.nst i xss (fZ h);exact⟨l,bs,gD g1,g2⟩
end
theorem vF:∀{as as':List Sv}{e:En},vE as e=some as'->JI (as'.map some)
 |[],_,e,h=>by cases h;intro i xss z;simp at z|.d x::r,_,e,h=>by obtain⟨s,h1,rfl⟩:=P9 h;have ih:=vF h1;intro i xss z;cases i with|zero=>simp at z|succ i=>exact ih i xss (by simpa using z)
 |.l xs::r,_,e,h=>by unfold vE at h;match he:e.head?,h with|some (some (.l ys)),h=>obtain⟨s,h1,rfl⟩:=P9 h;have ih:=vF h1;intro i xss z;cases i with|zero=>simp at z|succ i=>exact ih i xss (by simpa using z)
 |.n x::r,_,e,h=>by simp[vE]at h
theorem wW{W:List Nat}{as:List Sv}(h:k' W as=true){j:Nat}{xs:List Qg}(hj:as[j]?=some (.l xs)):j∉W:=λz=>by unfold k' at h;have:=Rp.mp h j z;rw[hj]at this;cases this
section
variable{P:Qn}{w:Qk}{K:⇑0}{mg:Str->Option Qd}{base:Qm}
theorem eN.fn{x:Str}{st:Qo}{f:Qe}{fd:QJ}{N ps:List Str}{k n k0:Nat}{W:List Nat}{fb:FS}(h:eN K mg x st f fd ps)(S:aH N ps (au st))(hn:ps.length=n)(hN:N.length=n+k0)(hb:∀(cdv:Qd) (A:Qr) (outer:List Env) (s:Qf) (H:Hp) (E:XK),dt k (A.deeper (QF x (au st) ↑s f cdv))->mD (fK fx P w K mg base N x (au st) f cdv A outer s H E).nox (cI st) (fS K fb W)):bu P w K mg base fx (k+1) f fd ps (fX K n (gQ n k0 W fb)):=by
 refine h.F.ok S (λvs H Q E q=>?_) λcdv A outer s H vs Q E hr hsp=>⟨_,hb cdv A outer s H E hr,?_⟩;·rw[hn];exact q.1
 ·obtain⟨hl,F,as,r,as',R,nN,hm,nr,q⟩:=hsp;unfold gQ at hm;split at hm;case isFalse=>cases hm
  case isTrue hc=>
  obtain⟨la,nl⟩:=hc;obtain⟨fl,h1,hm⟩:=P8 hm;have hst:dJ N vs=vs.map some++Qu k0 none:=by unfold dJ;rw[hN,hl];congr 2;lia
  rw[hst];have key:∀{as':List Sv}{e':En},vE as e'=some as'->∀F' H' σ',dr W (vs.map some++Qu k0 none) F H (as.map some++Qu k0 none) σ' F' H' e'->bc K F' H' σ' e'->fm (vs.map some) F H (as.map some) F' H' (as'.map some)/\bc K F' H' (vs.map some) (as'.map some)/\∀a,cm (vs.map some) (as'.map some) H' a->cm (vs.map some) (as.map some) H a:=by
   intro as' e' hu F' H' σ' X' R';obtain⟨u1,u2,u3,u4⟩:=p7 hu;have uN:=vF hu;have ow:∀a,cm (vs.map some) (as'.map some) H' a->cm (vs.map some) (as.map some) H a:=by
    rintro a⟨j,⟨ys,c1,c2⟩|⟨xss,_,_,z,_⟩⟩;·obtain⟨⟨xs,c3⟩,_⟩:=u3 j ys (hZ.mp c1);exact⟨j,.inl ⟨xs,hZ.mpr c3,c2⟩⟩
    ·exact absurd z (uN j xss)
   have sg:∀(j:Nat) (xs:List Qg),as[j]?=some (.l xs)->σ'[j]?=(vs.map some)[j]?:=λj xs hj=>by
    rw[X'.wr j (wW nl hj)];have hj2:j<(vs.map some).length:=by rw[Qz,hl,<-la];exact(P_ hj).1
    rw[Sr hj2]
   refine⟨⟨X'.sf,X'.dom,λa vs h1 h2 hn=>X'.fr a vs h1 h2 λz=>hn (pW.mp z),X'.lst,λa o ha hn=>X'.tmp a o ha λz=>hn (pW.mp z),λj=>?_,λa z=>.inl (ow a z),λa m h1 h2 hn=>X'.fd a m h1 h2 λz=>hn (pW.mp z)⟩,⟨R'.sm,?_,λj y hj=>?_,λj ys hj=>?_,λj xss hj=>absurd hj (uN j xss),λj i l f1 f2=>?_⟩,ow⟩
   ·constructor;·rintro⟨ys,hj⟩;obtain⟨⟨xs,c⟩,_⟩:=u3 j ys (hZ.mp hj);exact⟨xs,hZ.mpr c⟩
    ·rintro⟨xs,hj⟩;obtain⟨ys,c⟩:=u4 j xs (hZ.mp hj);exact⟨ys,hZ.mpr c⟩
   ·simp[u1,hl,la]
   ·obtain⟨v,c1,c2⟩:=R.dat j y (hZ.mpr ((u2 j y).mp (hZ.mp hj)));exact⟨v,c1,DA.mono X'.sf c2⟩
   ·obtain⟨⟨xs,c1⟩,c2⟩:=u3 j ys (hZ.mp hj);obtain⟨l,us,d1,d2⟩:=R'.own j ys c2;exact⟨l,us,by rw[<-sg j xs c1];exact d1,d2⟩
   ·obtain⟨xs,g1,g3⟩:=f1.resolve_right λ⟨xss,_,_,z,_⟩=>uN j xss z;obtain⟨ys,g2,g4⟩:=f2.resolve_right λ⟨xss,_,_,z,_⟩=>uN i xss z;obtain⟨⟨zs,c1⟩,c2⟩:=u3 j xs (hZ.mp g1);obtain⟨⟨ws,c3⟩,c4⟩:=u3 i ys (hZ.mp g2);exact R'.inj j i xs ys l c2 c4 (by rw[sg j zs c1];exact g3) (by rw[sg i ws c3];exact g4)
  refine⟨F,as.map some++Qu k0 none,fl,R.pad,h1,?_⟩;cases fl with|bk e'=>cases hm|ct e'=>cases hm|nx e'=>obtain⟨as2,h2,hm⟩:=P9 hm;cases hm;intro F' H' σ' X' R';obtain⟨X2,R2,_⟩:=key h2 F' H' σ' X' R';exact q F' H' .non X2 R2 ((mL (K:=K) (F:=F')).mpr rfl)|rt r0 e'=>obtain⟨r1,h2,hm⟩:=P8 hm;obtain⟨as2,h3,hm⟩:=P9 hm;cases hm;intro F' H' σ' v X' R' A';obtain⟨X2,R2,ow2⟩:=key h3 F' H' σ' X' R';have noo:∀l,H l=none->¬cm (vs.map some) (as'.map some) H' l:=λl hl z=>R.ownH l (ow2 l z) hl;refine q F' H' v X2 R2 ?_;cases r0 with|d y=>cases h2;exact A'|l ys=>cases h2;obtain⟨l,us,d0,d1,d2,d3,d4,_⟩:=A';exact⟨l,us,d0,d1,d2,d3,d4,noo l d1⟩|s i=>
   simp only[sE]at h2;split at h2;case isFalse=>cases h2
   case isTrue hi=>
   obtain⟨a1,xs,a2⟩:=A';rw[a2]at h2;cases h2;obtain⟨l,us,d1,d2,d3,d4⟩:=R'.own i _ a2;rw[a1]at d1;cases d1;suffices hl0:H l=none from⟨l,us,rfl,hl0,d2,d3,d4,noo l hl0⟩;rcases X'.own l ⟨i,.inl ⟨_,a2,a1⟩⟩with z|z
   ·obtain⟨j,zf⟩:=pW.mp z;obtain⟨ys,z1,z2⟩:=zf.resolve_right λ⟨xss,_,_,z,_⟩=>nN j xss z;have z1':=hZ.mp z1;obtain⟨u1,u2,u3,u4⟩:=p7 h3;obtain⟨ws,w1⟩:=u4 j ys z1';obtain⟨_,w2⟩:=u3 j ws w1;have hj2:j<vs.length:=by rw[hl,<-la];exact(P_ z1').1
    have e3:σ'[j]?=some (some (.ref l)):=by rw[X'.wr j (wW nl z1'),Sr (by simpa using hj2)];exact z2
    have:=R'.inj i j _ ws l a2 w2 a1 e3;lia
   ·exact z
end
def Kd:Option Sv->Option Sv|some (.n _)=>none|s=>s
def mi(cp:List (Nat×Str))(nT:Nat)(e:En):En:=cp.map (λp=>Kd (e[p.1]?).join)++Qu nT none
def lU(cp:List (Nat×Str))(i:Nat):Option Nat:=cp.findIdx? λp=>p.1==i
def dh(g:FG)(ft:FT)(fe:FE):List Qg->En->List Qg->Option (List Qg×En)|[],e,acc=>some (acc,e)|x::r,e,acc=>(g x e).bind λe1=>(ft e1).bind λb=>if b.1=true then(fe b.2).bind λv=>(mM v.1).bind λd=>if acc.length<1000000 then dh g ft fe r v.2 (acc++[d]) else none else dh g ft fe r b.2 acc
def iz(cp:List (Nat×Str))(ei e:En):Bool:=cp.all λp=>!AO e[p.1]?||AO ei[(lU cp p.1).getD 0]?
def bj(cp:List (Nat×Str))(nT:Nat)(fi:FI)(g:FG)(ft:FT)(fe:FE):FE:=λe=>(fi e).bind λp=>if (p.2.1.all λq=>!(cp.any λc=>c.1==q.1))=true then(dh g ft fe p.1 (mi cp nT p.2.2) []).bind λz=>if iz cp z.2 p.2.2=true then some (.l z.1,mB (lU cp) z.2 p.2.2) else none else none
section
variable{K:⇑0}{F H:Hp}{σ:L2.St}{e:En}{cp:List (Nat×Str)}{nT:Nat}
theorem dc{i k:Nat}(h:lU cp i=some k):∃s,cp[k]?=some (i,s):=by unfold lU at h;rw[VV]at h;obtain⟨hk,h1,_⟩:=h;refine⟨cp[k].2,?_⟩;rw[QR hk];have:=eq_of_beq h1;rw[<-this]
theorem j9{k:Nat}{x:Sv}(h:(mi cp nT e)[k]?=some (some x)):∃i s,cp[k]?=some (i,s)/\e[i]?=some (some x):=by unfold mi at h;have h:=fZ h;rw[QD]at h;obtain⟨p,h1,h2⟩:=P9 h;refine⟨p.1,p.2,h1,?_⟩;cases q:e[p.1]? with|none=>rw[q]at h2;cases h2|some y=>rw[q]at h2;match y,h2 with|some (.d z),h2=>exact congrArg some h2|some (.l z),h2=>exact congrArg some h2|some (.n z),h2=>cases h2|none,h2=>cases h2
theorem i9:JI (mi cp nT e):=by intro k xss h;unfold mi at h;have h:=fZ h;rw[QD]at h;obtain⟨p,h1,h2⟩:=P9 h;match (e[p.1]?).join,h2 with|some (.d z),h2=>cases h2|some (.l z),h2=>cases h2|some (.n z),h2=>cases h2|none,h2=>cases h2
theorem pZ{k i:Nat}{s:Str}{v:V}(h:cp[k]?=some (i,s))(hv:σ[i]?=some (some v)):(fB cp nT σ)[k]?=some (some v):=by unfold fB;refine gD ?_;rw[QD,h];simp[hv]
theorem nG{k i:Nat}{s:Str}{v:V}(h:cp[k]?=some (i,s))(hv:(fB cp nT σ)[k]?=some (some v)):σ[i]?=some (some v):=by unfold fB at hv;have hv:=fZ hv;rw[QD,h]at hv;simp only[RP,Tw]at hv;cases q:σ[i]? with|none=>rw[q]at hv;cases hv|some y=>rw[q]at hv;exact congrArg some hv
theorem uG:∀{cp:List (Nat×Str)}{k j i:Nat}{s t:Str},(cp.map (·.1)).Nodup->cp[k]?=some (i,s)->cp[j]?=some (i,t)->k=j|[],k,j,i,s,t,_,h,_=>by simp at h|p::r,k,j,i,s,t,hn,h1,h2=>by simp only[QB,Tc]at hn;cases k with
 |zero=>simp at h1;subst h1;cases j with|zero=>rfl|succ j=>have hm:(i,t)∈r:=Qc (i:=j) (by simpa using h2);exact absurd (Tu.mpr ⟨(i,t),hm,rfl⟩) hn.1
 |succ k=>cases j with|zero=>simp at h2;subst h2;have hm:(i,s)∈r:=Qc (i:=k) (by simpa using h1);exact absurd (Tu.mpr ⟨(i,s),hm,rfl⟩) hn.1|succ j=>have:=uG (cp:=r) (k:=k) (j:=j) hn.2 (by simpa using h1) (by simpa using h2);lia
theorem bc.inn(R:bc K F H σ e)(hn:(cp.map (·.1)).Nodup):bc K F H (fB cp nT σ) (mi cp nT e)/\vM σ e (fB cp nT σ) (mi cp nT e) (lU cp):=by
 refine⟨⟨R.sm,by simp[fB,mi],λk x h=>?_,λk xs h=>?_,λk xss h=>absurd h (i9 k xss),λk j l f1 f2=>?_⟩,⟨λi k xs h1 h2=>?_,λk ys h=>?_⟩⟩;·obtain⟨i,s,h1,h2⟩:=j9 h;obtain⟨v,g1,g2⟩:=R.dat i x h2;exact⟨v,pZ h1 g1,g2⟩
 ·obtain⟨i,s,h1,h2⟩:=j9 h;obtain⟨l,vs,g1,g2⟩:=R.own i xs h2;exact⟨l,vs,pZ h1 g1,g2⟩
 ·obtain⟨xs,h1,h3⟩:=f1.resolve_right λ⟨xss,_,_,z,_⟩=>i9 k xss z;obtain⟨ys,h2,h4⟩:=f2.resolve_right λ⟨xss,_,_,z,_⟩=>i9 j xss z;obtain⟨i,s,a1,a2⟩:=j9 h1;obtain⟨i',s',b1,b2⟩:=j9 h2;have:i=i':=R.inj i i' xs ys l a2 b2 (nG a1 h3) (nG b1 h4);subst this;exact uG hn a1 b1
 ·obtain⟨s,g⟩:=dc h2;obtain⟨l,vs,g1,_⟩:=R.own i xs h1;rw[g1];exact pZ g g1
 ·obtain⟨i,s,h1,h2⟩:=j9 h;obtain⟨l,vs,g1,_⟩:=R.own i ys h2;refine⟨i,ys,h2,?_,by rw[g1];exact pZ h1 g1⟩;cases hp:lU cp i with|none=>unfold lU at hp;rw[Vd]at hp;have:=hp _ (Qc h1);simp at this|some j=>obtain⟨t,g⟩:=dc hp;rw[uG hn g h1]
theorem bc.putT(R:bc K F H σ e){l:Qe}{ws:List V}(h1:F l=none)(h2:¬cm σ e H l):bc K F (bz H l (.lst ws)) σ e/\∀a,cm σ e (bz H l (.lst ws)) a↔cm σ e H a:=R.keep (aG.refl F) (λb o q=>by
 have z:b≠l:=λz=>by rw[z,h1]at q;cases q
 rw[aA z];exact R.sm b o q) (λa⟨i,h⟩=>(R.fpAt h).1) λa o ha q=>by have z:a≠l:=λz=>h2 (by rw[<-z];exact ha);rw[aA z];exact q
theorem dr.putT{W:List Nat}{σ':L2.St}{F' H':Hp}{e':En}(x:dr W σ F H e σ' F' H' e'){l:Qe}{o:HO}(h:H l=none)(ho:∀a,cm σ' e' (bz H' l o) a↔cm σ' e' H' a):dr W σ F H e σ' F' (bz H' l o) e':=by
 refine⟨x.sf,λa q=>?_,x.fr,λa vs q=>?_,λa u q n=>?_,λa q=>x.own a ((ho a).mp q),x.wr,x.fd⟩
 ·by_cases z:a=l;·rw[z];exact h
  ·rw[aA z]at q;exact x.dom a q
 ·have z:a≠l:=λz=>by rw[z,h]at q;cases q
  rw[aA z];exact x.lst a vs q
 ·have z:a≠l:=λz=>by rw[z,h]at q;cases q
  rw[aA z];exact x.tmp a u q n
inductive CI (K:⇑0) (W:List Nat) (σ0:L2.St) (F1 H1:Hp) (e0:En) (l:Qe) (P:Hp->En->List Qg->Prop) (σ':L2.St) (H':Hp):Prop|mk{F':Hp}{ei:En}{acc:List Qg}{vs:List V}(R:bc K F' H' σ' ei) (X:dr W σ0 F1 H1 e0 σ' F' H' ei) (fl:F' l=none) (no:¬cm σ' ei H' l) (hl:H' l=some (.lst vs)) (da:aR K F' acc vs) (hc:P F' ei acc):CI K W σ0 F1 H1 e0 l P σ' H'
theorem xQ{Q:VK}{fi:FI}{g:FG}{W:List Nat}{ft:FT}{fe:FE}(hn:(cp.map (·.1)).Nodup)(hW:∀j∈W,cp.length<=j)(h:fE K (bj cp nT fi g ft fe) σ H Q):z_ cp nT (fI K fi) (fG K g W) (fT K ft) (fE K fe) σ H Q:=by
 obtain⟨F0,e0,z,e',R0,hf,q⟩:=h;unfold bj at hf;obtain⟨⟨items,own,e1⟩,h1,hf⟩:=P8 hf;dsimp only at hf;split at hf;case isFalse=>cases hf
 case isTrue hO=>
 obtain⟨⟨out,eo⟩,h2,hf⟩:=P8 hf;dsimp only at hf;split at hf;case isFalse=>cases hf
 case isTrue hB=>
 cases hf;refine⟨⟨F0,e0,items,own,e1,R0,h1,λJ F1 H1 X1 R1 kp ok=>?_⟩⟩;intro l hl;obtain⟨Ri,sub⟩:=R1.inn (nT:=nT) hn;have hFl:F1 l=none:=R1.freeF hl;let Iv:Nat->L2.St->Hp->Prop:=λi=>CI K W (fB cp nT σ) F1 H1 (mi cp nT e1) l λ_ ei acc=>dh g ft fe (items.drop i) ei acc=some (out,eo);have notown:∀p∈own,∀a,σ[p.1]?=some (some (.ref a))->¬cm (fB cp nT σ) (mi cp nT e1) H1 a:=by rintro p hp a ha⟨k,zf⟩;obtain⟨xs,c1,c2⟩:=zf.resolve_right λ⟨xss,_,_,z,_⟩=>i9 k xss z;obtain⟨i,s,d1,d2⟩:=j9 c1;have e2:=nG d1 c2;have:p.1=i:=R1.inj p.1 i p.2 xs a (kp p hp) d2 ha e2;have hh:=Rp.mp hO p hp;simp only[Bool.not_eq_true',UC,beq_iff_eq]at hh;exact hh (i,s) (Qc d1) this.symm
 refine⟨λi m σ' H'=>m=items.length-i/\i<=items.length/\Iv i σ' H',⟨items.length,by simp,Ss _,.mk (Ri.putT hFl (λz=>(Ri.ownH l z) hl)).1 (dr.refl.putT hl (Ri.putT hFl (λz=>(Ri.ownH l z) hl)).2) hFl (λz=>(Ri.ownH l (((Ri.putT hFl (λz=>(Ri.ownH l z) hl)).2 l).mp z)) hl) aw aR.nil h2⟩,?_⟩;rintro i m σ' H'⟨rfl,hi,⟨R',X',fl,no,hl',da,hc⟩⟩;rename_i F' ei acc vs;have held:Ap K σ F' H' own:=λp hp=>by obtain⟨a,us,c1,c2,c3,c4⟩:=R1.own p.1 p.2 (kp p hp);exact⟨a,us,c1,X'.tmp a _ c3 (notown p hp a c1),c4.mono X'.sf⟩
 obtain⟨go,stop,yld⟩:=ok F' H' X'.sf R'.sm held;by_cases hlt:i<items.length
 ·have hd:items.drop i=items[i]::items.drop (i+1):=Ub hlt;rw[hd]at hc;unfold dh at hc;obtain⟨e2,c2,hc⟩:=P8 hc;obtain⟨⟨b,e3⟩,c3,hc⟩:=P8 hc;refine .inr ⟨go i hlt,Iv (i+1),λσ2 H2 r=>⟨items.length-(i+1),by lia,rfl,hlt,r⟩,λx H2 hy=>?_⟩;obtain⟨F2,sH,sF2,sm2,fz,hx⟩:=yld i items[i] x H2 (QR hlt) hy;obtain⟨R2,X2⟩:=R'.step sH sF2 sm2 fz;refine⟨F2,ei,items[i],e2,R2,hx,c2,λσ3 X3 R3=>⟨F2,e2,b,e3,R3,c3,λF4 H4 X4 R4=>?_⟩⟩;have hlH2:H2 l=some (.lst vs):=sH _ _ hl';have no2:¬cm σ' ei H2 l:=λz=>by
   rcases X2.ow l z with z|z;·exact no z
   ·rw[hl']at z;cases z
  have no3:¬cm σ3 e2 H2 l:=λz=>by
   rcases X3.own l z with z|z;·exact no2 z
   ·rw[hlH2]at z;cases z
  have fl2:F2 l=none:=fz l fl (by rw[hl'];simp);have hlH4:H4 l=some (.lst vs):=X4.tmp l _ hlH2 no3;have fl4:F4 l=none:=X4.fr l vs fl2 hlH2 no3;have no4:¬cm σ3 e3 H4 l:=λz=>by
   rcases X4.ow l z with z|z;·exact no3 z
   ·rw[hlH2]at z;cases z
  have E4:dr W (fB cp nT σ) F1 H1 (mi cp nT e1) σ3 F4 H4 e3:=((X'.trans X2.s).trans X3).trans X4.s;cases b with|false=>rw[if_neg ↥1]at hc;exact E5 (.mk R4 E4 fl4 no4 hlH4 (da.mono (sF2.trans X4.sf)) hc)|true=>
   rw[if_pos rfl]at hc;obtain⟨⟨r,e5⟩,c5,hc⟩:=P8 hc;obtain⟨d,c6,hc⟩:=P8 hc;split at hc;case isFalse=>cases hc
   case isTrue hlen=>
   refine yo ⟨F4,e3,r,e5,R4,c5,λF5 H5 v X5 R5 A5=>?_⟩;have hlH5:H5 l=some (.lst vs):=X5.tmp l _ hlH4 no4;have fl5:F5 l=none:=X5.fr l vs fl4 hlH4 no4;have no5:¬cm σ3 e5 H5 l:=λz=>by
    rcases X5.ow l z with z|z;·exact no4 z
    ·rw[hlH4]at z;cases z
   obtain⟨F6,R6,s6,d6,f6⟩:=cz.frozen R5 (rs:=[r]) (vs:=[v]) ⟨v,[],rfl,A5,rfl⟩ (nR c6);have fl6:F6 l=none:=f6 l fl5 (by rw[hlH4];simp);have X6:=X5.frz s6 f6;have ll:=da.len;have sl:Qv=16777216:=Rm;have dv:DA K F6 d v:=by simp only[aR]at d6;obtain⟨v',r',e',hv,_⟩:=d6;cases e';exact hv
   obtain⟨R7,o7⟩:=R6.putT (ws:=vs++[v]) fl6 no5;exact⟨vs,hlH5,by lia,.mk R7 ((E4.trans X6.s).putT hl o7) fl6 (λz=>no5 ((o7 l).mp z)) aw ((da.mono (sF2.trans (X4.sf.trans (X5.sf.trans s6)))).append (aR.one dv)) hc⟩
 ·have hd:items.drop i=[]:=Uc ↥0;rw[hd]at hc;cases hc;refine .inl ⟨stop i ↥0,?_⟩;obtain⟨R9,X9,o9⟩:=nI R1 sub i9 X'.sf X'.dom X'.fr X'.lst X'.tmp X'.fd R' (λi k xs g1 g2=>X'.wr k λz=>by obtain⟨s,g⟩:=dc g2;have:=(P_ g).1;have:=hW k z;lia) λi k xs g1 g2=>by obtain⟨s,g⟩:=dc g2;unfold iz at hB;have hb:=Rp.mp hB _ (Qc g);simp only[g1,g2,Ux,AO,Bool.not_true,Bool.false_or]at hb;exact zw.mp hb
  exact q F' H' (.ref l) (X1.trans X9) R9 ⟨l,vs,rfl,X1.dom l hl,fl,hl',da,λz=>R1.ownH l (o9 l z) hl⟩
end
section
variable{X:Cx}{K:⇑0}{a b:Qh}{es:List Qh}{fa fb:FE}{fs:FA}{pos p p2 p3:Pos}{lo hi:Option Qh}
def ww:En->Rv->Option Rv:=λ_ x=>(bL x).map λi=>.d (.int (-i))
theorem Kk:JN K (rU λi=>.int (-i)) ww:=by intro σ H0 F H e x z v Q R A hg q;obtain⟨i,h5,h4⟩:=P9 hg;cases h4;exact⟨i,bS A h5,q F H _ (fm.refl _ _ _ _) R om⟩
theorem xj(ha:PE X a (fE K fa)):PE X (.UnaryOp .USub a pos) (fE K (um ww fa)):=Kx Jy Kk ha
theorem bP(hK:X.K=K)(ha:PE X a (fE K fa))(hb:PE X b (fE K fb)):PE X (.BinOp a .Add b pos) (fE K (ax bF fa fb)):=tV (hK▸FC) JP ha hb
theorem xl(ha:PE X a (fE K fa))(hb:PE X b (fE K fb)):PE X (.BinOp a .Sub b pos) (fE K (ax kW fa fb)):=tV IG KO ha hb
theorem gJ(hK:X.K=K)(ha:PE X a (fE K fa))(hb:PE X b (fE K fb)):PE X (.BinOp a .Mult b pos) (fE K (ax dz fa fb)):=tV (hK▸FJ) Kj ha hb
theorem fP(ha:PE X a (fE K fa))(hb:PE X b (fE K fb)):PE X (.BinOp a .FloorDiv b pos) (fE K (ax dj fa fb)):=tV C1 HP ha hb
theorem bi(ha:PE X a (fE K fa))(hb:PE X b (fE K fb)):PE X (.BinOp a .Mod b pos) (fE K (ax be fa fb)):=tV FH Ki ha hb
theorem Hj(ha:PE X a (fE K fa))(hb:PE X b (fE K fb)):PE X (.BinOp a .Pow b pos) (fE K (ax yk fa fb)):=tV IE Kt ha hb
theorem aQ(hK:X.K=K)(ha:PE X a (fE K fa))(hb:PE X b (fE K fb))(hs:mE b):PE X (.Subscript a b pos) (fE K (ax ba fa fb)):=Kw (hK▸LN) LO ha hb hs
theorem ja{fl fh:FO}(hK:X.K=K)(he:PE X a (fE K fa))(hl:PO X lo (fO K fl))(hh:PO X hi (fO K fh)):PE X (.Subscript a (.Slice lo hi none p2) pos) (fE K (uk fa fl fh)):=by subst hK;exact Dr he hl hh
structure vJ (X:Cx) (K:⇑0) (op:CmpOp) (g:En->Rv->Rv->Option Rv):Prop where ex:∃r,kB X (SD op) r/\kz K r g
theorem yd:vJ X K .Lt Cd:=⟨_,Kq,LQ⟩
theorem yc:vJ X K .Gt Ca:=⟨_,Ko,LF⟩
theorem Av:vJ X K .GtE EW:=⟨_,Kn,LD⟩
theorem ya{k:Nat}(hK:X.K=K)(hr:dt k X.A):vJ X K .Eq (eh false):=⟨_,hK▸C0 hr,G'⟩
theorem ye{k:Nat}(hK:X.K=K)(hr:dt k X.A):vJ X K .NotEq (eh true):=⟨_,hK▸ID hr,G'⟩
theorem EE{k:Nat}(hK:X.K=K)(hr:dt k X.A):vJ X K .In (Cc false):=⟨_,hK▸IB hr,LK⟩
theorem Do{op:CmpOp}{g:En->Rv->Rv->Option Rv}(h:vJ X K op g)(ha:PE X a (fE K fa))(hb:PE X b (fE K fb))(hm:Tj op b=false):PE X (.Compare a [op] [b] pos) (fE K (ax g fa fb)):=by obtain⟨r,h1,h2⟩:=h.ex;exact IW h1 h2 ha hb hm
theorem bh{op:CmpOp}{g:En->Rv->Rv->Option Rv}(h:vJ X K op g)(ha:PE X a (fE K fa))(hb:PE X b (fE K fb))(hm:Tj op b=false):PT X (.Compare a [op] [b] pos) (fT K (aX (ax g fa fb))):=by obtain⟨r,h1,h2⟩:=h.ex;exact I0 h1 h2 ha hb hm
structure sk (X:Cx) (K:⇑0) (x:Str) (g:En->List Rv->Option Rv):Prop where ex:(∃id r,eA X (.builtin id) r/\gb K r g/\Sb x=some (.builtin id))\/∃T r,eA X (.type T) r/\gb K r g/\Sb x=some (.type T)
theorem aU{x:Str}{g:En->List Rv->Option Rv}(h:sk X K x g)(hg:Gl X x)(hm:X.mg x=none)(ha:PA X (a::es) (fA K fs))(hn:x≠"__name__")(hdb:(x==("__debug__":Str))=false)(he:Qq (a::es) X.env=(false,Qs a X.env)::Qq es X.env)(hpl:(QH pos (Qq es X.env)).any (·.1)=false):PE X (.Call (.Name x p) (a::es) [] pos) (fE K (aF g fs)):=by
 rcases h.ex with⟨id,r,h1,h2,h3⟩|⟨T,r,h1,h2,h3⟩;·exact Dq h1 h2 hg hm h3 ha hn hdb he hpl
 ·exact A_ h1 h2 hg hm h3 ha hn hdb he hpl
theorem b_len(hK:X.K=K):sk X K "len" (g1 ce):=⟨.inl ⟨_,_,hK▸mJ,Kc,PySem.boot_len⟩⟩
theorem b_abs:sk X K "abs" (g1 yj):=⟨.inl ⟨_,_,BR,JO,PyProof.Rows.boot_abs⟩⟩
theorem b_min(hc:X.calm=true):sk X K "min" (g2 Ce):=⟨.inl ⟨_,_,Az hc,Kh,PyProof.Rows.boot_min⟩⟩
theorem b_max(hc:X.calm=true):sk X K "max" (g2 wo):=⟨.inl ⟨_,_,Ay hc,Kg,PyProof.Rows.boot_max⟩⟩
theorem b_int:sk X K "int" (g1 mR):=⟨.inr ⟨_,_,Aw,J4,PyProof.Rows.boot_int⟩⟩
theorem b_tuple(hK:X.K=K):sk X K "tuple" (g1 bf):=⟨.inr ⟨_,_,hK▸sx,GN,PyProof.Rows.boot_tuple⟩⟩
theorem b_sum{k:Nat}(hK:X.K=K)(hr:dt k X.A):sk X K "sum" (g1 (oY tK)):=⟨.inl ⟨_,_,hK▸BV hr,KQ,PyProof.Rows.boot_sum⟩⟩
theorem b_sorted(hK:X.K=K):sk X K "sorted" (g1 j7):=⟨.inl ⟨_,_,hK▸yg,Gz,PyProof.Rows.boot_sorted⟩⟩
theorem b_repr{k:Nat}(hK:X.K=K)(hr:dt k X.A):sk X K "repr" (g1 oX):=⟨.inl ⟨_,_,hK▸yf hr,Jf,PyProof.Rows.boot_repr⟩⟩
abbrev a_:FT:=λe=>some (true,e)
theorem si.mono{ifs:List Qh}{t t':TT}(h:si X ifs t)(m:∀σ H Q,t' σ H Q->t σ H Q):si X ifs t':=λpins s σ H Q I q=>h pins s σ H Q I (m σ H Q q)
theorem cO:si X [] (fT K a_):=vj.mono λσ H Q h=>by obtain⟨F,e,b,e',R,hf,q⟩:=h;cases hf;exact q F H (fm.refl _ _ _ _) R
theorem lN{c:Qh}{ft:FT}(h:PT X c (fT K ft)):si X [c] (fT K ft):=Gd h
variable{o:Qh}{fo:FE}{apos cpos:Pos}
theorem dY(hK:X.K=K)(ho:PE X o (fE K fo))(ha:PA X (a::es) (fA K fs))(hbase:TH o "append" X.env (Qs o X.env)=Qs o X.env)(hfew:((QH cpos (Qq (a::es) X.env)).all (λx=>!x.1)&&(backToKw cpos (TJ [] X.env)).all (λx=>x.1.isSome)&&decide ((a::es).length+([]:List RG).length+(if ([]:List RG).isEmpty then 0 else 1)<30))=true)(hline:(apos.endLine==cpos.line)=true)(hs:Qq (a::es) X.env=(false,Qs a X.env)::Qq es X.env)(hplain:(QH cpos (Qq es X.env)).any (·.1)=false):PE X (.Call (.Attribute o "append" apos) (a::es) [] cpos) (fE K (cG bD fo fs)):=by subst hK;exact Hk US VJ jE BF ho ha hbase hfew hline hs hplain
theorem zM(hK:X.K=K)(ho:PE X o (fE K fo))(ha:PA X (a::es) (fA K fs))(hbase:TH o "pop" X.env (Qs o X.env)=Qs o X.env)(hfew:((QH cpos (Qq (a::es) X.env)).all (λx=>!x.1)&&(backToKw cpos (TJ [] X.env)).all (λx=>x.1.isSome)&&decide ((a::es).length+([]:List RG).length+(if ([]:List RG).isEmpty then 0 else 1)<30))=true)(hline:(apos.endLine==cpos.line)=true)(hs:Qq (a::es) X.env=(false,Qs a X.env)::Qq es X.env)(hplain:(QH cpos (Qq es X.env)).any (·.1)=false):PE X (.Call (.Attribute o "pop" apos) (a::es) [] cpos) (fE K (cG fM fo fs)):=by subst hK;exact Hk PySem.F.slot_list_pop PySem.F.type_list_pop CK F_ ho ha hbase hfew hline hs hplain
end
theorem yQ{K:⇑0}{H:Hp}{a:Qe}{ns:List Int}{m:FM}{as':List Sv}{Q:VK}{E:XK}(hS:jR K H a (ns.map V.int))(hm:m [.d (.list (ns.map .int))]=some (.d (.bool true),as'))(q:∀H',Q (.bl true) H'):fX K 1 m [.ref a] H Q E:=by
 refine⟨rfl,H,[.d (.list (ns.map .int))],_,as',?_,?_,hm,trivial,λF' H' v X' R' A'=>?_⟩
 ·refine⟨aG.refl _,rfl,λi x h=>?_,λi xs h=>?_,λi xss h=>?_,λi j l f1 _=>?_⟩;·match i,h with|0,h=>simp at h;subst h;exact⟨.ref a,rfl,cB.mpr ⟨a,_,rfl,hS,aR.ints.mpr rfl⟩⟩|i+1,h=>simp at h
  ·match i,h with|0,h=>simp at h|i+1,h=>simp at h
  ·match i,h with|0,h=>simp at h|i+1,h=>simp at h
  ·rcases f1 with⟨_,h,_⟩|⟨_,_,_,h,_⟩;·match i,h with|0,h=>simp at h|i+1,h=>simp at h
   ·match i,h with|0,h=>simp at h|i+1,h=>simp at h
 ·intro i xss h;match i,h with|0,h=>simp at h|i+1,h=>simp at h
 ·rw[eV.mp (show DA K F' (.bool true) v from A')];exact q H'
section
variable{K:⇑0}{σ:L2.St}{H0 F H F' H':Hp}{e e':En}
theorem bc.putN(R:bc K F H σ e){i:Nat}{xss yss:List (List Qg)}{l:Qe}{bs:List Qe}{H':Hp}(hi:e[i]?=some (some (.n xss)))(hs:σ[i]?=some (some (.ref l)))(hF:F l=none)(hl:H' l=some (.lst (bs.map V.ref)))(hlen:bs.length=yss.length)(hnd:bs.Nodup)(hnl:l∉bs)(hin:∀(k:Nat) (b:Qe) (ys:List Qg),bs[k]?=some b->yss[k]?=some ys->F b=none/\∃us,H' b=some (.lst us)/\aR K F ys us)(hbs:∀b∈bs,Fp σ e H i b\/¬cm σ e H b)(hdom:∀a,H' a=none->H a=none)(hst:∀a o,H a=some o->a≠l->a∉bs->H' a=some o)(hlst:∀a vs,H a=some (.lst vs)->∃vs',H' a=some (.lst vs')):bc K F H' σ (e.set i (some (.n yss)))/\(∀a,cm σ (e.set i (some (.n yss))) H' a->cm σ e H a\/a∈bs)/\∀j:Nat,(∃xs,(e.set i (some (Sv.n yss)))[j]?=some (some (.l xs)))↔(∃xs,e[j]?=some (some (.l xs))):=by
 have hlt:i<e.length:=(P_ hi).1;have gi:(e.set i (some (Sv.n yss)))[i]?=some (some (.n yss)):=Rt hlt;obtain⟨l0,bs0,a1,a2,a3,_⟩:=R.nst i xss hi;rw[hs]at a1;cases a1;have fl:Fp σ e H i l:=.inr ⟨xss,l,bs0,hi,hs,a3,.inl rfl⟩;have own:∀j a,j≠i->Fp σ e H j a->a≠l/\a∉bs:=λj a hj hq=>by
  refine⟨λz=>hj (R.fp j i a hq (by rw[z];exact fl)),λz=>?_⟩;rcases hbs a z with h|h;·exact hj (R.fp j i a hq h)
  ·exact h ⟨j,hq⟩
 have fpi:∀a,Fp σ (e.set i (some (.n yss))) H' i a->a=l\/a∈bs:=λa q=>by
  rcases q with⟨zs,q,_⟩|⟨zss,l',bs',q,q2,q3,q4⟩;·rw[gi]at q;cases q
  ·rw[hs]at q2;cases q2;rw[hl]at q3;have e1:bs=bs':=VH (λ_ _ z=>V.ref.inj z)|>.mp (HO.lst.inj (QY q3));subst e1;exact q4
 obtain⟨R',fs⟩:=R.upd1 (F':=F) (H':=H') (e':=e.set i (some (.n yss))) i (by rw[RY];exact R.len) ↥4 (λj hj=>QQ (QK hj)) (aG.refl F) (λb o q=>by
  have z1:b≠l:=λz=>by rw[z,hF]at q;cases q
  have z2:b∉bs:=λz=>by
   obtain⟨k,hk⟩:=Tg z;have hk2:k<yss.length:=by rw[<-hlen];exact(P_ hk).1
   rw[(hin k b yss[k] hk (QR hk2)).1]at q;cases q
  exact hst b o (R.sm b o q) z1 z2) (λj a _ q=>(R.fpAt q).1) (λj a o hj q ha=>let⟨z1,z2⟩:=own j a hj q;hst a o ha z1 z2) (λx q=>by rw[gi]at q;cases q) (λzs q=>by rw[gi]at q;cases q) (λzss q=>by rw[gi]at q;cases q;exact⟨l,bs,hs,hF,hl,hlen,hnd,hnl,hin⟩) (λa j hj q q2=>by obtain⟨z1,z2⟩:=own j a hj q2;exact(fpi a q).elim z1 z2);refine⟨R',λa⟨j,q⟩=>?_,λj=>?_⟩
 ·by_cases z:j=i
  ·subst z;rcases fpi a q with z|z;·exact .inl ⟨j,by rw[z];exact fl⟩
   ·exact .inr z
  ·exact .inl ⟨j,(fs j a z).mp q⟩
 ·by_cases z:j=i;·subst z;rw[gi,hi];simp
  ·rw[QQ (QK z)]
theorem bc.frzN(R:bc K F H σ e){i:Nat}{xss:List (List Qg)}(hi:e[i]?=some (some (.n xss))):∃F' v,σ[i]?=some (some v)/\DA K F' (.list (xss.map .list)) v/\bc K F' H σ (e.set i (some (.d (.list (xss.map .list)))))/\fm σ F H e F' H (e.set i (some (.d (.list (xss.map .list))))):=by
 obtain⟨l,bs,a1,a2,a3,a4,a5,a6,a7⟩:=R.nst i xss hi;have hlt:i<e.length:=(P_ hi).1;have inF:∀a,a=l\/a∈bs->Fp σ e H i a:=λa h=>.inr ⟨xss,l,bs,hi,a1,a3,h⟩;let F':Hp:=λa=>if a=l\/a∈bs then H a else F a;have pos:∀a,(a=l\/a∈bs)->F' a=H a:=λa h=>if_pos h;have neg:∀a,¬(a=l\/a∈bs)->F' a=F a:=λa h=>if_neg h;have sF:aG F F':=λb o q=>by
  have z:¬(b=l\/b∈bs):=λz=>by rw[(R.fpAt (inF b z)).1]at q;cases q
  rw[neg b z];exact q
 have sm:aG F' H:=λb o q=>by
  by_cases z:b=l\/b∈bs;·rw[pos b z]at q;exact q
  ·rw[neg b z]at q;exact R.sm b o q
 have dd:∀(cs:List Qe) (yss:List (List Qg)),cs.length=yss.length->(∀(k:Nat) (b:Qe) (ys:List Qg),cs[k]?=some b->yss[k]?=some ys->b∈bs/\∃us,H b=some (.lst us)/\aR K F ys us)->aR K F' (yss.map .list) (cs.map V.ref):=by intro cs;induction cs with
  |nil=>intro yss h _;cases yss with|nil=>exact aR.nil|cons _ _=>simp at h
  |cons c cs ih=>intro yss h hh;cases yss with|nil=>simp at h|cons ys yss=>obtain⟨c1,us,c2,c3⟩:=hh 0 c ys rfl rfl;refine aR.cons (cB.mpr ⟨c,us,rfl,.inl (.inl ?_),c3.mono sF⟩) (ih yss (by simpa using h) λk b zs q1 q2=>hh (k+1) b zs (by simpa using q1) (by simpa using q2));rw[pos c (.inr c1)];exact c2
 have da:DA K F' (.list (xss.map .list)) (.ref l):=cB.mpr ⟨l,_,rfl,.inl (.inl (by rw[pos l (.inl rfl)];exact a3)),dd bs xss a4 λk b ys q1 q2=>by obtain⟨_,us,c2,c3⟩:=a7 k b ys q1 q2;exact⟨Qc q1,us,c2,c3⟩⟩;have gi:(e.set i (some (Sv.d (.list (xss.map .list)))))[i]?=some (some (.d (.list (xss.map .list)))):=Rt hlt;have nofp:∀a,¬Fp σ (e.set i (some (.d (.list (xss.map .list))))) H i a:=λa q=>by
  rcases q with⟨zs,q,_⟩|⟨xss,_,_,q,_⟩;·rw[gi]at q;cases q
  ·rw[gi]at q;cases q
 obtain⟨R',fs⟩:=R.upd1 (F':=F') (H':=H) (e':=e.set i (some (.d (.list (xss.map .list))))) i (by rw[RY];exact R.len) ↥4 (λj hj=>QQ (QK hj)) sF sm (λj a hj q=>by rw[neg a λz=>hj (R.fp j i a q (inF a z))];exact(R.fpAt q).1) (λj a o _ _ ha=>ha) (λx q=>by rw[gi]at q;cases q;exact⟨_,a1,da⟩) (λzs q=>by rw[gi]at q;cases q) (λzss q=>by rw[gi]at q;cases q) (λa j hj q=>absurd q (nofp a));refine⟨F',.ref l,a1,da,R',⟨sF,λ_ h=>h,λa vs h1 h2 h3=>?_,λa vs h=>⟨vs,h⟩,λ_ _ h _=>h,λj=>?_,λa⟨j,q⟩=>?_,λa m h1 h2 h3=>by rw[neg a λz=>h3 ⟨i,inF a z⟩];exact h1⟩⟩;·rw[neg a λz=>h3 ⟨i,inF a z⟩];exact h1
 ·by_cases z:j=i;·subst z;rw[gi,hi];simp
  ·rw[QQ (QK z)]
 ·by_cases z:j=i;·subst z;exact absurd q (nofp a)
  ·exact .inl ⟨j,(fs j a z).mp q⟩
theorem bc.setN(R:bc K F H σ e)(i:Nat){l:Qe}(h1:F l=none)(h2:H l=some (.lst []))(h4:¬cm σ e H l):bc K F H (σ.set i (some (.ref l))) (e.set i (some (.n [])))/\∀a,cm (σ.set i (some (.ref l))) (e.set i (some (.n []))) H a->cm σ e H a\/a=l:=by
 have gi:∀s,(e.set i (some (Sv.n [])))[i]?=some (some s)->s=.n []/\i<e.length:=λs q=>by
  have hlt:i<e.length:=by have:=(P_ q).1;simpa using this
  rw[Rt hlt]at q;exact⟨(QY (QY q)).symm,hlt⟩
 have onefp:∀a,Fp (σ.set i (some (.ref l))) (e.set i (some (.n []))) H i a->a=l:=λa q=>by
  rcases q with⟨zs,q,q2⟩|⟨xss,l',bs,q,q2,q3,q4⟩;·cases (gi _ q).1
  ·obtain⟨_,hlt⟩:=gi _ q;rw[Rt (by rw[R.len];exact hlt)]at q2;cases q2;rw[h2]at q3;have:bs=[]:=by cases bs with|nil=>rfl|cons _ _=>have z:=HO.lst.inj (QY q3);simp at z
   subst this;exact q4.elim id λz=>by cases z
 obtain⟨R',fs⟩:=R.upd1 (F':=F) (H':=H) (σ':=σ.set i (some (.ref l))) (e':=e.set i (some (.n []))) i (by rw[RY,RY];exact R.len) (λj hj=>QQ (QK hj)) (λj hj=>QQ (QK hj)) (aG.refl F) R.sm (λj a _ q=>(R.fpAt q).1) (λj a o _ _ ha=>ha) (λy q=>by cases (gi _ q).1) (λzs q=>by cases (gi _ q).1) (λzss q=>by obtain⟨z,hlt⟩:=gi _ q;cases z;exact⟨l,[],Rt (by rw[R.len];exact hlt),h1,h2,rfl,List.nodup_nil,by simp,λk b ys q=>by simp at q⟩) (λa j hj q q2=>h4 ⟨j,by rw[onefp a q]at q2;exact q2⟩);refine⟨R',λa⟨j,q⟩=>?_⟩;by_cases z:j=i;·subst z;exact .inr (onefp a q)
 ·exact .inl ⟨j,(fs j a z).mp q⟩
end
def ck(e:En)(i:Nat):Option (List (List Qg)):=match e[i]? with|some (some (.n xss))=>some xss|_=>none
theorem dP{e:En}{i:Nat}{xss:List (List Qg)}(h:ck e i=some xss):e[i]?=some (some (.n xss)):=by
 unfold ck at h;split at h;·rename_i heq;cases h;exact heq
 ·cases h
section
variable{X:Cx}{K:⇑0}{a b:Qh}{es:List Qh}{fa fb:FE}{fs:FA}{pos p p2 p3 pos':Pos}{x:Str}{i:Nat}
def xx(i:Nat):FS:=λe=>some (.nx (e.set i (some (.n []))))
theorem zO(hN:X.N.Nodup)(hi:X.N[i]?=some x)(hx:Hz X.env.scope x)(hs:So (.List [] p) (some (.Name x pos')) pos.line X.env=pure false)(hf:X.fn x=true\/X.env.scope.names.lookup x=some .local):PS X (.Assign [.Name x pos'] (.List [] p) pos) (fS K (xx i) [i]):=(rC hN hi hx (rA g_) hs hf).mono λD σ H h=>by
 obtain⟨F,e,fl,R,hf,q⟩:=h;cases hf;refine⟨Ss _,λl hl=>?_⟩;obtain⟨R1,X1,f1,n1⟩:=R.newL (vs:=[]) hl;obtain⟨R2,o2⟩:=R1.setN i f1 aw n1;refine q F _ _ ⟨X1.sf,X1.dom,X1.fr,X1.lst,X1.tmp,λa h=>?_,λj n=>QQ (λz=>n (by simp[z])),X1.fd⟩ R2;rcases o2 a h with z|z;·exact X1.ow a z
 ·exact .inr (by rw[z];exact hl)
def lu(i:Nat):FE:=λe=>(ck e i).map λxss=>(.d (.int xss.length),e)
theorem vm(hK:X.K=K)(hN:X.N[i]?=some x)(hv:Bw X.env.scope x)(hd:(x==("__debug__":Str))=false)(hcd:(x==("__classdict__":Str))=false)(hg:Gl X "len")(hm:X.mg "len"=none)(hst:TY (.Name x p2)=false)(he:Qq [.Name x p2] X.env=(false,Qs (.Name x p2) X.env)::Qq [] X.env)(hpl:(QH pos (Qq [] X.env)).any (·.1)=false):PE X (.Call (.Name "len" p) [.Name x p2] [] pos) (fE K (lu i)):=(rq (Ax hK) hg hm PySem.boot_len (FP (hJ hN hv hd hcd) g_ hst) ⋯ ⋯ he hpl).mono λσ H Q h=>by obtain⟨F,e,z,e',R,hf,q⟩:=h;unfold lu at hf;obtain⟨xss,h1,hf⟩:=P9 hf;cases hf;obtain⟨l,bs,a1,a2,a3,a4,_⟩:=R.nst i xss (dP h1);refine⟨_,a1,l,_,rfl,.inl (.inl (.inl a3)),?_⟩;rw[Qz,a4];exact q F H _ (fm.refl _ _ _ _) R om
def nL(i:Nat)(fa:FE):FE:=λe=>(ck e i).bind λ_=>(fa e).bind λp=>match p.1 with|.l ys=>(ck p.2 i).bind λxss=>if xss.length<1000000 then some (.d .none,p.2.set i (some (.n (xss++[ys])))) else none|_=>none
theorem Dp{apos cpos:Pos}(hK:X.K=K)(hN:X.N[i]?=some x)(hv:Bw X.env.scope x)(hd:(x==("__debug__":Str))=false)(hcd:(x==("__classdict__":Str))=false)(ha:PE X a (fE K fa))(hst:TY a=false)(hbase:TH (.Name x p) "append" X.env (Qs (.Name x p) X.env)=Qs (.Name x p) X.env)(hfew:((QH cpos (Qq [a] X.env)).all (λx=>!x.1)&&(backToKw cpos (TJ [] X.env)).all (λx=>x.1.isSome)&&decide ([a].length+([]:List RG).length+(if ([]:List RG).isEmpty then 0 else 1)<30))=true)(hline:(apos.endLine==cpos.line)=true)(hs:Qq [a] X.env=(false,Qs a X.env)::Qq [] X.env)(hplain:(QH cpos (Qq [] X.env)).any (·.1)=false):PE X (.Call (.Attribute (.Name x p) "append" apos) [a] [] cpos) (fE K (nL i fa)):=by subst hK;refine(C3 VI US VJ jE (hJ hN hv hd hcd) (FP ha g_ hst) hbase hfew hline hs hplain).mono λσ H Q h=>?_;obtain⟨F,e,z,e',R,hf,q⟩:=h;unfold nL at hf;obtain⟨xss0,h0,hf⟩:=P8 hf;obtain⟨⟨r,e1⟩,h1,hf⟩:=P8 hf;match r,h1,hf with
 |.l ys,h1,hf=>
 obtain⟨xss,h2,hf⟩:=P8 hf;split at hf;case isFalse=>cases hf
 case isTrue hlen=>
 cases hf;obtain⟨l,bs0,a1,_,a3,_⟩:=R.nst i xss0 (dP h0);refine⟨_,a1,.inl ⟨rfl,_,.inl (.inl a3)⟩,F,e,_,e1,R,h1,λF1 H1 v X1 R1 A1=>?_⟩;obtain⟨t,us,rfl,t1,t2,t3,t4,t5⟩:=A1;have h2':=dP h2;obtain⟨l',bs,c1,c2,c3,c4,c5,c6,c7⟩:=R1.nst i xss h2';rw[a1]at c1;cases c1;have fi:∀z,z=l\/z∈bs->Fp σ e1 H1 i z:=λz h=>.inr ⟨xss,l,bs,h2',a1,c3,h⟩;have tl:t≠l:=λz=>t5 ⟨i,fi t (.inl z)⟩;have tb:t∉bs:=λz=>t5 ⟨i,fi t (.inr z)⟩;have sl:Qv=16777216:=Rm;refine⟨l,_,_,rfl,rfl,c3,by rw[Qz,c4];lia,?_⟩;have em:bs.map V.ref++[V.ref t]=(bs++[t]).map V.ref:=by simp
 rw[em];obtain⟨R2,o2,s2⟩:=R1.putN (yss:=xss++[ys]) (bs:=bs++[t]) (H':=bz H1 l (.lst ((bs++[t]).map V.ref))) h2' a1 c2 aw (by simp[c4]) (by rw[Ud];exact⟨c5,by simp,λx hx y hy=>by simp at hy;subst hy;exactλz=>tb (z▸hx)⟩) (by simp[c6,QK tl]) (λk b zs q1 q2=>by
  rw[List.getElem?_append]at q1 q2;rw[c4]at q1;by_cases hk:k<xss.length;·rw[if_pos hk]at q1 q2;obtain⟨d1,us',d2,d3⟩:=c7 k b zs q1 q2;have zb:b≠l:=λz=>c6 (z▸Qc q1);exact⟨d1,us',by rw[aA zb];exact d2,d3⟩
  ·rw[if_neg hk]at q1 q2;have hk0:k-xss.length=0:=by have:=(P_ q1).1;simp at this;lia
   rw[hk0]at q1 q2;simp at q1 q2;subst q1 q2;exact⟨t2,us,by rw[aA tl];exact t3,t4⟩) (λb hb=>by
   rcases P' hb with hb|hb;·exact .inl (fi b (.inr hb))
   ·simp at hb;subst hb;exact .inr t5) (λz q=>by
   by_cases e0:z=l;·rw[e0,aw]at q;cases q
   ·rw[aA e0]at q;exact q) (λz o q n1 _=>by rw[aA n1];exact q) (λz vs q=>by
   by_cases e0:z=l;·rw[e0];exact⟨_,aw⟩
   ·rw[aA e0];exact⟨vs,q⟩);refine q F1 _ .non ⟨X1.sf,λz q=>X1.dom z ?_,X1.fr,λz vs h=>?_,λz o h n=>?_,λj=>(s2 j).trans (X1.shp j),λz h=>?_,X1.fd⟩ R2 ((mL (K:=X.K) (F:=F1)).mpr rfl)
 ·by_cases e0:z=l;·rw[e0,aw]at q;cases q
  ·rw[aA e0]at q;exact q
 ·obtain⟨vs',h'⟩:=X1.lst z vs h;by_cases e0:z=l;·rw[e0];exact⟨_,aw⟩
  ·rw[aA e0];exact⟨vs',h'⟩
 ·have e0:z≠l:=λe0=>by
   rcases X1.ow z ⟨i,fi z (.inl e0)⟩with w|w;·exact n w
   ·rw[h]at w;cases w
  rw[aA e0];exact X1.tmp z o h n
 ·rcases o2 z h with w|w;·exact X1.ow z w
  ·rcases P' w with w|w;·exact X1.ow z ⟨i,fi z (.inr w)⟩
   ·simp at w;subst w;exact .inr t1
def Qt(X:Cx)(K:⇑0)(a:Qh)(f:En->Option Int):Prop:=∃t:TE,PE X a t/\∀σ F H e i (Q:VK),bc K F H σ e->f e=some i->Q (.int i) H->t σ H Q
def qU(i:Nat):En->Option Int:=λe=>match e[i]? with|some (some (.d (.int k)))=>some k|_=>none
theorem Ds(i:Nat)(hN:X.N[i]?=some x)(hv:Bw X.env.scope x)(hd:(x==("__debug__":Str))=false)(hcd:(x==("__classdict__":Str))=false):Qt X K (.Name x pos) (qU i):=⟨_,hJ hN hv hd hcd,λσ F H e k Q R hf q=>by
 unfold qU at hf;split at hf;·rename_i heq;cases hf;obtain⟨v,h1,h2⟩:=R.dat i _ heq;exact⟨v,h1,by rw[bT.mp h2];exact q⟩
 ·cases hf⟩
def nC(k:Int):En->Option Int:=λ_=>some k
theorem IZ{k:Int}{j}:Qt X K (.Constant (.int k) j pos) (nC k):=⟨_,C6,λσ F H e i Q R hf q=>by cases hf;exact q⟩
def CM(f g:En->Option Int):En->Option Int:=λe=>(f e).bind λi=>(g e).map λj=>i+j
theorem IY{f g:En->Option Int}(ha:Qt X K a f)(hb:Qt X K b g):Qt X K (.BinOp a .Add b pos) (CM f g):=by obtain⟨ta,h1,h2⟩:=ha;obtain⟨tb,h3,h4⟩:=hb;refine⟨_,C8 CY h1 h3,λσ F H e k Q R hf q=>?_⟩;unfold CM at hf;obtain⟨i,g1,hf⟩:=P8 hf;obtain⟨j,g2,hf⟩:=P9 hf;cases hf;exact h2 σ F H e i _ R g1 (h4 σ F H e j _ R g2 ⟨i,j,rfl,rfl,q⟩)
def xw(i:Nat)(fv fp:FE)(fq:En->Option Int):FS:=λe=>(fv e).bind λr=>(mM r.1).bind λd=>(ck r.2 i).bind λ_=>(fp r.2).bind λp=>(bL p.1).bind λk=>(ck p.2 i).bind λxss=>(yp xss.length k).bind λkn=>(xss[kn]?).bind λys=>(fq p.2).bind λj=>(yp ys.length j).map λjn=>.nx (p.2.set i (some (.n (xss.set kn (ys.set jn d)))))
theorem Gi{c pq:Qh}{fv fp:FE}{fq:En->Option Int}{ps ps2:Pos}(hK:X.K=K)(he:PE X c (fE K fv))(hN:X.N[i]?=some x)(hv:Bw X.env.scope x)(hd:(x==("__debug__":Str))=false)(hcd:(x==("__classdict__":Str))=false)(hp:PE X a (fE K fp))(hpl:mE a)(hq:Qt X K pq fq)(ha:∀v,RD (.Subscript (.Subscript (.Name x p) a ps2) pq ps) X.env v=(do
  let ov<-Sn [v] (Qs (.Subscript (.Name x p) a ps2) X.env)let iv<-Sn [v,ov] (Qs pq X.env)RQ ps
  Sn [v,ov,iv] (setItem ov iv v)release [v,ov,iv] []))(hs:Ul [.Subscript (.Subscript (.Name x p) a ps2) pq ps] c pos.line X.env=pure false)(hw:Um [.Subscript (.Subscript (.Name x p) a ps2) pq ps] c X.env=pure none)(h1:(RW [.Subscript (.Subscript (.Name x p) a ps2) pq ps] X.env).map (·.2)=[RD (.Subscript (.Subscript (.Name x p) a ps2) pq ps) X.env]):PS X (.Assign [.Subscript (.Subscript (.Name x p) a ps2) pq ps] c pos) (fS K (xw i fv fp fq) []):=by
 obtain⟨tq,q1,q2⟩:=hq;refine(Di he (IK (C7 (wC hK) (hJ hN hv hd hcd) hp hpl) q1 DX ha) hs hw h1).mono λD σ H h=>?_;obtain⟨F,e,fl,R,hf,q⟩:=h;unfold xw at hf;obtain⟨⟨r,e1⟩,g1,hf⟩:=P8 hf;obtain⟨d,g2,hf⟩:=P8 hf;obtain⟨xs0,g3,hf⟩:=P8 hf;obtain⟨⟨rp,e2⟩,g4,hf⟩:=P8 hf;obtain⟨k,g5,hf⟩:=P8 hf;obtain⟨xss,g6,hf⟩:=P8 hf;obtain⟨kn,g7,hf⟩:=P8 hf;obtain⟨ys,g8,hf⟩:=P8 hf;obtain⟨j,g9,hf⟩:=P8 hf;obtain⟨jn,g10,hf⟩:=P9 hf;cases hf;refine⟨F,e,r,e1,R,g1,λF1 H1 v X1 R1 A1=>?_⟩;obtain⟨l,bs0,a1,_⟩:=R1.nst i xs0 (dP g3);refine⟨_,a1,F1,e1,rp,e2,R1,g4,λF2 H2 w X2 R2 A2=>?_⟩;have X12:=X1.trans X2;obtain⟨F3,R3,s3,d3,f3⟩:=cz.frozen R2 (rs:=[r]) (vs:=[v]) ⟨v,[],rfl,A1.ext X2,rfl⟩ (nR g2);have X13:=X12.frz s3 f3;have g6':=dP g6;obtain⟨l',bs,c1,c2,c3,c4,c5,c6,c7⟩:=R3.nst i xss g6';rw[a1]at c1;cases c1;obtain⟨b,hb⟩:∃b,bs[kn]?=some b:=⟨bs[kn]'(by rw[c4];exact(P_ g8).1),QR _⟩;obtain⟨b1,us,b2,b3⟩:=c7 kn b ys hb g8;have fi:∀z,z=l\/z∈bs->Fp σ e2 H2 i z:=λz h=>.inr ⟨xss,l,bs,g6',a1,c3,h⟩;have bm:b∈bs:=Qc hb;have bl:b≠l:=λz=>c6 (z▸bm);refine⟨l,_,k,.ref b,rfl,bS A2 g5,.inl (.inl c3),?_,q2 σ F3 H2 e2 j _ R3 g9 ?_⟩;·unfold atI;rw[Qz,c4,g7];show(bs.map V.ref)[kn]?=_;rw[QD,hb];rfl
 refine⟨b,us,j,jn,rfl,rfl,b2,by rw[<-b3.len];exact g10,?_⟩;have dv:DA K F3 d v:=by simp only[aR]at d3;obtain⟨v',r',e',hv,_⟩:=d3;cases e';exact hv
 obtain⟨R4,o4,s4⟩:=R3.putN (yss:=xss.set kn (ys.set jn d)) (bs:=bs) (H':=bz H2 b (.lst (us.set jn v))) g6' a1 c2 (by rw[aA (QK bl)];exact c3) (by simp[c4]) c5 c6 (λm z zs z1 z2=>by
  by_cases em:m=kn;·subst em;rw[hb]at z1;cases z1;rw[Rt (by exact(P_ g8).1)]at z2;cases z2;exact⟨b1,_,aw,b3.set dv jn⟩
  ·rw[QQ (QK em)]at z2;obtain⟨d1,us',d2,d3⟩:=c7 m z zs z1 z2;have zb:z≠b:=λez=>by subst ez;exact em ((List.getElem?_inj (P_ z1).1 c5).mp (z1.trans hb.symm))
   exact⟨d1,us',by rw[aA zb];exact d2,d3⟩) (λz hz=>.inl (fi z (.inr hz))) (λz q=>by
   by_cases e0:z=b;·rw[e0,aw]at q;cases q
   ·rw[aA e0]at q;exact q) (λz o q _ n2=>by have e0:z≠b:=λe0=>n2 (by rw[e0];exact bm);rw[aA e0];exact q) (λz vs q=>by
   by_cases e0:z=b;·rw[e0];exact⟨_,aw⟩
   ·rw[aA e0];exact⟨vs,q⟩);refine q F3 _ σ ⟨X13.sf,λz q=>X13.dom z ?_,X13.fr,λz vs h=>?_,λz o h n=>?_,λz h=>?_,λ_ _=>rfl,X13.fd⟩ R4
 ·by_cases e0:z=b;·rw[e0,aw]at q;cases q
  ·rw[aA e0]at q;exact q
 ·obtain⟨vs',h'⟩:=X13.lst z vs h;by_cases e0:z=b;·rw[e0];exact⟨_,aw⟩
  ·rw[aA e0];exact⟨vs',h'⟩
 ·have e0:z≠b:=λe0=>by
   rcases X13.ow z ⟨i,fi z (.inr (by rw[e0];exact bm))⟩with w|w;·exact n w
   ·rw[h]at w;cases w
  rw[aA e0];exact X13.tmp z o h n
 ·rcases o4 z h with w|w;·exact X13.ow z w
  ·exact X13.ow z ⟨i,fi z (.inr w)⟩
def zu(i:Nat):FI:=λe=>(ck e i).map λxss=>(xss.map .list,[],e.set i (some (.d (.list (xss.map .list)))))
theorem zN{tg:Qh}(hK:X.K=K)(hN:X.N[i]?=some x)(hv:Bw X.env.scope x)(hd:(x==("__debug__":Str))=false)(hcd:(x==("__classdict__":Str))=false):PI X tg (.Name x pos) (fI K (zu i)):=(xf (tg:=tg) hK (hJ hN hv hd hcd)).mono λσ H R hh=>by obtain⟨F,e,items,own,e',R0,hf,q⟩:=hh;unfold zu at hf;obtain⟨xss,h1,hf⟩:=P9 hf;cases hf;obtain⟨F',v,c1,c2,R1,X1⟩:=R0.frzN (dP h1);obtain⟨l,vs,rfl,d1,d2⟩:=cB.mp c2;exact⟨_,c1,l,rfl,⟨vs,R1.sm.seq d1⟩,q _ F' H X1 R1 (λ_ h=>by cases h) (tP (.lst d1 d2))⟩
end
theorem nU{C:Int->Int->Bool}{f:Int->Int->Qg}{e:En}{i j:Int}(h:C i j=true):gI C f e (.d (.int i)) (.d (.int j))=some (.d (f i j)):=by simp[gI,bL,h]
theorem cW{e:En}{i j:Int}:bF e (.d (.int i)) (.d (.int j))=some (.d (.int (i+j))):=rfl
theorem dy{e:En}{i j:Int}:kW e (.d (.int i)) (.d (.int j))=some (.d (.int (i-j))):=rfl
theorem cD{e:En}{i j:Int}(h:mq i j=true):dz e (.d (.int i)) (.d (.int j))=some (.d (.int (i*j))):=by unfold dz Ep wq;rw[nU h];rfl
theorem CL{i j:Int}(h1:-(2^64)<i)(h2:i<2^64):mq i j=true:=by
 have:kg i=true:=by unfold kg;rw[decide_eq_true h1,decide_eq_true h2];rfl
 unfold mq;rw[this];simp
theorem u_{i j:Int}(h1:-(2^64)<j)(h2:j<2^64):mq i j=true:=by
 have:kg j=true:=by unfold kg;rw[decide_eq_true h1,decide_eq_true h2];rfl
 unfold mq;rw[this];simp
theorem jk{i j:Int}(h1:Bt 4000 i)(h2:Bt 4000 j):mq i j=true:=by unfold mq;rw[jW.mpr h1,jW.mpr h2];simp
theorem aW{e:En}{i j:Int}(h:0<j):be e (.d (.int i)) (.d (.int j))=some (.d (.int (i%j))):=by unfold be;rw[nU ↥7];rw[Int.fmod_eq_emod_of_nonneg i ↥0]
theorem dN{e:En}{i j:Int}(h:0<j)(h2:Bt 8000 j):dj e (.d (.int i)) (.d (.int j))=some (.d (.int (i/j))):=by unfold dj;rw[nU (by simp[jW.mpr h2];lia)];rw[Int.fdiv_eq_ediv_of_nonneg i ↥0]
theorem iX{e:En}{i j:Int}{neg:Bool}:eh neg e (.d (.int i)) (.d (.int j))=some (.d (.bool (if neg then !(i==j) else i==j))):=by unfold eh;simp[l4,Ru,RB,Ro,RU]
theorem i7{e:En}{i j:Int}:Cd e (.d (.int i)) (.d (.int j))=some (.d (.bool (decide (i<j)))):=rfl
theorem i5{e:En}{i j:Int}:MG e (.d (.int i)) (.d (.int j))=some (.d (.bool (decide (i<=j)))):=rfl
theorem iZ{e:En}{i j:Int}:Ca e (.d (.int i)) (.d (.int j))=some (.d (.bool (decide (j<i)))):=rfl
theorem iY{e:En}{i j:Int}:EW e (.d (.int i)) (.d (.int j))=some (.d (.bool (decide (j<=i)))):=rfl
theorem gw{e:En}{i j:Int}:g2 Ce e [.d (.int i),.d (.int j)]=some (.d (.int (min i j))):=by show some (Rv.d (.int (if j<i then j else i)))=_;congr 3;split<;>lia
theorem eZ{e:En}{i j:Int}:g2 wo e [.d (.int i),.d (.int j)]=some (.d (.int (max i j))):=by show some (Rv.d (.int (if j>i then j else i)))=_;congr 3;split<;>lia
theorem gy{e:En}{i:Int}:ww e (.d (.int i))=some (.d (.int (-i))):=rfl
theorem eF{e:En}{b:Bool}:g1 mR e [.d (.bool b)]=some (.d (.int (if b then 1 else 0))):=rfl
theorem gu{e:En}{i:Int}:g1 yj e [.d (.int i)]=some (.d (.int i.natAbs)):=by show some (Rv.d (.int (if i<0 then-i else i)))=_;congr 3;split<;>lia
theorem jX{j:Int}(h1:0<j)(h2:j<2^64):Bt 8000 j:=Bt.mono (m:=64) (by unfold Bt;lia) ⋯
theorem jf{α:Type}{xs:List α}{i:Int}(h0:0<=i)(h:i<xs.length):atI xs i=xs[i.toNat]?:=by unfold atI yp;rw[if_pos h0,if_pos h];rfl
theorem mQ{e:En}{i:Nat}{xs:List Qg}{neg:Bool}(h:e[i]?=some (some (.l xs)))(hs:Ru (.list xs)=true):eh neg e (.s i) (.l [])=some (.d (.bool (if neg then !xs.isEmpty else xs.isEmpty))):=by
 unfold eh;simp only[l4,h,QC,hs];have h0:Ru (.list [])=true:=by simp[Ru,RB,RZ,Ro,RT]
 rw[h0];cases xs<;>simp[RU,UD]
theorem pA(ns:List Int):Ru (.list (ns.map .int))=true/\Ru (.tuple (ns.map .int))=true:=by
 have h1:RZ (ns.map PyData.int)=true:=by induction ns with|nil=>rfl|cons n r ih=>simp[RZ,RB,ih]
 have h2:RT (ns.map PyData.int)=0:=by clear h1;induction ns with|nil=>rfl|cons n r ih=>simp[RT,Ro,ih]
 constructor<;>simp[Ru,RB,Ro,h1,h2]
theorem cn{own:jq}{g:FG}{f:FS}(P:Nat->En->Prop):∀(items:List Qg) (k:Nat) (e:En),(∀i x e,items[i]?=some x->P (k+i) e->∃e1 e2,g x e=some e1/\f e1=some (.nx e2)/\keeps own e2/\P (k+i+1) e2)->P k e->∃e',j5 own g f items e=some (.nx e')/\P (k+items.length) e'|[],k,e,_,h=>⟨e,rfl,h⟩|x::r,k,e,hs,h=>by obtain⟨e1,e2,h1,h2,h3,h4⟩:=hs 0 x e rfl h;obtain⟨e',h5,h6⟩:=cn P r (k+1) e2 (λi y e hy hp=>by have:=hs (i+1) y e (by simpa using hy) (by rw[show k+(i+1)=k+1+i by lia];exact hp);rw[show k+(i+1)+1=k+1+i+1 by lia]at this;exact this) h4;refine⟨e',?_,by rw[Rk,show k+(r.length+1)=k+1+r.length by lia];exact h6⟩;unfold j5;simp only[h1,h2,QC,if_pos h3];exact h5
theorem bB{e:En}:keeps [] e:=λ_ h=>by cases h
theorem dn{W:List Nat}{fi:FI}{g:FG}{f:FS}{e e1:En}{items:List Qg}(h:fi e=some (items,[],e1)):cx W fi g f e=j5 [] g f items e1:=by unfold cx;rw[h];rfl
theorem cP{lo:Int}{n i:Nat}{x:Qg}(h:(aT lo n)[i]?=some x):x=.int (lo+i)/\i<n:=by unfold aT at h;rw[QD]at h;obtain⟨k,h1,rfl⟩:=P9 h;obtain⟨h2,h3⟩:=P_ h1;simp at h2 h3;subst h3;exact⟨rfl,h2⟩
theorem bI{lo:Int}{n:Nat}:(aT lo n).length=n:=by simp[aT]
theorem cf{fs:FA}{e e1:En}{n:Int}(h:fs e=some ([.d (.int n)],e1))(h1:-1000000<=n)(h2:n<=1000000):cq fs e=some (aT 0 n.toNat,[],e1):=by
 unfold cq;rw[h];have:DG n=true:=by unfold DG;rw[decide_eq_true h1,decide_eq_true h2];rfl
 simp[bL,this]
theorem fY{ft:FT}{f:FS}(P:En->Prop)(μ:En->Nat)(hs:∀e,P e->(∃e1,ft e=some (false,e1)/\True)\/∃e1 e2,ft e=some (true,e1)/\f e1=some (.nx e2)/\P e2/\μ e2<μ e):∀(n:Nat) (e:En),P e->μ e<n->∃e0 e',kh ft f n e=some (.nx e')/\P e0/\ft e0=some (false,e'):=by intro n;induction n with|zero=>intro e _ h;lia|succ n ih=>
 intro e hp hm;rcases hs e hp with⟨e1,h1,_⟩|⟨e1,e2,h1,h2,h3,h4⟩;·exact⟨e,e1,by unfold kh;rw[h1];rfl,hp,h1⟩
 ·obtain⟨e0,e',g1,g2⟩:=ih e2 h3 ↥0;exact⟨e0,e',by unfold kh;rw[h1];simp only[QC,if_true,h2];exact g1,g2⟩
theorem bE{cs:En}{ft:FT}{fe:FE}{b:Qg->Bool}{y:Qg->Qg}:∀(items:List Qg) (t:Option Sv) (acc:List Qg),(∀x∈items,ft (cs++[some (.d x)])=some (b x,cs++[some (.d x)]))->(∀x∈items,b x=true->fe (cs++[some (.d x)])=some (.d (y x),cs++[some (.d x)]))->acc.length+items.length<=1000000->∃t',dh (ah cs.length) ft fe items (cs++[t]) acc=some (acc++(items.filter b).map y,cs++[t'])
 |[],t,acc,_,_,_=>⟨t,by simp[dh]⟩|x::r,t,acc,h1,h2,hl=>by
  have hg:ah cs.length x (cs++[t])=some (cs++[some (.d x)]):=by simp[ah]
  have h1x:=h1 x ↥1;unfold dh;rw[hg];simp only[QC,h1x];cases hb:b x with|true=>simp only[if_true,h2 x ↥1 hb,QC,mM];rw[if_pos (by simp at hl;lia)];obtain⟨t',ih⟩:=bE (b:=b) (y:=y) r (some (.d x)) (acc++[y x]) (λz hz=>h1 z (by simp[hz])) (λz hz=>h2 z (by simp[hz])) (by simp at hl⊢;lia);exact⟨t',by rw[ih];simp[hb]⟩|false=>simp only[UX,if_false];obtain⟨t',ih⟩:=bE (b:=b) (y:=y) r (some (.d x)) acc (λz hz=>h1 z (by simp[hz])) (λz hz=>h2 z (by simp[hz])) (by simp at hl;lia);exact⟨t',by rw[ih];simp[hb]⟩
theorem iP{cp:List (Nat×Str)}{nT:Nat}{fi:FI}{g:FG}{ft:FT}{fe:FE}{e e1 eo:En}{items out:List Qg}(h1:fi e=some (items,[],e1))(h3:dh g ft fe items (mi cp nT e1) []=some (out,eo))(h4:(cp.all λp=>!AO e1[p.1]?)=true):bj cp nT fi g ft fe e=some (.l out,e1):=by
 unfold bj;rw[h1];simp only[QC,List.all_nil,if_true,h3];have hb:iz cp eo e1=true:=by unfold iz;rw[Rp]at h4⊢;intro p hp;rw[h4 p hp];rfl
 rw[if_pos hb];congr 2;refine Sx λi=>?_;rw[ci];match hi:e1[i]? with|none=>rfl|some none=>rfl|some (some (.d x))=>rfl|some (some (.n x))=>rfl|some (some (.l x))=>cases hp:lU cp i with|none=>simp[hp]|some k=>obtain⟨s,hs⟩:=dc hp;have:=Rp.mp h4 _ (Qc hs);simp[hi,AO]at this
theorem uS{fa:FE}{e e1:En}{xs:List Qg}(h:fa e=some (.d (.tuple xs),e1)):iE fa e=some (xs,[],e1):=by unfold iE;rw[h];rfl
theorem uT{fa:FE}{e e1:En}{xs:List Qg}(h:fa e=some (.l xs,e1)):iE fa e=some (xs,[],e1):=by unfold iE;rw[h];rfl
theorem gN{cp:List (Nat×Str)}{nT:Nat}{fi:FI}{g:FG}{ft:FT}{fe:FE}{e e1 cs:En}{t t':En}{items out:List Qg}(h1:fi e=some (items,[],e1))(hc:mi cp nT e1=cs++t)(hl:cs.length=cp.length)(h3:dh g ft fe items (mi cp nT e1) []=some (out,cs++t')):bj cp nT fi g ft fe e=some (.l out,e1):=by
 have key:∀i x,e1[i]?=some (some (.l x))->∀k,lU cp i=some k->(cs++t')[k]?=some (some (.l x)):=by
  intro i x hi k hk;obtain⟨s,hs⟩:=dc hk;have hk2:k<cp.length:=(P_ hs).1;have:(mi cp nT e1)[k]?=some (some (.l x)):=by unfold mi;rw[Sr (by simpa using hk2),QD,hs];simp[hi,Kd]
  rw[hc,Sr ↥0]at this;rw[Sr ↥0];exact this
 unfold bj;rw[h1];simp only[QC,List.all_nil,if_true,h3];have hb:iz cp (cs++t') e1=true:=by unfold iz;rw[Rp];intro p hp;match hi:e1[p.1]? with|none=>simp[AO]|some none=>simp[AO]|some (some (.d x))=>simp[AO]|some (some (.n x))=>simp[AO]|some (some (.l x))=>cases hq:lU cp p.1 with|none=>unfold lU at hq;rw[Vd]at hq;have:=hq p hp;simp at this|some k=>simp[key p.1 x hi k hq,AO]
 rw[if_pos hb];congr 2;refine Sx λi=>?_;rw[ci];match hi:e1[i]? with|none=>rfl|some none=>rfl|some (some (.d x))=>rfl|some (some (.n x))=>rfl|some (some (.l x))=>cases hp:lU cp i with|none=>simp[hp]|some k=>simp[hp,key i x hi k hp]
theorem md{α:Type}{xs:List α}{i:Int}(h0:0<=i)(h1:i<xs.length):∃x∈xs,atI xs i=some x:=by rw[jf h0 h1];exact⟨xs[i.toNat]'↥0,Ve _,QR _⟩
theorem oV{e:En}{xs:List Qg}{i:Int}:ba e (.l xs) (.d (.int i))=(atI xs i).map .d:=rfl
theorem gv{e:En}{xs:List Qg}{i:Int}:ba e (.d (.tuple xs)) (.d (.int i))=(atI xs i).map .d:=rfl
theorem kQ{e:En}{xs:List Qg}{i:Int}:ba e (.d (.list xs)) (.d (.int i))=(atI xs i).map .d:=rfl
theorem oW{e:En}{j:Nat}{xs:List Qg}{i:Int}(h:e[j]?=some (some (.l xs))):ba e (.s j) (.d (.int i))=(atI xs i).map .d:=by simp[ba,gL,h,bL]
theorem kU{e:En}{xs:List Qg}:g1 ce e [.d (.tuple xs)]=some (.d (.int xs.length)):=rfl
theorem i6{e:En}{xs:List Qg}:g1 ce e [.d (.list xs)]=some (.d (.int xs.length)):=rfl
theorem kR{e:En}{xs:List Qg}:g1 ce e [.l xs]=some (.d (.int xs.length)):=rfl
theorem kS{e:En}{j:Nat}{xs:List Qg}(h:e[j]?=some (some (.l xs))):g1 ce e [.s j]=some (.d (.int xs.length)):=by simp[g1,ce,gL,h]
theorem gB{e:En}{j:Nat}{xs:List Qg}(h:e[j]?=some (some (.l xs))):g1 bf e [.s j]=some (.d (.tuple xs)):=by simp[g1,bf,gL,h]
theorem gA{e:En}{xs:List Qg}:g1 bf e [.l xs]=some (.d (.tuple xs)):=rfl
theorem eG{e:En}{xs:List Qg}:g1 bf e [.d (.list xs)]=some (.d (.tuple xs)):=rfl
theorem gC{e:En}{xs:List Qg}:g1 bf e [.d (.tuple xs)]=some (.d (.tuple xs)):=rfl
theorem l5{e:En}{xs:List Qg}{lo hi:Option Int}:LB e (.d (.tuple xs)) lo hi=some (.d (.tuple (cutD xs lo hi))):=rfl
theorem j6{e:En}{xs ys:List Qg}(h:xs.length+ys.length<=1000000):bF e (.d (.tuple xs)) (.d (.tuple ys))=some (.d (.tuple (xs++ys))):=by simp[bF,Ep,B9,gI,bL,wk,gL,h]
theorem Cf{e:En}{i j:Int}(h:j≠0):be e (.d (.int i)) (.d (.int j))=some (.d (.int (i.fmod j))):=by unfold be;rw[nU (by simpa using h)]
theorem zr{e:En}{i j:Int}(h:j≠0)(h2:Bt 8000 j):dj e (.d (.int i)) (.d (.int j))=some (.d (.int (i.fdiv j))):=by unfold dj;rw[nU (by simp[jW.mpr h2,h])]
theorem mS{e:En}{i j:Int}(h:Dg i j=true):yk e (.d (.int i)) (.d (.int j))=some (.d (.int (i^j.toNat))):=by unfold yk;rw[nU h]
theorem m9:Dg 10 18=true:=by decide
theorem lO{f g:FS}{e e1:En}(h:f e=some (.nx e1)):aC f g e=g e1:=by unfold aC;rw[h];rfl
theorem KM{ft:FT}{f g:FS}{e e1:En}(h:ft e=some (true,e1)):ky ft f g e=f e1:=by unfold ky;rw[h];rfl
theorem KL{ft:FT}{f g:FS}{e e1:En}(h:ft e=some (false,e1)):ky ft f g e=g e1:=by unfold ky;rw[h];rfl
def i_(i:Nat)(e:En):Nat:=match e[i]? with|some (some (.l xs))=>xs.length|_=>0
def tT(i:Nat)(e:En):Nat:=match e[i]? with|some (some (.d (.int k)))=>k.natAbs|_=>0
theorem lH{n m:Nat}(h:n<2^m)(hm:m<=4200):n<2^4200:=Rr h (Vz ⋯ hm)
theorem fF{α:Type}{a:α}{r:List α}:atI (a::r) 0=some a:=by rw[jf ⋯ ↥1];rfl
theorem fH{α:Type}{a b:α}{r:List α}:atI (a::b::r) 1=some b:=by rw[jf ⋯ ↥7];rfl
theorem jT{α:Type}{a b c:α}{r:List α}:atI (a::b::c::r) 2=some c:=by rw[jf ⋯ ↥7];rfl
theorem jU{α:Type}{a b c d:α}{r:List α}:atI (a::b::c::d::r) 3=some d:=by rw[jf ⋯ ↥7];rfl
theorem eP{W:aZ}{k:Int}(h:lR W k):atI (W.ties.map aI) k=some (aI (W.tie k)):=by rw[jf h.1 (by rw[Qz];exact h.2),QD,h.get];rfl
theorem vO{ns:List Int}{k:Int}(h0:0<=k)(h1:k<(ns.length:Int)):atI (ns.map PyData.int) k=some (.int (ns.getD k.toNat 0)):=by
 rw[jf h0 (by rw[Qz];exact h1),QD];have:k.toNat<ns.length:=by lia
 simp[this]
theorem oI{a b c d:Qg}:cutD [a,b,c,d] none (some 2)=[a,b]:=rfl
theorem eE{a b c d:Qg}:cutD [a,b,c,d] (some 2) none=[c,d]:=rfl
theorem eD{a b c:Qg}:cutD [a,b,c] (some 1) none=[b,c]:=rfl
theorem vT(ns:List Int):RZ (ns.map PyData.int)=true:=by induction ns with|nil=>rfl|cons n r ih=>simp[RZ,RB,ih]
theorem vN{x:Int}:∀(ns:List Int),((ns.map PyData.int).any λy=>RU y (.int x))=ns.contains x|[]=>rfl|n::r=>by rw[QB,List.any_cons,vN r,List.contains_cons];show(n==x||_)=_;rw[show(n==x)=(x==n) by rw[Bool.eq_iff_iff];simp;exact eq_comm]
theorem dU{e:En}{x:Int}{ns:List Int}{neg:Bool}:Cc neg e (.d (.int x)) (.d (.tuple (ns.map .int)))=some (.d (.bool (if neg then !ns.contains x else ns.contains x))):=by unfold Cc;simp only[l4,gL,QC,vT,vN];simp[RB,Ro]
theorem i4{e:En}{x a b:Int}{neg:Bool}:Cc neg e (.d (.int x)) (.d (.tuple [.int a,.int b]))=some (.d (.bool (if neg then !(a==x||b==x) else(a==x||b==x)))):=by
 have h:=dU (e:=e) (x:=x) (ns:=[a,b]) (neg:=neg);simp only[QB,Rw]at h;rw[h];have:[a,b].contains x=(a==x||b==x):=by simp only[List.contains_cons,List.contains_nil,Bool.or_false];rw[show(x==a)=(a==x) by rw[Bool.eq_iff_iff];simp;exact eq_comm,show(x==b)=(b==x) by rw[Bool.eq_iff_iff];simp;exact eq_comm]
 rw[this]
theorem qE{e:En}{ns:List Int}(h:ns.length<64):g1 j7 e [.d (.tuple (ns.map .int))]=some (.l ((lq ns).map .int)):=by simp[g1,j7,gL,nW,h]
def Bz(p:Int->Bool):Qg->Bool|.int k=>p k|_=>false
theorem Bb{W:aZ}{asked taken:List Int}:((aT 0 W.ties.length).filter (Bz λk=>W.may asked taken k))=(W.can asked taken).map .int:=by
 unfold aT aZ.can aZ.rng;rw[List.filter_map,List.filter_map,QE];have:(RV W.ties.length).filter ((Bz λk=>W.may asked taken k)∘fun(i:Nat)=>PyData.int (0+(i:Int)))=(RV W.ties.length).filter ((λk=>W.may asked taken k)∘Int.ofNat):=by congr 1;funext i;simp[Bz]
 rw[this];refine SV λi _=>?_;simp
theorem cT(W:aZ):ay W=.tuple [.int W.things,.tuple (W.ties.map aI),.tuple (W.pat.map .int),.int W.asks]:=rfl
def Sh(n:Nat)(d:Qg):Prop:=d.canLay0=true/\d.depth<=n
theorem Sh.mono{n m:Nat}{d:Qg}(h:Sh n d)(l:n<=m):Sh m d:=⟨h.1,QP h.2 l⟩
theorem Sh.ok{n:Nat}{d:Qg}(h:Sh n d)(l:n<=64):Ru d=true:=by unfold Ru;rw[h.1,decide_eq_true (QP h.2 l)];rfl
theorem Sh.int{k:Int}:Sh 2 (.int k):=⟨by simp[RB],by simp[Ro]⟩
theorem Sh.all{n:Nat}:∀{ds:List Qg},(∀d∈ds,Sh n d)->RZ ds=true/\RT ds<=n|[],_=>⟨rfl,by simp[RT]⟩|d::r,h=>by obtain⟨a1,a2⟩:=h d ↥1;obtain⟨b1,b2⟩:=Sh.all (ds:=r) λx hx=>h x (by simp[hx]);exact⟨by simp[RZ,a1,b1],by simp only[RT];lia⟩
theorem Sh.tup{n:Nat}{ds:List Qg}(h:∀d∈ds,Sh n d):Sh (n+2) (.tuple ds):=by obtain⟨b1,b2⟩:=Sh.all h;exact⟨by simp[RB,b1],by simp only[Ro];lia⟩
theorem Sh.list{n:Nat}{ds:List Qg}(h:∀d∈ds,Sh n d):Sh (n+2) (.list ds):=by obtain⟨b1,b2⟩:=Sh.all h;exact⟨by simp[RB,b1],by simp only[Ro];lia⟩
theorem Sh.ints{ns:List Int}:Sh 4 (.tuple (ns.map .int)):=Sh.tup (n:=2) λd hd=>by obtain⟨k,_,rfl⟩:=Qa hd;exact Sh.int
theorem Sh.st{a b:List Int}:Sh 6 (oJ a b):=Sh.tup (n:=4) λd hd=>by simp only[QV,Rq,or_false]at hd;rcases hd with rfl|rfl<;>exact Sh.ints
theorem qX:∀(n:Nat) (l:List Int),l.Nodup->(∀k∈l,0<=k/\k<(n:Int))->l.length<=n
 |0,l,_,h=>by cases l with|nil=>simp|cons a r=>have:=h a ↥1;lia
 |n+1,l,hd,h=>by
  have ih:=qX n (l.erase (n:Int)) (hd.erase _) λk hk=>by obtain⟨h1,h2⟩:=hd.mem_erase_iff.mp hk;have:=h k h2;lia
  by_cases c:(n:Int)∈l;·rw[List.length_erase_of_mem c]at ih;lia
  ·rw[List.erase_of_not_mem c]at ih;lia
abbrev Std:=List Int×List Int
structure qb (W:aZ) (s:Std):Prop where
 inw:∀k∈s.1,lR W k
 nd:s.1.Nodup
 tk:s.2.length<=2*s.1.length
 th:∀t∈s.2,0<=t/\t<W.things
def nxt(W:aZ)(s:Std)(k:Int)(b:Bool):Std:=(aZ.askd s.1 k,W.took s.2 k b)
theorem qb.len{W:aZ}{s:Std}(h:qb W s):s.1.length<=W.ties.length:=qX _ _ h.nd λk hk=>h.inw k hk
theorem qb.first(W:aZ):qb W ([],[]):=⟨λk h=>(by cases h),List.nodup_nil,RJ _,λk h=>(by cases h)⟩
theorem qe{a:List Int}{k:Int}:(aZ.askd a k).length=a.length+1:=by unfold aZ.askd;rw[ud];simp
theorem qb.nxt{W:aZ}{s:Std}{k:Int}(b:Bool)(ok:W.Ok)(h:qb W s)(hk:lR W k)(hn:k∉s.1):qb W (nxt W s k b):=by
 refine⟨λj hj=>?_,?_,?_,?_⟩
 ·have:=ue.mp hj;rcases P' this with z|z;·exact h.inw j z
  ·simp at z;rw[z];exact hk
 ·refine(mz _).nodup_iff.mpr ?_;rw[Ud];refine⟨h.nd,by simp,λa ha b hb=>?_⟩;simp at hb;rintro rfl;exact hn (hb▸ha)
 ·have:=h.tk;show(W.took s.2 k b).length<=2*(aZ.askd s.1 k).length;rw[qe];unfold aZ.took;split;·rw[ud];simp;lia
  ·lia
 ·intro t ht;have o:=hk.ok ok;have:=o.o0;have:=o.o1;have:=o.o2;change t∈W.took s.2 k b at ht;unfold aZ.took at ht;split at ht
  ·rcases P' (ue.mp ht) with z|z;·exact h.th t z
   ·simp at z;rcases z with rfl|rfl<;>lia
  ·exact h.th t ht
theorem zD{W:aZ}{a t:List Int}{k:Int}(h:W.may a t k=true):k∉a:=by
 unfold aZ.may at h;intro c;have:a.contains k=true:=by simpa using c
 simp[c]at h
structure Nd where
 tie:Int
 yes:Int
 no:Int
def iA(x:Nd):Qg:=.tuple [.int x.tie,.int x.yes,.int x.no]
def AW(x:Nd):List Qg:=[.int x.tie,.int x.yes,.int x.no]
def x5(W:aZ)(n:Nat)(S:Nat->Std)(i:Nat)(k:Int)(b:Bool)(l:Int):Prop:=l=-1\/(0<=l/\l<(n:Int)/\S l.toNat=nxt W (S i) k b)
structure Ez (W:aZ) (n:Nat) (S:Nat->Std) (i:Nat) (x:Nd):Prop where
 tie:lR W x.tie
 st:qb W (S i)may:W.may (S i).1 (S i).2 x.tie=true
 yes:x5 W n S i x.tie true x.yes
 no:x5 W n S i x.tie false x.no
def gU(W:aZ)(T:List Nd)(S:Nat->Std):Prop:=∀(i:Nat) (x:Nd),T[i]?=some x->Ez W T.length S i x
structure Wt where
 st:Std
 par:Int
 side:Int
def By(w:Wt):Qg:=.tuple [oJ w.st.1 w.st.2,.int w.par,.int w.side]
theorem Sh.wt{w:Wt}:Sh 8 (By w):=Sh.tup (n:=6) λd hd=>by
 simp only[QV,Rq,or_false]at hd;rcases hd with rfl|rfl|rfl;·exact Sh.st
 ·exact Sh.int.mono ⋯
 ·exact Sh.int.mono ⋯
def Ht(S:Nat->Std)(n:Nat)(s:Std):Nat->Std:=λi=>if i=n then s else S i
structure uo (W:aZ) (T:List Nd) (S:Nat->Std) (ws:List Wt):Prop where
 tr:gU W T S
 wt:∀w∈ws,qb W w.st/\(w.par=-1\/∃(p:Nat) (x:Nd),w.par=(p:Int)/\T[p]?=some x/\((w.side=0/\w.st=L2.nxt W (S p) x.tie true)\/(w.side=1/\w.st=L2.nxt W (S p) x.tie false)))side:∀w∈ws,w.side=0\/w.side=1
theorem x5.up{W:aZ}{n:Nat}{S:Nat->Std}{i:Nat}{k:Int}{b:Bool}{l:Int}{s:Std}(h:x5 W n S i k b l)(hi:i<n):x5 W (n+1) (Ht S n s) i k b l:=by
 rcases h with h|⟨h1,h2,h3⟩;·exact .inl h
 ·refine .inr ⟨h1,by lia,?_⟩;unfold Ht;rw[if_neg ↥0,if_neg ↥0];exact h3
def pI(x:Nd)(side n:Int):Nd:=if side=0 then{x with yes:=n}else{x with no:=n}
theorem CF{x:Nd}{s n:Int}:(pI x s n).tie=x.tie:=by unfold pI;split<;>rfl
theorem uo.more{W:aZ}{T:List Nd}{S:Nat->Std}{w:Wt}{ws:List Wt}{k:Int}(ok:W.Ok)(h:uo W T S (w::ws))(hk:lR W k)(hm:W.may w.st.1 w.st.2 k=true):uo W ((if 0<=w.par then T.modify w.par.toNat (λx=>pI x w.side T.length) else T)++[⟨k,-1,-1⟩]) (Ht S T.length w.st) (ws++[⟨L2.nxt W w.st k true,T.length,0⟩,⟨L2.nxt W w.st k false,T.length,1⟩]):=by
 obtain⟨ws1,ws2⟩:=h.wt w ↥1;generalize hT:(if 0<=w.par then T.modify w.par.toNat (λx=>pI x w.side T.length) else T)=T';have len:T'.length=T.length:=by rw[<-hT];split<;>simp
 have old:∀(i:Nat) (y:Nd),T'[i]?=some y->i<T.length/\∃x,T[i]?=some x/\y.tie=x.tie:=by
  intro i y hy;have hi:i<T.length:=by rw[<-len];exact(P_ hy).1
  refine⟨hi,?_⟩;rw[<-hT]at hy;split at hy
  ·rw[Vf]at hy;obtain⟨x,hx,e⟩:=P9 hy;refine⟨x,hx,?_⟩;rw[<-e];split;·exact CF
   ·rfl
  ·exact⟨y,hy,rfl⟩
 have keep:∀(i:Nat) (x:Nd),T[i]?=some x->∃y,T'[i]?=some y/\y.tie=x.tie:=by
  intro i x hx;have hi:i<T'.length:=by rw[len];exact(P_ hx).1
  obtain⟨_,x',hx',e⟩:=old i _ (QR hi);rw[hx]at hx';cases hx';exact⟨_,QR hi,e⟩
 have up:∀i,i<T.length->Ht S T.length w.st i=S i:=λi hi=>by unfold Ht;rw[if_neg ↥0]
 have upn:Ht S T.length w.st T.length=w.st:=by unfold Ht;rw[if_pos rfl]
 refine⟨λi y hy=>?_,λv hv=>?_,λv hv=>?_⟩
 ·rw[RN,len];show Ez W (T.length+1) _ i y;by_cases c:i<T.length
  ·rw[Sr ↥0]at hy;have hy0:=hy;rw[<-hT]at hy;split at hy;case isFalse=>have o:=h.tr i y hy;exact⟨o.tie,by rw[up i c];exact o.st,by rw[up i c];exact o.may,o.yes.up c,o.no.up c⟩
   case isTrue hp=>
    rw[Vf]at hy;obtain⟨x,hx,e⟩:=P9 hy;have o:=h.tr i x hx;split at e;case isFalse=>subst e;exact⟨o.tie,by rw[up i c];exact o.st,by rw[up i c];exact o.may,o.yes.up c,o.no.up c⟩
    case isTrue hi=>
     rcases ws2 with z|⟨p,x2,z1,z2,z3⟩;·lia
     ·have:i=p:=by lia
      subst this;rw[hx]at z2;cases z2;have new:∀b,w.st=L2.nxt W (S i) x.tie b->x5 W (T.length+1) (Ht S T.length w.st) i x.tie b (T.length:Int):=λb hb=>.inr ⟨by lia,by lia,by rw[show((T.length:Int)).toNat=T.length by lia,upn,up i c];exact hb⟩;rw[<-e];rcases z3 with⟨s0,s1⟩|⟨s0,s1⟩
      ·have:pI x w.side T.length={x with yes:=T.length}:=by unfold pI;rw[if_pos s0]
       rw[this];exact⟨o.tie,by rw[up i c];exact o.st,by rw[up i c];exact o.may,new true s1,o.no.up c⟩
      ·have:pI x w.side T.length={x with no:=T.length}:=by unfold pI;rw[if_neg ↥0]
       rw[this];exact⟨o.tie,by rw[up i c];exact o.st,by rw[up i c];exact o.may,o.yes.up c,new false s1⟩
  ·rw[UQ ↥0]at hy;have:i=T.length:=by have:=(P_ hy).1;simp at this;lia
   subst this;rw[len]at hy;simp at hy;subst hy;exact⟨hk,by rw[upn];exact ws1,by rw[upn];exact hm,.inl rfl,.inl rfl⟩
 ·rcases P' hv with hv|hv
  ·obtain⟨v1,v2⟩:=h.wt v (by simp[hv]);refine⟨v1,?_⟩;rcases v2 with z|⟨p,x,z1,z2,z3⟩;·exact .inl z
   ·obtain⟨y,hy,e⟩:=keep p x z2;have hp:p<T.length:=(P_ z2).1;refine .inr ⟨p,y,z1,by rw[Sr ↥0];exact hy,?_⟩;rw[up p hp,e];exact z3
  ·have key:∀b,qb W (L2.nxt W w.st k b):=λb=>ws1.nxt b ok hk (zD hm);have at':(T'++[(⟨k,-1,-1⟩:Nd)])[T.length]?=some ⟨k,-1,-1⟩:=by rw[UQ ↥0,len];simp
   simp only[QV,Rq,or_false]at hv;rcases hv with rfl|rfl;·exact⟨key true,.inr ⟨T.length,_,rfl,at',.inl ⟨rfl,by rw[upn]⟩⟩⟩
   ·exact⟨key false,.inr ⟨T.length,_,rfl,at',.inr ⟨rfl,by rw[upn]⟩⟩⟩
 ·rcases P' hv with hv|hv;·exact h.side v (by simp[hv])
  ·simp only[QV,Rq,or_false]at hv;rcases hv with rfl|rfl;·exact .inl rfl
   ·exact .inr rfl
theorem uo.less{W:aZ}{T:List Nd}{S:Nat->Std}{w:Wt}{ws:List Wt}(h:uo W T S (w::ws)):uo W T S ws:=⟨h.tr,λv hv=>h.wt v (by simp[hv]),λv hv=>h.side v (by simp[hv])⟩
theorem Be{T:List Nd}{p:Nat}{x:Nd}{n:Int}(h:T[p]?=some x):(T.map AW).set p [.int x.tie,.int n,.int x.no]=(T.modify p (λx=>pI x 0 n)).map AW:=by
 refine Sx λi=>?_;rw[List.getElem?_set,QD,QD,Vf];by_cases c:p=i;·subst c;obtain⟨hp,e⟩:=P_ h;simp[h,hp,pI,AW,e]
 ·simp[c]
theorem Bf{T:List Nd}{p:Nat}{x:Nd}{n:Int}(h:T[p]?=some x):(T.map AW).set p [.int x.tie,.int x.yes,.int n]=(T.modify p (λx=>pI x 1 n)).map AW:=by
 refine Sx λi=>?_;rw[List.getElem?_set,QD,QD,Vf];by_cases c:p=i;·subst c;obtain⟨hp,e⟩:=P_ h;simp[h,hp,pI,AW,e]
 ·simp[c]
theorem EF{W:aZ}{a t:List Int}{k:Int}(h:k∈W.can a t):lR W k/\W.may a t k=true:=by unfold aZ.can at h;rw[Tv]at h;exact⟨Fk.mp h.1,h.2⟩
def nm(nums:List Int)(l:Int):Int:=(atI nums l).getD (-1)
structure Me (order:List Int) (n:Nat) (nums:List Int):Prop where
 len:nums.length=n+1
 top:nums[n]?=some (-1)at':∀(j:Nat) (v:Int),j<n->nums[j]?=some v->v=-1\/∃p:Nat,v=(p:Int)/\order[p]?=some (j:Int)
def gH(T:List Nd)(w:Int):Nd:=T.getD w.toNat ⟨0,0,0⟩
theorem wU{T:List Nd}{w:Int}(h0:0<=w)(h1:w<(T.length:Int)):T[w.toNat]?=some (gH T w):=by
 have:w.toNat<T.length:=by lia
 simp[gH,this]
theorem BH{T:List Nd}{w:Int}(h0:0<=w)(h1:w<(T.length:Int)):atI (T.map iA) w=some (iA (gH T w)):=by rw[jf h0 (by rw[Qz];exact h1),QD,wU h0 h1];rfl
theorem Ez.room{W:aZ}{n:Nat}{S:Nat->Std}{i:Nat}{x:Nd}(ok:W.Ok)(h:Ez W n S i x):(S i).1.length<=15:=by have h1:=(h.st.nxt true ok h.tie (zD h.may)).len;have h2:=ok.len;have:(nxt W (S i) x.tie true).1.length=(S i).1.length+1:=qe;lia
structure MD (S:Nat->Std) (n:Nat) (ss:List Std):Prop where
 len:ss.length=n
 at':∀(j:Nat) (s:Std),ss[j]?=some s->s.1.length<=(S j).1.length/\s.2.length<=2*s.1.length/\(∀k∈s.1,0<=k/\k<16)/\∀t∈s.2,0<=t/\t<12
theorem iO(s:String):RC (Rj s)=true:=by rw[Str.ofString_eq_toList];unfold RC;simp only[QN,Qz];rw[show(List.map Char.toNat s.toList).toArray.all (λa=>decide (a<1114112)) 0 s.toList.length=(List.map Char.toNat s.toList).all (λa=>decide (a<1114112)) by simp];rw[List.all_map,Rp];intro c _;show decide (c.toNat<1114112)=true;rw[decide_eq_true_eq];have:=c.valid;unfold UInt32.isValidChar Nat.isValidChar at this;show c.val.toNat<_;lia
theorem lP{a b:Str}(h1:RC a=true)(h2:RC b=true):RC (a++b)=true:=by unfold RC at*;rw[show(a++b).cps=a.cps++b.cps from rfl];simp only[Array.all_append,h1,h2,TZ]
theorem rX{sep:Str}(h:RC sep=true):∀(ts:List Str),(∀t∈ts,RC t=true)->RC (Str.join sep ts)=true|[],_=>by show RC Tb=true;simp[RC,Tb]|[x],hx=>hx x ↥1|x::y::r,hx=>lP (lP (hx x ↥1) h) (rX h (y::r) λt ht=>hx t (by simp at ht⊢;exact .inr ht))
theorem Bi{ts:List Str}(h:∀t∈ts,RC t=true):RC (tupleText ts)=true:=by unfold tupleText;exact lP (lP (iO _) (rX (iO _) ts h)) (iO _)
structure Sz (n dep:Nat) (d:Qg):Prop where
 fl:dS d=true
 sh:d.showable=true
 dp:d.depth<=dep
 ln:d.shown.length<=n
 so:RC d.shown=true
theorem Sz.mono{n m dep e:Nat}{d:Qg}(h:Sz n dep d)(h1:n<=m)(h2:dep<=e):Sz m e d:=⟨h.fl,h.sh,QP h.dp h2,QP h.ln h1,h.so⟩
theorem Sz.int{k:Int}(h0:0<=k)(h1:k<16):Sz 2 2 (.int k):=by
 have:k=0\/k=1\/k=2\/k=3\/k=4\/k=5\/k=6\/k=7\/k=8\/k=9\/k=10\/k=11\/k=12\/k=13\/k=14\/k=15:=by lia
 rcases this with rfl|rfl|rfl|rfl|rfl|rfl|rfl|rfl|rfl|rfl|rfl|rfl|rfl|rfl|rfl|rfl<;>exact⟨rfl,by decide,by simp[Ro],by decide,iO _⟩
theorem Sz.all{n dep:Nat}:∀{ds:List Qg},(∀d∈ds,Sz n dep d)->bA ds=true/\TX ds=true/\RT ds<=dep/\piled (SF ds)<=ds.length*(n+2)/\∀t∈SF ds,RC t=true
 |[],_=>⟨rfl,rfl,by simp[RT],by simp[SF,piled],by simp[SF]⟩|d::r,h=>by
  obtain⟨a1,a2,a3,a4,a5⟩:=h d ↥1;obtain⟨b1,b2,b3,b4,b5⟩:=Sz.all (ds:=r) λx hx=>h x (by simp[hx]);refine⟨?_,?_,?_,?_,?_⟩;·simp only[bA,a1,b1,TZ]
  ·simp only[TX,a2,b2,TZ]
  ·simp only[RT];lia
  ·simp only[SF,rB,Rk,Nat.succ_mul];lia
  ·intro t ht;simp only[SF,QV]at ht;rcases ht with rfl|ht;·exact a5
   ·exact b5 t ht
theorem Sz.tup{n dep m:Nat}{ds:List Qg}(h:∀d∈ds,Sz n dep d)(hl:ds.length<=m):Sz (m*(n+2)+3) (dep+2) (.tuple ds):=by obtain⟨b1,b2,b3,b4,b5⟩:=Sz.all h;refine⟨by simpa[dS]using b1,b2,by simp only[Ro];lia,?_,by simp only[PyData.shown];exact Bi b5⟩;have h2:=ui (SF ds);have:=Nat.mul_le_mul_right (n+2) hl;simp only[PyData.shown];lia
theorem Sz.ok{n dep:Nat}{d:Qg}(h:Sz n dep d)(h1:n<=16777216)(h2:dep<=60):nD d=true:=by have sl:Qv=16777216:=Rm;unfold nD;rw[h.fl,h.sh,decide_eq_true (QP h.dp h2),decide_eq_true (show d.shown.length<=Qv by rw[sl];exact QP h.ln h1)];rfl
theorem EX{e:En}{d:Qg}(h:nD d=true):g1 oX e [.d d]=some (.d (.str d.shown)):=by simp[g1,oX,h]
theorem EV{e:En}{s:Str}(h:RC s=true):eh false e (.d (.str s)) (.d (.str s))=some (.d (.bool true)):=by simp[eh,l4,Ru,RB,Ro,RU,h]
theorem qC{ns:List Int}:bA (ns.map PyData.int)=true:=by induction ns with|nil=>rfl|cons a r ih=>simp[bA,dS,ih]
theorem B7{W:aZ}:dS (ay W)=true:=by
 have:bA (W.ties.map aI)=true:=by induction W.ties with|nil=>rfl|cons a r ih=>simp[bA,dS,aI,ih]
 simp[ay,dS,bA,this,qC]
theorem EU{e:En}{xs ys:List Qg}(hl:xs.length+ys.length<=1000000):bF e (.l xs) (.l ys)=some (.l (xs++ys)):=by simp[bF,Ep,B9,gI,bL,wk,gL,zq,AX,hl]
theorem HQ{e:En}{d:Qg}{n:Int}(h0:0<=n)(h1:n<=100000):dz e (.d (.tuple [d])) (.d (.int n))=some (.d (.tuple (Qu n.toNat d))):=by
 have a:wx e (.d (.tuple [d])) (.d (.int n))=some (.d (.tuple (Qu n.toNat d))):=by simp[wx,gL,bL,h0,h1]
 have b:wq e (.d (.tuple [d])) (.d (.int n))=none:=by simp[wq,gI,bL]
 unfold dz Ep;rw[b,a];rfl
theorem nO{bs:List Bool}{k:Int}(h0:0<=k)(h1:k<(bs.length:Int)):atI (bs.map PyData.bool) k=some (.bool (bs.getD k.toNat false)):=by
 rw[jf h0 (by rw[Qz];exact h1),QD];have:k.toNat<bs.length:=by lia
 simp[this]
def dR(p:Int×Bool):Qg:=.tuple [.int p.1,.bool p.2]
def rn(T:List Nd)(ans:List Bool):Nat->Int->List (Int×Bool)|0,_=>[]|f+1,at'=>if at'<0 then[]else((gH T at').tie,ans.getD (gH T at').tie.toNat false)::rn T ans f (if ans.getD (gH T at').tie.toNat false=true then(gH T at').yes else(gH T at').no)
theorem Jg{T:List Nd}{ans:List Bool}{f:Nat}{a:Int}(h:a<0):rn T ans f a=[]:=by cases f with|zero=>rfl|succ f=>unfold rn;rw[if_pos h]
def rt(T:List Nd):Int:=if T.length=0 then-1 else 0
structure jr (W:aZ) (T:List Nd) (S:Nat->Std) (ans:List Bool) (r:List (Int×Bool)) (a:Int):Prop where
 at':a=-1\/(0<=a/\a<(T.length:Int)/\r.length<=(S a.toNat).1.length)eq:r++rn T ans (17-r.length) a=rn T ans 17 (rt T)len:r.length<=16
 inw:∀p∈r,lR W p.1
theorem jr.first{W:aZ}{T:List Nd}{S:Nat->Std}{ans:List Bool}:jr W T S ans [] (rt T):=⟨by
 unfold rt;split;·exact .inl rfl
 ·exact .inr ⟨by lia,by lia,by simp⟩,rfl,by simp,λp h=>by cases h⟩
theorem jr.step{W:aZ}(ok:W.Ok){T:List Nd}{S:Nat->Std}{ans:List Bool}{r:List (Int×Bool)}{a:Int}(hT:gU W T S)(h:jr W T S ans r a)(h0:0<=a):a<(T.length:Int)/\r.length<=15/\lR W (gH T a).tie/\jr W T S ans (r++[((gH T a).tie,ans.getD (gH T a).tie.toNat false)]) (if ans.getD (gH T a).tie.toNat false=true then(gH T a).yes else(gH T a).no):=by
 rcases h.at' with z|⟨z1,z2,z3⟩;·lia
 have o:=hT _ _ (wU z1 z2);have rm:=o.room ok;refine⟨z2,by lia,o.tie,?_,?_,by simp;lia,λp hp=>?_⟩
 ·have key:∀b l,x5 W T.length S a.toNat (gH T a).tie b l->l=-1\/(0<=l/\l<(T.length:Int)/\(r++[((gH T a).tie,ans.getD (gH T a).tie.toNat false)]).length<=(S l.toNat).1.length):=by
   intro b l hl;rcases hl with hl|⟨h1,h2,h3⟩;·exact .inl hl
   ·refine .inr ⟨h1,h2,?_⟩;rw[h3];have:(nxt W (S a.toNat) (gH T a).tie b).1.length=(S a.toNat).1.length+1:=qe;rw[this];simp;lia
  split;·exact key _ _ o.yes
  ·exact key _ _ o.no
 ·have e:=h.eq;rw[show 17-r.length=(17-(r.length+1))+1 by lia]at e;unfold rn at e;rw[if_neg ↥0]at e;rw[SQ,RN];exact e
 ·rcases P' hp with hp|hp;·exact h.inw p hp
  ·simp at hp;rw[hp];exact o.tie
theorem jr.done{W:aZ}{T:List Nd}{S:Nat->Std}{ans:List Bool}{r:List (Int×Bool)}{a:Int}(h:jr W T S ans r a)(h0:a<0):r=rn T ans 17 (rt T):=by have e:=h.eq;rw[Jg h0,RF]at e;exact e
theorem Sz.bool{b:Bool}:Sz 5 2 (.bool b):=by
 cases b;·exact⟨rfl,rfl,by simp[Ro],by show(Rj "False").length<=5;decide,iO _⟩
 ·exact⟨rfl,rfl,by simp[Ro],by show(Rj "True").length<=5;decide,iO _⟩
theorem Sz.run{W:aZ}(ok:W.Ok){r:List (Int×Bool)}(hl:r.length<=16)(h:∀p∈r,lR W p.1):Sz 1000 6 (.tuple (r.map dR)):=by
 refine(Sz.tup (n:=17) (dep:=4) (m:=16) (λd hd=>?_) (by rw[Qz];exact hl)).mono ⋯ ⋯;obtain⟨p,hp,rfl⟩:=Qa hd;refine Sz.tup (n:=5) (dep:=2) (m:=2) (λd hd=>?_) ↥1;simp only[QV,Rq,or_false]at hd;have w:=h p hp;have:=w.1;have:=w.2;have:=ok.len;rcases hd with rfl|rfl;·exact(Sz.int ↥0 ↥0).mono ⋯ ⋯
 ·exact Sz.bool
abbrev Fr:=Int×Int
def dF(f:Fr):Qg:=.tuple [.int f.1,.int f.2]
def tm(a b:Fr):Fr:=lowM (a.1*b.1) (a.2*b.2)
def pl(a b:Fr):Fr:=lowM (a.1*b.2+b.1*a.2) (a.2*b.2)
theorem lG{t b:Int}(hb:0<b)(ht:0<=t):∃d:Int,0<d/\(lowM t b).1*d=t/\(lowM t b).2*d=b/\0<(lowM t b).2/\0<=(lowM t b).1:=by
 obtain⟨d,h1,h2,h3,h4,h5⟩:=jB (t:=t) (b:=b) ↥0;have d0:0<d:=by
  rcases Int.lt_trichotomy d 0 with z|z|z;·have:=Int.mul_neg_of_pos_of_neg h5 z;lia
  ·exact absurd z h2
  ·exact z
 refine⟨d,d0,h3,h4,h5,?_⟩;rcases Int.lt_or_le (lowM t b).1 0 with z|z;·have:=Int.mul_neg_of_neg_of_pos z d0;lia
 ·exact z
theorem uY{t b i:Int}(hb:0<b)(ht:0<=t)(h:t<=i*b):(lowM t b).1<=i*(lowM t b).2:=by obtain⟨d,d0,h3,h4,h5,h6⟩:=lG hb ht;refine Int.le_of_mul_le_mul_right (a:=d) ?_ d0;rw[h3,QX,h4];exact h
theorem wL{t b:Int}(hb:0<b)(ht:0<=t):(lowM t b).2∣b:=by obtain⟨d,d0,h3,h4,h5,h6⟩:=lG hb ht;exact⟨d,h4.symm⟩
theorem CH{t b M u:Int}(hb:0<b)(ht:0<=t)(h:t*M=b*u):(lowM t b).2∣M:=by
 have g:=qR (t:=t) (b:=b) ↥0;obtain⟨d,d0,h3,h4,h5,h6⟩:=lG hb ht;generalize (lowM t b).1=p at*;generalize (lowM t b).2=q at*;have e:p*M=q*u:=by refine Vg (a:=d) ↥0 ?_;rw[show p*M*d=(p*d)*M by rw[QX,RI M d,<-QX],h3,h,<-h4,QX,RI d u,<-QX]
 have dv:q.natAbs∣(p*M).natAbs:=Vh.mpr ⟨u,e⟩;rw[UV]at dv;have cp:Ue q.natAbs p.natAbs:=by have:Nat.gcd p.natAbs q.natAbs=1:=g;rw[Ue,Nat.gcd_comm];exact this
 exact Vh.mp (cp.dvd_of_dvd_mul_left dv)
structure xY (M:Int) (f:Fr):Prop where
 pos:0<f.2
 lo:0<=f.1
 hi:f.1<=f.2
 dv:f.2∣M
theorem xY.tm{M N:Int}{a b:Fr}(h:xY M a)(k:xY N b):xY (M*N) (tm a b):=by have p:0<a.2*b.2:=Rx h.pos k.pos;have t:0<=a.1*b.1:=Vi h.lo k.lo;obtain⟨d,d0,h3,h4,h5,h6⟩:=lG p t;refine⟨h5,h6,?_,Int.dvd_trans (wL p t) (Int.mul_dvd_mul h.dv k.dv)⟩;have:=uY (i:=1) p t (by rw[Int.one_mul];exact Int.mul_le_mul h.hi k.hi k.lo (Ug h.pos));rw[Int.one_mul]at this;exact this
structure sv (M i:Int) (f:Fr):Prop where
 pos:0<f.2
 lo:0<=f.1
 hi:f.1<=i*f.2
 dv:f.2∣M
theorem xY.bt{M:Int}{f:Fr}{n:Nat}(h:xY M f)(hM:Bt n M)(h0:0<M):Bt n f.1/\Bt n f.2:=by have l:=Int.le_of_dvd h0 h.dv;have:=h.pos;have:=h.lo;have:=h.hi;exact⟨hM.of_le ↥0,hM.of_le ↥0⟩
theorem sv.bt{M i:Int}{f:Fr}{n m:Nat}(h:sv M i f)(hM:Bt n M)(h0:0<M)(hi:Bt m i):Bt (m+n) f.1/\Bt n f.2:=by have l:=Int.le_of_dvd h0 h.dv;have p:=h.pos;have q:=h.lo;have r:=h.hi;have b2:Bt n f.2:=hM.of_le ↥0;exact⟨(hi.mul b2).of_le ↥0,b2⟩
def bp(W:aZ):List Int->Int|[]=>1|k::r=>(W.tie k).bot*bp W r
def JS(W:aZ):Int:=bp W W.rng
def ch(W:aZ)(k:Int)(b:Bool):Fr:=if b then((W.tie k).top,(W.tie k).bot) else((W.tie k).bot-(W.tie k).top,(W.tie k).bot)
theorem CJ{t b:Int}(hb:0<b)(hg:Qy t b=1):lowM (b-t) b=(b-t,b):=by
 have g:Qy (b-t) b=1:=by rw[show b-t=-(t-b) by lia,Int.neg_gcd,Int.gcd_sub_self_left,hg]
 unfold lowM;rw[if_neg ↥0,g];simp
structure MC (W:aZ) (S:Nat->Std) (n:Nat) (rs:List Fr):Prop where
 len:rs.length=n
 at':∀(j:Nat) (f:Fr),rs[j]?=some f->xY (bp W (S j).1) f
structure My (W:aZ) (i:Nat) (ss:List Fr):Prop where
 len:ss.length=W.ties.length
 at':∀(j:Nat) (f:Fr),ss[j]?=some f->sv (JS W) (i:Int) f
theorem Sz.intB{n:Nat}{k:Int}(h:Bt n k)(h0:0<n)(hn:n<=1900):Sz (n+1) 2 (.int k):=by
 have l:=h.log h0;refine⟨rfl,?_,by simp[Ro],?_,iO _⟩;·show decide (k.natAbs.log2<1920)=true;rw[decide_eq_true_eq];lia
 ·have:=int_text_length_le h0 l;show(Rj (toString k)).length<=n+1;rw[PySem.ofString_length];exact this
theorem Sz.fr{n:Nat}{f:Fr}(h1:Bt n f.1)(h2:Bt n f.2)(h0:0<n)(hn:n<=1900):Sz (2*(n+3)+3) 4 (dF f):=Sz.tup (n:=n+1) (dep:=2) (m:=2) (λd hd=>by
 simp only[QV,Rq,or_false]at hd;rcases hd with rfl|rfl;·exact Sz.intB h1 h0 hn
 ·exact Sz.intB h2 h0 hn) ↥1
def JC(sc:Qx)(x:Str):Bool:=match sc.names.lookup x with|some .local=>true|some .cell=>true|some .free=>true|_=>false
theorem GU{sc:Qx}{x:Str}(h:JC sc x=true):Bw sc x:=by
 unfold JC at h;unfold Bw;split at h;·rename_i e;exact .inl e
 ·rename_i e;exact .inr (.inl e)
 ·rename_i e;exact .inr (.inr e)
 ·cases h
section
variable{X:Cx}{K:⇑0}
theorem qw(i:Nat){x:Str}{pos:Pos}(hN:X.N[i]?=some x)(hv:JC X.env.scope x=true)(hd:((x==("__debug__":Str))||(x==("__classdict__":Str)))=false):PE X (.Name x pos) (fE K (af i)):=qv i hN (GU hv) (Bool.or_eq_false_iff.mp hd).1 (Bool.or_eq_false_iff.mp hd).2
end
section
variable{X:Cx}{tg a b c:Qh}{ta:TA}{p pos p2 pos2:Pos}
end
section
variable{K:⇑0}{σ:L2.St}
end
section
variable{X:Cx}{K:⇑0}{tg a b c:Qh}{fs:FA}{pos p p2 pos2:Pos}
theorem Bc{σ:L2.St}{H0 F H:Hp}{e:En}{x y z:Rv}{vs:List V}(h:cz K σ H0 F H e [x,y,z] vs):∃v u w,vs=[v,u,w]/\cw K σ H0 F H e x v/\cw K σ H0 F H e y u/\cw K σ H0 F H e z w:=by obtain⟨v,ws,rfl,h1,h2⟩:=h;obtain⟨u,w,rfl,h3,h4⟩:=ni h2;exact⟨v,u,w,rfl,h1,h3,h4⟩
end
section
variable(P:Qn)(w:Qk)
end
section
variable{P:Qn}{w:Qk}{H H':Hp}{h h':Qm}{a:Qe}{o:HO}
end
section
variable{P:Qn}{w:Qk}{H:Hp}{h h':Qm}{x e:Qe}{o':HO}
end
section
variable{fs fs' ex ex':List Qe}{H H1 H2:Hp}{h h1 h2 h':Qm}{a x e:Qe}{o:HO}
end
section
variable{X:Cx}{pins:List (Qe×Obj)}{σ:List (Option V)}{H H':Hp}{s:Qf}{h':Qm}
end
section
variable{X:Cx}
variable{a b:Qh}{ta tb:TE}{pos:Pos}
variable{tA tB':TT}{ic:List Qh}
end
section
variable{X:Cx}{pins:List (Qe×Obj)}{σ:St}{H:Hp}{s:Qf}{a:Qe}{xs ys:List V}
end
section
variable{X:Cx}{pins:List (Qe×Obj)}{σ:St}{H:Hp}{s:Qf}{E:Qd->Qf->Prop}
end
section
variable{X:Cx}{st:Qo}{ic:List Qo}{t u:TS}{e:Qh}{te:TE}{pos:Pos}
end
section
variable{X:Cx}{pos:Pos}
end
section
variable{X:Cx}{pos:Pos}
end
section
variable{X:Cx}{tg:Qh}
end
section
variable{X:Cx}{a b c:Qh}{ta tb tc:TE}{pos:Pos}
end
section
variable{X:Cx}{a b c:Qh}{ta tb tc:TE}{pos:Pos}
end
section
variable{prog:Qn}{w:Qk}{A:Qr}{E:Qd->Qf->Prop}{s:Qf}{K:⇑0}{x dx C f:Qe}{mA:Str->Option Qd}{name:Str}{v:Qd}
end
section
variable{P:Qn}{w:Qk}{H H':Hp}{h h':Qm}{a C dx:Qe}{fs fs':List (Str×V)}
end
section
variable{X:Cx}{pins:List (Qe×Obj)}{σ:St}{H:Hp}{s:Qf}{a C dx:Qe}{fs:List (Str×V)}{f:Str}{v:V}{A:Qr}{E:Qd->Qf->Prop}
end
section
variable{X:Cx}{o e value:Qh}{f:Str}{pos pos' tpos:Pos}{ta tv:TE}
end
section
variable{X:Cx}{pins:List (Qe×Obj)}{σ:St}{H:Hp}{s:Qf}{A:Qr}{E:Qd->Qf->Prop}{Q:Qd->Qf->Prop}{c:Qd}{b:Bool}
end
section
variable{X:Cx}{e:Qh}{es:List Qh}{te:TE}{t:TA}{pos:Pos}
end
section
variable{X:Cx}{pins:List (Qe×Obj)}{σ:St}{H:Hp}{s s':Qf}
end
section
variable{X:Cx}{CX:sr}{k:Nat}{f C:Qe}{fd:QJ}{ps:List Str}{sp:Sp}{dvs:List V}{ds:List Qd}{E:XK}{x m:Str}{p pos apos:Pos}{e o:Qh}{es:List Qh}{ta:TE}{t:TA}
end
section
variable{X:Cx}{CX:sr}{k:Nat}{f C:Qe}{fd:QJ}{ps ks:List Str}{sp:Sp}{E:XK}{x m:Str}{p pos apos kpos:Pos}{e o:Qh}{es:List Qh}{kws:List RG}{te ta:TE}{t tk:TA}{nm:Option Str}
variable{g:List Qd->List Qd->List Qd}{gV:List V->List V->List V}
end
section
variable{X:Cx}{x:Str}{p pos:Pos}{e:Qh}{es:List Qh}{t:TA}{id T:String}{r:List V->Hp->VK->Prop}
end
section
variable{κ:Type}[DecidableEq κ]
def r_(kvs:List (κ×V))(k:κ):Option V:=(kvs.find? λkv=>decide (kv.1=k)).map (·.2)
def vk(kvs:List (κ×V))(k:κ)(v:V):List (κ×V):=if (kvs.any λkv=>decide (kv.1=k))=true then kvs.map (λkv=>if kv.1=k then(kv.1,v) else kv) else kvs++[(k,v)]
theorem se{p:κ×V}{r:List (κ×V)}{k:κ}(e:p.1=k):r_ (p::r) k=some p.2:=by simp[r_,SW,e]
theorem sd{p:κ×V}{r:List (κ×V)}{k:κ}(e:¬p.1=k):r_ (p::r) k=r_ r k:=by simp[r_,SW,e]
theorem wK(kvs:List (κ×V))(k:κ)(v:V):(vk kvs k v).length<=kvs.length+1:=by
 unfold vk;split;·rw[Qz];lia
 ·rw[RN,Rk,List.length_nil];lia
theorem KV.val{kvs:List (κ×V)}{vs:List (κ×Qd)}(r:KV kvs vs)(k:κ):vL (r_ kvs k) (valueAt vs k):=by unfold KV at r;induction r with|nil=>exact True.intro|@cons p q ps qs h t ih=>
 obtain⟨h1,h2⟩:=h;by_cases e:p.1=k
 ·have e':q.1=k:=h1.symm.trans e;have b:valueAt (q::qs) k=some q.2:=by simp[valueAt,SW,e']
  rw[se e,b];exact h2
 ·have e':¬q.1=k:=λz=>e (h1.trans z);have b:valueAt (q::qs) k=valueAt qs k:=by simp[valueAt,SW,e']
  rw[sd e,b];exact ih
theorem KV.any{kvs:List (κ×V)}{vs:List (κ×Qd)}(r:KV kvs vs)(k:κ):(kvs.any λkv=>decide (kv.1=k))=vs.any λkv=>decide (kv.1=k):=by unfold KV at r;induction r with|nil=>rfl|cons h t ih=>rw[List.any_cons,List.any_cons,ih,h.1]
theorem KV.repl{kvs:List (κ×V)}{vs:List (κ×Qd)}(r:KV kvs vs)(k:κ){y:V}{u:Qd}(ry:bC y u):KV (kvs.map λkv=>if kv.1=k then(kv.1,y) else kv) (vs.map λkv=>if kv.1=k then(kv.1,u) else kv):=by unfold KV at r⊢;induction r with|nil=>exact .nil|@cons p q ps qs h t ih=>
 rw[QB,QB];refine .cons ?_ ih;obtain⟨h1,h2⟩:=h;by_cases e:p.1=k;·rw[if_pos e,if_pos (h1.symm.trans e)];exact⟨h1,ry⟩
 ·rw[if_neg e,if_neg (λz=>e (h1.trans z))];exact⟨h1,h2⟩
theorem KV.put{kvs:List (κ×V)}{vs:List (κ×Qd)}(r:KV kvs vs)(k:κ){y:V}{u:Qd}(ry:bC y u):KV (vk kvs k y) (stored vs k u):=by
 unfold vk stored;rw[r.any k];by_cases e:(vs.any λkv=>decide (kv.1=k))=true;·rw[if_pos e,if_pos e];exact r.repl k ry
 ·rw[if_neg e,if_neg e];exact Paired.snoc r ⟨rfl,ry⟩
theorem KV.length{kvs:List (κ×V)}{vs:List (κ×Qd)}(r:KV kvs vs):kvs.length=vs.length:=Paired.length r
end
theorem Cp{P:Qn}{w:Qk}{k:gS}{u:Qd}(r:bC (kV k) u):(dO P w).is k u=true:=by cases k with|inl i=>obtain⟨t,e⟩:=(show∃t,u=Value.int i t from r);subst e;exact wO P w i t|inr x=>obtain⟨t,e⟩:=(show∃t,u=Value.str x t from r);subst e;exact wQ P w x t
theorem tQ{P:Qn}{w:Qk}:∀{ks:List gS}{us:List Qd},a' (ks.map kV) us->ItemsAre (dO P w) ks us|[],_,r=>by rw[Rw]at r;cases r;exact .nil|k::ks,_,r=>by rw[QB]at r;cases r with|cons h t=>exact .cons (Cp h) (tQ t)
abbrev KT(H:Hp):List (List gS×V)->List (List gS×Qe×Qd)->Prop:=Paired λp q=>p.1=q.1/\H q.2.1=some (.tup (p.1.map kV))/\bC p.2 q.2.2
theorem KT.val{H:Hp}{kvs:List (List gS×V)}{xs:List (List gS×Qe×Qd)}(r:KT H kvs xs)(k:List gS):vL (r_ kvs k) ((atKey xs k).map (·.2)):=by induction r with|nil=>exact True.intro|@cons p q ps qs h t ih=>
 obtain⟨h1,_,h2⟩:=h;by_cases e:p.1=k
 ·have e':q.1=k:=h1.symm.trans e;have b:atKey (q::qs) k=some q.2:=by simp[atKey,SW,e']
  rw[se e,b];exact h2
 ·have e':¬q.1=k:=λz=>e (h1.trans z);have b:atKey (q::qs) k=atKey qs k:=by simp[atKey,SW,e']
  rw[sd e,b];exact ih
section
variable{P:Qn}{w:Qk}{H:Hp}{h:Qm}{a:Qe}
theorem Hn{u:HO}(ok:mC P w H h)(e:Rd H a u):dg P w H h a u:=e.ok ok
theorem B3{kvs:List (gS×V)}(ok:mC P w H h)(e:Rd H a (.dK kvs)):kvs.length<=Qv/\(a==SB)=false/\∃vs,KV kvs vs/\h.DictOf (dO P w) a vs:=show dg P w H h a (.dK kvs) from Hn ok e
theorem JU{kvs:List (gS×V)}(ok:mC P w H h)(e:H a=some (.dK kvs)):kvs.length<=Qv/\(a==SB)=false/\∃vs,KV kvs vs/\h.DictOf (dO P w) a vs:=B3 ok (.inl e)
theorem Cq{ks:List gS}(ok:mC P w H h)(e:H a=some (.tup (ks.map kV))):(tupleKind (dO P w)).is h ks a:=by obtain⟨_,its,r,o,h1,h2,n,h3,_⟩:=(show dg P w H h a (.tup (ks.map kV)) from ok a _ e);exact⟨o,its.toArray,n,h1,h2,h3,by simpa using tQ r⟩
theorem G9{kvs:List (List gS×V)}(ok:mC P w H h)(e:Rd H a (.dT kvs)):kvs.length<=Qv/\(a==SB)=false/\∃xs,KT H kvs xs/\h.DictOfH (tupleKind (dO P w)) a xs:=by
 obtain⟨z,y,xs,r,o,es,ep,h1,h2,h3,h4,h5⟩:=(show dg P w H h a (.dT kvs) from Hn ok e);refine⟨z,y,xs,r,o,es,ep,h1,h2,h3,h4,λx hx=>?_,h5⟩;have all:∀{l:List (List gS×V)}{m:List (List gS×Qe×Qd)},KT H l m->∀x∈m,(tupleKind (dO P w)).is h x.1 x.2.1:=by intro l m q;induction q with|nil=>intro x hx;exact nomatch hx|@cons p q ps qs hq t ih=>
  intro x hx;rcases Qb hx with e|hx;·subst e;exact Cq ok (by rw[<-hq.1];exact hq.2.1)
  ·exact ih x hx
 exact all r x hx
end
def x4(H:Hp)(a:Qe)(y:V)(r:Option V):Prop:=(∃kvs k,Rd H a (.dK kvs)/\y=kV k/\r=r_ kvs k)\/∃kvs k b,Rd H a (.dT kvs)/\y=.ref b/\H b=some (.tup (k.map kV))/\r=r_ kvs k
theorem x4.k{H:Hp}{a:Qe}{kvs:List (gS×V)}{k:gS}(e:H a=some (.dK kvs)):x4 H a (kV k) (r_ kvs k):=.inl ⟨kvs,k,.inl e,rfl,rfl⟩
section
variable{X:Cx}{pins:List (Qe×Obj)}{σ:St}{H:Hp}{s:Qf}{a:Qe}{y v:V}{u r:Qd}{o:Option V}{A:Qr}{E:Qd->Qf->Prop}
theorem aJ.big(I:aJ X pins σ H s):SB<↑s:=by have h:QS<↑s:=(I.mod.glob.keeps I.bk).lt;exact Uw ⋯ h
theorem AD{Q:Qd->Qf->Prop}(hu:A.units+1<cLine)(I:aJ X pins σ H s)(g:x4 H a y (some v))(ry:bC y u)(h:∀w' s',aJ X pins σ H s'->bC v w'->Q w' s'):Qj (Ql X.prog X.w) A (SN (.ref a) u) Q E s:=by
 rcases g with⟨kvs,k,e,ey,l⟩|⟨kvs,k,b,e,ey,eb,l⟩;·subst ey;obtain⟨z,hd,vs,rel,dd⟩:=B3 I.hok e;obtain⟨w',hw,rw'⟩:=vL.some_of (v:=v) (o:=valueAt vs k) (by rw[l];exact rel.val k);exact wpAny_getItem_of (Cp ry) dd.mapOf hw (h w' _ (I.tok _) rw')
 ·subst ey;cases (show u=Value.ref b from ry);obtain⟨z,hd,xs,rel,dd⟩:=G9 I.hok e;obtain⟨w',hw,rw'⟩:=vL.some_of (v:=v) (o:=(atKey xs k).map (·.2)) (by rw[l];exact rel.val k);obtain⟨p,hp,hp2⟩:=P9 hw;refine wpAny_getItem_heap (tupleKind_room_in1 hu) (Cq I.hok eb) dd hp ?_;rw[hp2];exact h w' _ (I.tok _) rw'
theorem EJ{h':Qm}{t':Nat}{ob:HO}(I:aJ X pins σ H s)(mu:JK (H a))(hs:SZ a s.heap h')(he:∃q,h'.get? a=some q)(new:dg X.prog X.w (bz H a ob) h' a ob):aJ X pins σ (bz H a ob) {s with heap:=h',toks:=t'}:=I.write (x:=a) (e:=a) mu (.inl rfl) (λb q hb z=>(hs.2 b hb).trans z) he new
theorem HL{P:Qn}{w:Qk}{H':Hp}{h':Qm}{kvs:List (gS×V)}{vs:List (gS×Qd)}(z:kvs.length<=Qv)(hd:(a==SB)=false)(rel:KV kvs vs)(dd:h'.DictOf (dO P w) a vs):dg P w H' h' a (.dK kvs):=⟨z,hd,vs,rel,dd⟩
end
section
variable{X:Cx}{pins:List (Qe×Obj)}{σ:St}{H:Hp}{s:Qf}{a:Qe}{kvs:List (gS×V)}{k:gS}{u:Qd}{A:Qr}{E:Qd->Qf->Prop}
end
def HA(i:Qh):Prop:=∀ov iv,subscripted i false ov iv=operate [ov,iv] (SN ov iv)
theorem GB{prog:Qn}{w:Qk}{A:Qr}{E:Qd->Qf->Prop}{s:Qf}{env:Env}{value slice:Qh}{pos:Pos}{T id:String}{Q:Qd->Qf->Prop}(hl:typeLookup (.type T) "__getitem__"=pure (some (.builtin id)))(hs:HA slice)(h:Qj (Ql prog w) A (Qs value env) (λo s₁=>Qj (Ql prog w) A (Qs slice env) (λi s₂=>s₂.TypeIs o T/\Qj (Ql prog w) A (SN o i) Q E s₂) E s₁) E s):Qj (Ql prog w) A (Qs (.Subscript value slice pos) env) Q E s:=by
 refine Subscript_ (Qw h (λo s₁ h₁=>Qw h₁ (λi s₂ h₂=>?_) λ_ _ x=>x) λ_ _ x=>x);obtain⟨hT,h₂⟩:=h₂;unfold subscriptTail;refine Qi ?_;rw[getitemInPython_of_ne hT.not_modules];refine Qi (wpAny_specialOf hT hl ?_);have fin:Qj (Ql prog w) A (subscripted slice false o i) (λr s₃=>Qj (Ql prog w) A (letTemporaryGo value o r>>=λ_=>pure r) Q E s₃) E s₂:=by rw[hs o i];exact wpAny_operating (Qw h₂ (λr s₃ h₃=>Qi (wpAny_letTemporaryGo (Qp h₃))) λ_ _ x=>x)
 first|exact Qp (Qi fin)|exact Qi (Qp (Qi fin))|exact Qi fin
theorem wb{X:Cx}{pins:List (Qe×Obj)}{σ:St}{H:Hp}{s:Qf}{a:Qe}{y:V}{o:Option V}(I:aJ X pins σ H s)(g:x4 H a y o):s.TypeIs (.ref a) "dict":=by
 rcases g with⟨kvs,k,e,_,_⟩|⟨kvs,k,b,e,_,_,_⟩;·obtain⟨_,_,vs,_,dd⟩:=B3 I.hok e;exact dd.typeIs
 ·obtain⟨_,_,xs,_,dd⟩:=G9 I.hok e;exact dd.typeIs
def KS(td ty:TE):TE:=λσ H Q=>td σ H λx H1=>ty σ H1 λy H2=>∃a v,x=.ref a/\x4 H2 a y (some v)/\Q v H2
section
variable{X:Cx}{o i e value:Qh}{pos pos' tpos:Pos}{td ty tv:TE}
theorem FR(hu:X.A.units+1<cLine)(ho:PE X o td)(hi:PE X i ty)(hs:HA i):PE X (.Subscript o i pos) (KS td ty):=by intro pins s σ H Q I h;refine GB PySem.F.slot_dict_getitem.lookup hs (cj (ho pins s σ H _ I h) λu s1⟨x,H1,I1,rx,q1⟩=>cj (hi pins s1 σ H1 _ I1 q1) λiv s2⟨y,H2,I2,ry,a,v,ex,g,q2⟩=>?_);subst ex;obtain rfl:u=Value.ref a:=rx;exact⟨wb I2 g,AD hu I2 g ry λw' s3 I3 rw'=>⟨v,H2,I3,rw',q2⟩⟩
end
theorem B2{P:Qn}{w:Qk}{H:Hp}(h:Qm)(hb:SB<h.objs.size):dg P w H (h.push {cls:=.type "dict",data:=.dict #[]}) h.objs.size (.dK []):=⟨Ss _,beq_eq_false_iff_ne.mpr (QK (Rg hb)),[],.nil,Heap.DictOf.new h⟩
section
variable{X:Cx}{pos:Pos}
end
section
variable{X:Cx}{pins:List (Qe×Obj)}{σ:St}{H:Hp}{s:Qf}{a:Qe}{y d:V}{u r:Qd}{o:Option V}{A:Qr}{E:Qd->Qf->Prop}
end
section
variable{X:Cx}{o e f:Qh}{apos cpos:Pos}{td ty tx:TE}
end
section
variable{X:Cx}{pins:List (Qe×Obj)}{σ:St}{H:Hp}{s:Qf}{a:Qe}{kvs:List (gS×V)}{A:Qr}{E:Qd->Qf->Prop}
end
section
variable{X:Cx}{pins:List (Qe×Obj)}{σ:St}{H:Hp}{s:Qf}{a:Qe}{y:V}{u:Qd}{A:Qr}{E:Qd->Qf->Prop}
end
end L2
namespace Att
open PySem PySem.W PySem.Calls PyProof.Rows
section
variable{prog:Qn}{w:Qk}{A:Qr}{E:Qd->Qf->Prop}{s:Qf}{K:Frag}
end
end Att
namespace L2
open PySem PySem.Spec PyProof.Rows
section
variable{P:Qn}{w:Qk}{K:⇑0}{mg:Str->Option Qd}{base:Qm}
end
section
variable{X:Cx}
end
section
variable{κ:Type}[DecidableEq κ]
end
section
variable{X:Cx}{K:⇑0}{a:Qh}{fa:FE}{pos p p2:Pos}
theorem C_{x:Str}{T:String}(hg:Gl X x)(hm:X.mg x=none)(hv:Sb x=some (.type T))(hn:x≠"__name__")(hd:(x==("__debug__":Str))=false):PE X (.Name x pos) (tC (.ty T)):=λpins s σ H Q I h=>nX I hg hm hv ⟨.ty T,H,I,rfl,h⟩ hn hd
end
section
variable{X:Cx}{K:⇑0}
def Ho:FS:=λ_=>none
theorem Gh{st:Qo}:PS X st (fS K Ho []):=λpins s σ H D I h=>by obtain⟨F,e,fl,R,hf,_⟩:=h;cases hf
end
section
variable{X:Cx}{K:⇑0}{σ:L2.St}{F H:Hp}{e:En}{pos p1 p2:Pos}
end
section
variable{X:Cx}{K:⇑0}{a b c d:Qh}{ta tb tc td:TE}{fa fb fc fd:FE}{pos:Pos}
end
section
variable{X:Cx}{K:⇑0}{a b:Qh}{es:List Qh}{fa fb:FE}{fs:FA}{pos p apos:Pos}
def uj:Rv->Option Str|.d (.str x)=>some x|_=>none
theorem r6{σ:L2.St}{H0 F H:Hp}{e:En}{r:Rv}{v:V}{x:Str}(h:cw K σ H0 F H e r v)(q:uj r=some x):v=.str x:=by
 unfold uj at q;split at q;·cases q;exact uI.mp (show DA K F (.str _) v from h)
 ·cases q
theorem DN{σ:L2.St}{H0 F H:Hp}{e:En}{x:Str}:cw K σ H0 F H e (.d (.str x)) (.str x):=(show DA K F (.str x) (.str x) from uI.mpr rfl)
def uO:En->Rv->Option Rv:=λ_ x=>(bL x).bind λi=>if i.natAbs.log2<1900 then some (.d (.str (toString i:String))) else none
def LW:V->Hp->VK->Prop:=λv H Q=>∃i:Int,v=.int i/\i.natAbs.log2<1900/\Q (.str (toString i:String)) H
theorem JY:JN K LW uO:=by
 intro σ H0 F H e x z v Q R A hg q;unfold uO at hg;obtain⟨i,h1,hg⟩:=P8 hg;split at hg;case isFalse=>cases hg
 case isTrue hi=>cases hg;exact⟨i,bS A h1,hi,q F H _ (fm.refl _ _ _ _) R DN⟩
theorem Hi(ha:PE X a (fE K fa)):PE X (.FormattedValue a (-1) none pos) (fE K (um uO fa)):=λpins s σ H Q I h=>by have h1:=Eg JY h;refine FormattedValue_plain (cj (ha pins s σ H _ I h1) λv s1⟨x,H1,I1,r1,i,e,hi,q1⟩=>?_);subst e;obtain⟨t,rfl⟩:=r1;exact formatField_int_small ↥0 ⟨.str _,H1,I1.tok _,⟨_,rfl⟩,q1⟩
def Li(fa fb fc:FE):FE:=λe=>(fa e).bind λp=>(uj p.1).bind λx=>(fb p.2).bind λq=>(uj q.1).bind λy=>(fc q.2).bind λr=>(uj r.1).bind λz=>if x.length+y.length+z.length<=1000000 then some (.d (.str (Tb++x++y++z)),r.2) else none
theorem qO(x y:Str):(x++y).length=x.length+y.length:=strLen_append x y
theorem LU{c:Qh}{fc:FE}(ha:PE X a (fE K fa))(hb:PE X b (fE K fb))(hc:PE X c (fE K fc)):PE X (.JoinedStr [a,b,c] pos) (fE K (Li fa fb fc)):=λpins s σ H Q I h=>by
 obtain⟨F,e,r,e',R,hf,q⟩:=h;unfold Li at hf;obtain⟨⟨r1,e1⟩,g1,hf⟩:=P8 hf;obtain⟨x,g2,hf⟩:=P8 hf;obtain⟨⟨r2,e2⟩,g3,hf⟩:=P8 hf;obtain⟨y,g4,hf⟩:=P8 hf;obtain⟨⟨r3,e3⟩,g5,hf⟩:=P8 hf;obtain⟨z,g6,hf⟩:=P8 hf;split at hf;case isFalse=>cases hf
 case isTrue hl=>
 cases hf;have e0:(Tb).length=0:=rfl;have l1:(Tb++x).length=x.length:=by rw[qO,e0];lia
 have l2:(Tb++x++y).length=x.length+y.length:=by rw[qO,l1]
 have l3:(Tb++x++y++z).length=x.length+y.length+z.length:=by rw[qO,l2]
 refine JoinedStr_many (joinParts_cons (cj (ha pins s σ H (λv H1=>v=.str x/\∃F1,fm σ F H e F1 H1 e1/\bc K F1 H1 σ e1) I ⟨F,e,r1,e1,R,g1,λF1 H1 v X1 R1 A1=>⟨r6 A1 g2,F1,X1,R1⟩⟩) λv s1⟨xv,H1,I1,rv1,ex,F1,X1,R1⟩=>?_));subst ex;obtain⟨t1,rfl⟩:=rv1;refine⟨by rw[l1,Rm];lia,joinParts_cons (cj (hb pins s1 σ H1 (λv H2=>v=.str y/\∃F2,fm σ F1 H1 e1 F2 H2 e2/\bc K F2 H2 σ e2) I1 ⟨F1,e1,r2,e2,R1,g3,λF2 H2 v X2 R2 A2=>⟨r6 A2 g4,F2,X2,R2⟩⟩) λv s2⟨yv,H2,I2,rv2,ey,F2,X2,R2⟩=>?_)⟩;subst ey;obtain⟨t2,rfl⟩:=rv2;refine⟨by rw[l2,Rm];lia,joinParts_cons (cj (hc pins s2 σ H2 (λv H3=>v=.str z/\∃F3,fm σ F2 H2 e2 F3 H3 e3/\bc K F3 H3 σ e3) I2 ⟨F2,e2,r3,e3,R2,g5,λF3 H3 v X3 R3 A3=>⟨r6 A3 g6,F3,X3,R3⟩⟩) λv s3⟨zv,H3,I3,rv3,ez,F3,X3,R3⟩=>?_)⟩;subst ez;obtain⟨t3,rfl⟩:=rv3;refine⟨by rw[l3,Rm];lia,joinParts_nil ⟨.str _,H3,I3.tok _,⟨_,rfl⟩,q F3 H3 _ ((X1.trans X2).trans X3) R3 DN⟩ (by rw[l3,Rm];lia)⟩
end
section
variable{X:Cx}{K:⇑0}{a b:Qh}{fa fb:FE}{fs:FA}{pos p p2 p3:Pos}
end
theorem xY.tmS{N M i:Int}{c y:Fr}(hc:xY N c)(hy:sv M i y):sv (N*M) i (L2.tm c y):=by have p:0<c.2*y.2:=Rx hc.pos hy.pos;have t:0<=c.1*y.1:=Vi hc.lo hy.lo;obtain⟨d,d0,h3,h4,h5,h6⟩:=lG p t;refine⟨h5,h6,uY p t ?_,Int.dvd_trans (wL p t) (Int.mul_dvd_mul hc.dv hy.dv)⟩;have e1:c.1*y.1<=c.2*y.1:=VL hc.hi hy.lo;have e2:c.2*y.1<=c.2*(i*y.2):=Int.mul_le_mul_of_nonneg_left hy.hi (Ug hc.pos);rw[show i*(c.2*y.2)=c.2*(i*y.2) by ac_rfl];lia
theorem sv.plS{M i j:Int}{a b:Fr}(h:sv M i a)(k:sv M j b):sv M (i+j) (L2.pl a b):=by
 have p:0<a.2*b.2:=Rx h.pos k.pos;have t:0<=a.1*b.2+b.1*a.2:=Int.add_nonneg (Vi h.lo (Ug k.pos)) (Vi k.lo (Ug h.pos));obtain⟨d,d0,h3,h4,h5,h6⟩:=lG p t;refine⟨h5,h6,uY p t ?_,?_⟩;·have e1:a.1*b.2<=i*a.2*b.2:=VL h.hi (Ug k.pos);have e2:b.1*a.2<=j*b.2*a.2:=VL k.hi (Ug h.pos);rw[Int.add_mul,show i*(a.2*b.2)=i*a.2*b.2 by ac_rfl,show j*(a.2*b.2)=j*b.2*a.2 by ac_rfl];lia
 ·obtain⟨x,hx⟩:=h.dv;obtain⟨y,hy⟩:=k.dv;refine CH (u:=a.1*x+b.1*y) p t ?_;rw[Int.add_mul,Int.mul_add];congr 1;·rw[hx];rw[show a.1*b.2*(a.2*x)=a.2*b.2*(a.1*x) by ac_rfl]
  ·rw[hy];rw[show b.1*a.2*(b.2*y)=a.2*b.2*(b.1*y) by ac_rfl]
def bq(W:aZ)(as:List Int):Int:=bp W (W.rng.filter λk=>!as.contains k)
def wI(l:Nat):Int:=1000*(2^(16-l)-1)
structure Mu (W:aZ) (k:Int) (as:List Int) (y n:Fr):Prop where
 y:sv (bq W (aZ.askd as k)) (wI (as.length+1)) y
 n:sv (bq W (aZ.askd as k)) (wI (as.length+1)) n
 len:as.length<=15
 inw:lR W k
 new:k∉as
def lk(ws:List Fr)(l:Int):Fr:=if l=-1 then(0,1) else ws.getD l.toNat (0,1)
structure ME (W:aZ) (S:Nat->Std) (n:Nat) (ws:List Fr):Prop where
 len:ws.length=n
 at':∀(j:Nat) (f:Fr),ws[j]?=some f->sv (bq W (S j).1) (wI (S j).1.length) f
theorem y4{M i:Int}(h:0<=i):sv M i (0,1):=⟨by decide,by decide,by show(0:Int)<=i*1;lia,Int.one_dvd _⟩
theorem fJ{cs:En}{g:FG}{ft:FT}{fe:FE}{b:Qg->Bool}{y:Qg->Qg}{u:Qg->En}(n:Nat):∀(items:List Qg) (t:En) (acc:List Qg),t.length=n->(∀x∈items,∀t:En,t.length=n->g x (cs++t)=some (cs++u x))->(∀x∈items,(u x).length=n)->(∀x∈items,ft (cs++u x)=some (b x,cs++u x))->(∀x∈items,b x=true->fe (cs++u x)=some (.d (y x),cs++u x))->acc.length+items.length<=1000000->∃t',t'.length=n/\dh g ft fe items (cs++t) acc=some (acc++(items.filter b).map y,cs++t')|[],t,acc,h,_,_,_,_,_=>⟨t,h,by simp[dh]⟩|x::r,t,acc,h,hg,hu,h1,h2,hl=>by have h1x:=h1 x ↥1;unfold dh;rw[hg x ↥1 t h];simp only[QC,h1x];cases hb:b x with|true=>simp only[if_true,h2 x ↥1 hb,QC,mM];rw[if_pos (by simp at hl;lia)];obtain⟨t',e1,ih⟩:=fJ (b:=b) (y:=y) (u:=u) n r (u x) (acc++[y x]) (hu x ↥1) (λz hz=>hg z (by simp[hz])) (λz hz=>hu z (by simp[hz])) (λz hz=>h1 z (by simp[hz])) (λz hz=>h2 z (by simp[hz])) (by simp at hl⊢;lia);exact⟨t',e1,by rw[ih];simp[hb]⟩|false=>simp only[UX,if_false];obtain⟨t',e1,ih⟩:=fJ (b:=b) (y:=y) (u:=u) n r (u x) acc (hu x ↥1) (λz hz=>hg z (by simp[hz])) (λz hz=>hu z (by simp[hz])) (λz hz=>h1 z (by simp[hz])) (λz hz=>h2 z (by simp[hz])) (by simp at hl;lia);exact⟨t',e1,by rw[ih];simp[hb]⟩
theorem jQ{nT:Nat}{fi:FI}{g:FG}{ft:FT}{fe:FE}{e e1 eo:En}{items out:List Qg}{own:jq}(h1:fi e=some (items,own,e1))(h3:dh g ft fe items (Qu nT none) []=some (out,eo)):bj [] nT fi g ft fe e=some (.l out,e1):=by unfold bj;rw[h1];simp only[QC];rw[if_pos ↥1,show mi [] nT e1=Qu nT none from rfl,h3];simp only[QC];rw[if_pos (by simp[iz])];congr 2;refine Sx λi=>?_;rw[ci];match h:e1[i]? with|none=>rfl|some none=>rfl|some (some (.d x))=>rfl|some (some (.n x))=>rfl|some (some (.l x))=>rfl
def nS(n:Int):Str:=Rj (toString n)
theorem zE:∀n:Fin 1001,(Rj (toString ((n.val:Nat):Int))).length<=4:=by decide+kernel
theorem Il{n:Int}(h0:0<=n)(h1:n<=1000):n.natAbs.log2<1900:=by have:=Nat.log2_le_self n.natAbs;lia
theorem wm{e:En}{i:Int}(h0:0<=i)(h1:i<=1000):uO e (.d (.int i))=some (.d (.str (nS i))):=by simp only[uO,bL,QC];rw[if_pos (Il h0 h1)];rfl
theorem yR{ls:List Str}{k:Nat}(h:∀x∈ls,x.length<=k):(ls.map (·.length)).sum<=ls.length*k:=by induction ls with|nil=>simp|cons x r ih=>have h1:=h x ↥1;have h2:=ih λy hy=>h y (by simp[hy]);simp only[QB,UE,Rk,Nat.succ_mul];lia
section
variable{X:Cx}{K:⇑0}{a:Qh}{fa:FE}{pos p pos2 p2:Pos}
end
section
variable{X:Cx}{K:⇑0}{a:Qh}{fa:FE}
end
abbrev Rn:=List (Int×Bool)
def ET(R:Rn):List Int:=R.map (·.1)
def G_(W:aZ)(R:Rn):List Int:=(R.filter (·.2)).flatMap λr=>[(W.tie r.1).one,(W.tie r.1).other]
structure MB (W:aZ) (R:Rn) (asked taken:List Int):Prop where
 pa:asked.Perm (ET R)pt:taken.Perm (G_ W R)inw:∀k∈ET R,lR W k
 nd:(ET R).Nodup
 nk:(G_ W R).Nodup
 bd:∀t:Int,0<=t->t<W.things->W.many (ET R) t<=W.pat.getD t.toNat 0
 ak:(R.length:Int)<=W.asks
 sa:asked.Pairwise (·<=·)st:taken.Pairwise (·<=·)
section
variable{prog:Qn}{w:Qk}{A:Qr}{R:Result->Qf->Prop}
def mV(elt tg iter tg2 iter2:Qh)(ifs ifs2:List Qh)(scope:Qx)(pos:Pos)(acc:Qd)(env:Env)(k:Sem Sy):Sem Sy:=do
 let x<-Qs iter2 env
 RQ iter2.pos let x<-Rl iter2 env x let _<-runOwn (.compStart (.ListComp elt [⟨tg,iter,ifs,0⟩,⟨tg2,iter2,ifs2,0⟩] scope pos) 1 (<-Sn [x] (pyIter x)) acc env) env
 k
theorem uF(elt tg iter tg2 iter2:Qh)(ifs ifs2:List Qh)(scope:Qx)(pos:Pos)(it acc:Qd)(env:Env):Te (.ListComp elt [⟨tg,iter,ifs,0⟩,⟨tg2,iter2,ifs2,0⟩] scope pos) 0 it acc env=(do RQ iter.pos match<-RE it with
 |none=>pure (.done .next)|some v=>
  SM tg it v
  RD tg env v let mut ok:=true
  for c in ifs do if ok then ok<-isTrue c env (Qs c env)
  if ok then mV elt tg iter tg2 iter2 ifs ifs2 scope pos acc env (QT (.compLoop (.ListComp elt [⟨tg,iter,ifs,0⟩,⟨tg2,iter2,ifs2,0⟩] scope pos) 0 it acc env))else QT (.compLoop (.ListComp elt [⟨tg,iter,ifs,0⟩,⟨tg2,iter2,ifs2,0⟩] scope pos) 0 it acc env)):=by rfl
theorem vZ(elt tg iter tg2 iter2:Qh)(ifs ifs2:List Qh)(scope:Qx)(pos:Pos)(it acc:Qd)(env:Env):Te (.ListComp elt [⟨tg,iter,ifs,0⟩,⟨tg2,iter2,ifs2,0⟩] scope pos) 1 it acc env=(do RQ iter2.pos match<-RE it with
 |none=>pure (.done .next)|some v=>
  SM tg2 it v
  RD tg2 env v let mut ok:=true
  for c in ifs2 do if ok then ok<-isTrue c env (Qs c env)
  if ok then(do let _<-call (.builtin "list.append") [acc,<-Qs elt env])
  QT (.compLoop (.ListComp elt [⟨tg,iter,ifs,0⟩,⟨tg2,iter2,ifs2,0⟩] scope pos) 1 it acc env)):=by rfl
def zm(prog:Qn)(w:Qk)(A:Qr)(B:Sem Sy->Sem Sy)(tg:Qh)(ifs:List Qh)(env:Env)(it:Qd)(onward:Qf->Prop)(v:Qd)(u:Qf):Prop:=Qj (Ql prog w) A (SM tg it v) (λ_ u1=>Qj (Ql prog w) A (RD tg env v) (λ_ u2=>Qj (Ql prog w) A (forIn ifs true λc r=>if r=true then do let ok<-isTrue c env (Qs c env);pure (SR ok) else pure (SR r)) (λok u3=>if ok=true then(∀(k:Sem Sy) (Q:Sy->Qf->Prop) (E:Qd->Qf->Prop),(∀u5,onward u5->Qj (Ql prog w) A k Q E u5)->Qj (Ql prog w) A (B k) Q E u3) else onward u3) pJ u2) pJ u1) pJ u
theorem uB{elt tg iter tg2 iter2:Qh}{ifs ifs2:List Qh}{scope:Qx}{pos:Pos}{it acc:Qd}{env:Env}(J:Nat->Qf->Prop)(turn:∀n u,J n u->Qj (Ql prog w) A (RE it) (λr u1=>(r=none->R (.ok .next) u1)/\∀v,r=some v->zm prog w A (mV elt tg iter tg2 iter2 ifs ifs2 scope pos acc env) tg ifs env it (λu2=>∃m,m<n/\J m u2) v u1) pJ u){n0:Nat}{u0:Qf}(dJ:J n0 u0):Rh (Ql prog w) A (.compLoop (.ListComp elt [⟨tg,iter,ifs,0⟩,⟨tg2,iter2,ifs2,0⟩] scope pos) 0 it acc env) R u0:=by refine Uz rfl J (λn u ju=>?_) n0 dJ;show Qj _ A ((Te (.ListComp elt [⟨tg,iter,ifs,0⟩,⟨tg2,iter2,ifs2,0⟩] scope pos) 0 it acc env).onRaise _) _ _ u;refine wpAny_noted ?_;rw[uF];refine Qi (RL (Qi (Qw (turn n u ju) (λr u1 k1=>?_) λ_ _ z=>z.elim)));cases r with|none=>exact Qp (k1.1 rfl)|some v=>refine Qi (Qw (k1.2 v rfl) (λ_ u2 k2=>Qi (Qw k2 (λ_ u3 k3=>Qi (Qw k3 (λok u4 k4=>?_) λ_ _ z=>z.elim)) λ_ _ z=>z.elim)) λ_ _ z=>z.elim);cases ok with|false=>rw[if_neg RM]at k4;exact Qp ⟨rfl,k4⟩|true=>rw[if_pos rfl]at k4;exact k4 _ _ _ λu6 k6=>Qp ⟨rfl,k6⟩
theorem vY{elt tg iter tg2 iter2:Qh}{ifs ifs2:List Qh}{scope:Qx}{pos:Pos}{it acc:Qd}{env:Env}(J:Nat->Qf->Prop)(turn:∀n u,J n u->Qj (Ql prog w) A (RE it) (λr u1=>(r=none->R (.ok .next) u1)/\∀v,r=some v->BX prog w A elt tg2 ifs2 env it acc (λu2=>∃m,m<n/\J m u2) v u1) pJ u){n0:Nat}{u0:Qf}(dJ:J n0 u0):Rh (Ql prog w) A (.compLoop (.ListComp elt [⟨tg,iter,ifs,0⟩,⟨tg2,iter2,ifs2,0⟩] scope pos) 1 it acc env) R u0:=by refine Uz rfl J (λn u ju=>?_) n0 dJ;show Qj _ A ((Te (.ListComp elt [⟨tg,iter,ifs,0⟩,⟨tg2,iter2,ifs2,0⟩] scope pos) 1 it acc env).onRaise _) _ _ u;refine wpAny_noted ?_;rw[vZ];refine Qi (RL (Qi (Qw (turn n u ju) (λr u1 k1=>?_) λ_ _ z=>z.elim)));cases r with|none=>exact Qp (k1.1 rfl)|some v=>refine Qi (Qw (k1.2 v rfl) (λ_ u2 k2=>Qi (Qw k2 (λ_ u3 k3=>Qi (Qw k3 (λok u4 k4=>?_) λ_ _ z=>z.elim)) λ_ _ z=>z.elim)) λ_ _ z=>z.elim);cases ok with|false=>rw[if_neg RM]at k4;exact Qp ⟨rfl,k4⟩|true=>rw[if_pos rfl]at k4;refine Qi (Qi (Qw k4 (λx u5 k5=>Qi (Qw k5 (λ_ u6 k6=>?_) λ_ _ z=>z.elim)) λ_ _ z=>z.elim));exact Qp (Qp ⟨rfl,k6⟩)
theorem uC{elt tg iter tg2 iter2:Qh}{ifs ifs2:List Qh}{scope:Qx}{pos:Pos}{it acc:Qd}{env:Env}{s:Qf}(h0:Rh (Ql prog w) A (.compLoop (.ListComp elt [⟨tg,iter,ifs,0⟩,⟨tg2,iter2,ifs2,0⟩] scope pos) 1 it acc env) R s)(h:Qj (Ql prog w) A (pyIter it) (λit' s'=>Rh (Ql prog w) A (.compLoop (.ListComp elt [⟨tg,iter,ifs,0⟩,⟨tg2,iter2,ifs2,0⟩] scope pos) 1 it' acc env) R s') (notedBy (Ql prog w) A env λx s'=>R (.error x) s') s):Rh (Ql prog w) A (.compStart (.ListComp elt [⟨tg,iter,ifs,0⟩,⟨tg2,iter2,ifs2,0⟩] scope pos) 1 it acc env) R s:=by
 refine codeAny_of_tree ?_;show Qj _ _ ((compStart (.ListComp elt [⟨tg,iter,ifs,0⟩,⟨tg2,iter2,ifs2,0⟩] scope pos) 1 it acc env).onRaise (λx=>do noteFrame x env;RQ theWindowsPlace)) _ _ s;refine wpAny_notedAt ?_;unfold compStart;show Qj _ _ (ask>>=_) _ _ s;refine Qi (wpAny_askSetting (wpAny_ite ?_));split;·first|exact Qi (Qp (Qp (Ts rfl h0)))|exact Qp (Ts rfl h0)
 ·first|exact Qi (Ta (Qi (RL (Qi (Qw h (λit' s' h'=>Qp (Ts rfl h')) λ_ _ x=>x)))))|(refine Qi (Ta ?_);show Qj _ _ (RQ iter2.pos>>=_) _ _ s;exact Qi (RL (Qi (Qw h (λit' s' h'=>Qp (Ts rfl h')) λ_ _ x=>x))))
end
def D5(l:Qe)(wi:TI)(g:TG)(tc:TT)(te:TE)(σ:L2.St)(H:Hp)(N:L2.St->Hp->Prop):Prop:=wi σ H λJ H1=>∃W:Nat->Nat->L2.St->Hp->Prop,(∃m,W 0 m σ H1)/\∀i m σ' H',W i m σ' H'->(J.stop i H'/\N σ' H')\/(J.go i H'/\∃N2:L2.St->Hp->Prop,(∀σ2 H2,N2 σ2 H2->∃m',m'<m/\W (i+1) m' σ2 H2)/\∀x H2,J.yld i H' x H2->g x σ' H2 λσ2 H3=>tc σ2 H3 λb H4=>if b=true then te σ2 H4 λv H5=>∃ys,H5 l=some (.lst ys)/\ys.length<Qv/\N2 σ2 (bz H5 l (.lst (ys++[v]))) else N2 σ2 H4)
theorem Cn{Y:Cx}{elt tg iter tg2 iter2:Qh}{ifs ifs2:List Qh}{scope:Qx}{pos:Pos}{wi:TI}{g:TG}{tc:TT}{te:TE}(hc:Y.calm=true)(hxe:Y.xe=pJ)(hi:PI Y tg2 iter2 wi)(hg:PG Y tg2 g)(ht:si Y ifs2 tc)(he:PE Y elt te)(hs:∀x,Rl iter2 Y.env x=pure x){pins:List (Qe×Obj)}{s:Qf}{σ:L2.St}{H:Hp}{D:Qe}{N:L2.St->Hp->Prop}(I:aJ Y pins σ H s)(h:D5 D wi g tc te σ H N)(k:Sem Sy)(Q:Sy->Qf->Prop)(E:Qd->Qf->Prop)(hk:∀s',(∃σ' H',aJ Y pins σ' H' s'/\N σ' H')->Qj (Ql Y.prog Y.w) Y.A k Q E s'):Qj (Ql Y.prog Y.w) Y.A (mV elt tg iter tg2 iter2 ifs ifs2 scope pos (.ref D) Y.env k) Q E s:=by
 unfold mV;have hi':=hi pins s σ H _ I h;rw[hxe]at hi';refine Qi (Qw hi' (λv s1 h1=>Qi (RL (Qi (wpAny_of_eq (hs v) (Qi (SL (Qw h1 (λitv s2 h2=>?_) λ_ _ z=>z.elim))))))) λ_ _ z=>z.elim);obtain⟨it,fp,tn,J,H2,rfl,I2,T,st2,f2,W,⟨m0,w0⟩,turn⟩:=h2;have stat:∀{H':Hp},(∀b∈fp,H' b=none)->∀b∈fp,gR Y pins H' b:=λhn b hb=>⟨hn b hb,(f2 b hb).2⟩;have loop:Rh (Ql Y.prog Y.w) Y.A (.compLoop (.ListComp elt [⟨tg,iter,ifs,0⟩,⟨tg2,iter2,ifs2,0⟩] scope pos) 1 (.ref it) (.ref D) Y.env) (λr s'=>match r with|.ok f=>Qj (Ql Y.prog Y.w) Y.A k Q E s'|.error e=>cameBackBy (Ql Y.prog Y.w) Y.A Y.env E e s') s2:=by
  refine vY (λn s'=>∃i σ' H',aJ Y pins σ' H' s'/\tn i s'.heap/\(∀b∈fp,H' b=none)/\W i n σ' H') ?_ (n0:=m0) ⟨0,σ,H2,I2,st2,λb hb=>(f2 b hb).1,w0⟩;rintro n s3⟨i,σ3,H3,I3,st3,fr3,w3⟩;rcases turn i n σ3 H3 w3 with⟨stop,qn⟩|⟨go,N2,hN,step⟩;·refine cj (T.done Y rfl rfl rfl hc i pins s3 σ3 H3 pJ I3 (stat fr3) st3 stop) λr s4⟨hr,I4⟩=>?_;subst hr;exact⟨λ_=>hk _ ⟨σ3,H3,I4,qn⟩,λv z=>by cases z⟩
  ·refine cj (T.item Y rfl rfl rfl hc i pins s3 σ3 H3 pJ I3 (stat fr3) st3 go) λr s4⟨u,hr,h4⟩=>?_;subst hr;refine⟨λz=>(by cases z),λv z=>?_⟩;cases z;refine cj h4 λ_ s5⟨x,H5,I5,r5,y5,st5,fr5⟩=>?_;have I5':=I5.pinned (stat fr5) (T.obj _ _ st5);have QT:∀{σ8:L2.St}{H8:Hp}{s8:Qf},aJ Y (pins++ka fp s5.heap) σ8 H8 s8->N2 σ8 H8->∃m,m<n/\∃i σ' H',aJ Y pins σ' H' s8/\tn i s8.heap/\(∀b∈fp,H' b=none)/\W i m σ' H':=fun{σ8 H8 s8}I8 n8=>by obtain⟨m',hm,w8⟩:=hN σ8 H8 n8;refine⟨m',hm,i+1,σ8,H8,I8.unpinned,T.keep _ _ _ st5 λb hb o e=>(I8.pin (b,o) (QL _ (QL _ (bQ hb e)))).1,λb hb=>?_,w8⟩;obtain⟨o,e,d⟩:=T.obj _ _ st5 b hb;exact(I8.pin (b,o) (QL _ (QL _ (bQ hb e)))).2.1
   have hg':=hg _ s5 σ3 H5 x u _ I5' r5 (step x H5 y5);rw[hxe]at hg';refine cj hg' λ_ s8⟨σ8,H8,I8,q8⟩=>?_;have ht':=ht _ s8 σ8 H8 _ I8 q8;rw[hxe]at ht';refine cj ht' λok s9⟨H9,I9,q9⟩=>?_;cases ok with|false=>rw[if_neg RM]at q9⊢;exact QT I9 q9|true=>rw[if_pos rfl]at q9⊢;have he':=he _ s9 σ8 H9 _ I9 q9;rw[hxe]at he';refine cj he' λv s10⟨xv,H10,I10,r10,ys,hl,hz,n10⟩=>?_;have ha:=jE _ s10 σ8 H10 (.ref D) [xv] (.ref D) [v] (λ_ H=>N2 σ8 H) I10 rfl (.cons r10 .nil) ⟨D,ys,xv,rfl,rfl,hl,hz,n10⟩;rw[hxe]at ha;refine cj ha λ_ s11⟨_,H11,I11,_,q11⟩=>?_;exact QT I11 q11
 exact Qi (wpAny_runOwn (uC loop (T.self Y.A 0 _ _ _ st2 loop)))
structure yS (cp:List (Nat×Str)) (nT:Nat) (wi:TI) (g:TG) (tc:TT) (wi2:TI) (g2:TG) (tc2:TT) (te:TE) (σ:L2.St) (H:Hp) (Q:VK):Prop where go:wi σ H λJ H1=>∀l,H1 l=none->∃W:Nat->Nat->L2.St->Hp->Prop,(∃m,W 0 m (fB cp nT σ) (bz H1 l (.lst [])))/\∀i m σ' H',W i m σ' H'->(J.stop i H'/\Q (.ref l) H')\/(J.go i H'/\∃N:L2.St->Hp->Prop,(∀σ2 H2,N σ2 H2->∃m',m'<m/\W (i+1) m' σ2 H2)/\∀x H2,J.yld i H' x H2->g x σ' H2 λσ2 H3=>tc σ2 H3 λb H4=>if b=true then D5 l wi2 g2 tc2 te σ2 H4 N else N σ2 H4)
def kN(g:FG)(ft:FT)(fi2:FI)(g2:FG)(ft2:FT)(fe:FE):List Qg->En->List Qg->Option (List Qg×En)|[],e,acc=>some (acc,e)|x::r,e,acc=>(g x e).bind λe1=>(ft e1).bind λb=>if b.1=true then(fi2 b.2).bind λp=>if p.2.1=[]then(dh g2 ft2 fe p.1 p.2.2 acc).bind λz=>kN g ft fi2 g2 ft2 fe r z.2 z.1 else none else kN g ft fi2 g2 ft2 fe r b.2 acc
def oC(cp:List (Nat×Str))(nT:Nat)(fi:FI)(g:FG)(ft:FT)(fi2:FI)(g2:FG)(ft2:FT)(fe:FE):FE:=λe=>(fi e).bind λp=>if (p.2.1.all λq=>!(cp.any λc=>c.1==q.1))=true then(kN g ft fi2 g2 ft2 fe p.1 (mi cp nT p.2.2) []).bind λz=>if iz cp z.2 p.2.2=true then some (.l z.1,mB (lU cp) z.2 p.2.2) else none else none
section
variable{K:⇑0}{F H:Hp}{σ:L2.St}{e:En}{cp:List (Nat×Str)}{nT:Nat}
theorem Bp{Q:VK}{fi fi2:FI}{g g2:FG}{W:List Nat}{ft ft2:FT}{fe:FE}(hn:(cp.map (·.1)).Nodup)(hW:∀j∈W,cp.length<=j)(h:fE K (oC cp nT fi g ft fi2 g2 ft2 fe) σ H Q):yS cp nT (fI K fi) (fG K g W) (fT K ft) (fI K fi2) (fG K g2 W) (fT K ft2) (fE K fe) σ H Q:=by
 obtain⟨F0,e0,z,e',R0,hf,q⟩:=h;unfold oC at hf;obtain⟨⟨items,own,e1⟩,h1,hf⟩:=P8 hf;dsimp only at hf;split at hf;case isFalse=>cases hf
 case isTrue hO=>
 obtain⟨⟨out,eo⟩,h2,hf⟩:=P8 hf;dsimp only at hf;split at hf;case isFalse=>cases hf
 case isTrue hB=>
 cases hf;refine⟨⟨F0,e0,items,own,e1,R0,h1,λJ F1 H1 X1 R1 kp ok=>?_⟩⟩;intro l hl;obtain⟨Ri,sub⟩:=R1.inn (nT:=nT) hn;have hFl:F1 l=none:=R1.freeF hl;let Iv:Nat->L2.St->Hp->Prop:=λi=>CI K W (fB cp nT σ) F1 H1 (mi cp nT e1) l λ_ ei acc=>kN g ft fi2 g2 ft2 fe (items.drop i) ei acc=some (out,eo);have notown:∀p∈own,∀a,σ[p.1]?=some (some (.ref a))->¬cm (fB cp nT σ) (mi cp nT e1) H1 a:=by rintro p hp a ha⟨k,zf⟩;obtain⟨xs,c1,c2⟩:=zf.resolve_right λ⟨xss,_,_,z,_⟩=>i9 k xss z;obtain⟨i,s,d1,d2⟩:=j9 c1;have e2:=nG d1 c2;have:p.1=i:=R1.inj p.1 i p.2 xs a (kp p hp) d2 ha e2;have hh:=Rp.mp hO p hp;simp only[Bool.not_eq_true',UC,beq_iff_eq]at hh;exact hh (i,s) (Qc d1) this.symm
 refine⟨λi m σ' H'=>m=items.length-i/\i<=items.length/\Iv i σ' H',⟨items.length,by simp,Ss _,.mk (Ri.putT hFl (λz=>(Ri.ownH l z) hl)).1 (dr.refl.putT hl (Ri.putT hFl (λz=>(Ri.ownH l z) hl)).2) hFl (λz=>(Ri.ownH l (((Ri.putT hFl (λz=>(Ri.ownH l z) hl)).2 l).mp z)) hl) aw aR.nil h2⟩,?_⟩;rintro i m σ' H'⟨rfl,hi,⟨R',X',fl,no,hl',da,hc⟩⟩;rename_i F' ei acc vs;have held:Ap K σ F' H' own:=λp hp=>by obtain⟨a,us,c1,c2,c3,c4⟩:=R1.own p.1 p.2 (kp p hp);exact⟨a,us,c1,X'.tmp a _ c3 (notown p hp a c1),c4.mono X'.sf⟩
 obtain⟨go,stop,yld⟩:=ok F' H' X'.sf R'.sm held;by_cases hlt:i<items.length
 ·have hd:items.drop i=items[i]::items.drop (i+1):=Ub hlt;rw[hd]at hc;unfold kN at hc;obtain⟨e2,c2,hc⟩:=P8 hc;obtain⟨⟨b,e3⟩,c3,hc⟩:=P8 hc;refine .inr ⟨go i hlt,Iv (i+1),λσ2 H2 r=>⟨items.length-(i+1),by lia,rfl,hlt,r⟩,λx H2 hy=>?_⟩;obtain⟨F2,sH,sF2,sm2,fz,hx⟩:=yld i items[i] x H2 (QR hlt) hy;obtain⟨R2,X2⟩:=R'.step sH sF2 sm2 fz;refine⟨F2,ei,items[i],e2,R2,hx,c2,λσ3 X3 R3=>⟨F2,e2,b,e3,R3,c3,λF4 H4 X4 R4=>?_⟩⟩;have hlH2:H2 l=some (.lst vs):=sH _ _ hl';have no2:¬cm σ' ei H2 l:=λz=>by
   rcases X2.ow l z with z|z;·exact no z
   ·rw[hl']at z;cases z
  have no3:¬cm σ3 e2 H2 l:=λz=>by
   rcases X3.own l z with z|z;·exact no2 z
   ·rw[hlH2]at z;cases z
  have fl2:F2 l=none:=fz l fl (by rw[hl'];simp);have hlH4:H4 l=some (.lst vs):=X4.tmp l _ hlH2 no3;have fl4:F4 l=none:=X4.fr l vs fl2 hlH2 no3;have no4:¬cm σ3 e3 H4 l:=λz=>by
   rcases X4.ow l z with z|z;·exact no3 z
   ·rw[hlH2]at z;cases z
  have E4:dr W (fB cp nT σ) F1 H1 (mi cp nT e1) σ3 F4 H4 e3:=((X'.trans X2.s).trans X3).trans X4.s;have da4:=da.mono (sF2.trans X4.sf);cases b with|false=>rw[if_neg ↥1]at hc;exact E5 (.mk R4 E4 fl4 no4 hlH4 da4 hc)|true=>
   rw[if_pos rfl]at hc;obtain⟨⟨its2,own2,e5⟩,c5,hc⟩:=P8 hc;dsimp only at hc;split at hc;case isFalse=>cases hc
   case isTrue ho2=>
   subst ho2;obtain⟨⟨acc2,e6⟩,c6,hc⟩:=P8 hc;refine yo ⟨F4,e3,its2,[],e5,R4,c5,λJ2 F5 H5 X5 R5 _ ok2=>?_⟩;have hlH5:H5 l=some (.lst vs):=X5.tmp l _ hlH4 no4;have fl5:F5 l=none:=X5.fr l vs fl4 hlH4 no4;have no5:¬cm σ3 e5 H5 l:=λz=>by
    rcases X5.ow l z with z|z;·exact no4 z
    ·rw[hlH4]at z;cases z
   let Iv2:Nat->L2.St->Hp->Prop:=λj=>CI K W (fB cp nT σ) F1 H1 (mi cp nT e1) l λF' ei acc=>aG F5 F'/\dh g2 ft2 fe (its2.drop j) ei acc=some (acc2,e6);refine⟨λj m σ' H'=>m=its2.length-j/\j<=its2.length/\Iv2 j σ' H',⟨its2.length,by simp,Ss _,.mk R5 (E4.trans X5.s) fl5 no5 hlH5 (da4.mono X5.sf) ⟨aG.refl _,c6⟩⟩,?_⟩;rintro j m σ6 H6⟨rfl,hj,⟨R6,X6,fl6,no6,hl6,da6,s6,hc6⟩⟩;rename_i F6 ei6 acc6 vs6;obtain⟨go2,stop2,yld2⟩:=ok2 F6 H6 s6 R6.sm (λp hp=>by cases hp);by_cases hjt:j<its2.length
   ·have hd2:its2.drop j=its2[j]::its2.drop (j+1):=Ub hjt;rw[hd2]at hc6;unfold dh at hc6;obtain⟨e7,c7,hc6⟩:=P8 hc6;obtain⟨⟨b8,e8⟩,c8,hc6⟩:=P8 hc6;refine .inr ⟨go2 j hjt,Iv2 (j+1),λσ2 H2 r=>⟨its2.length-(j+1),by lia,rfl,hjt,r⟩,λx7 H7 hy7=>?_⟩;obtain⟨F7,sH7,sF7,sm7,fz7,hx7⟩:=yld2 j its2[j] x7 H7 (QR hjt) hy7;obtain⟨R7,X7⟩:=R6.step sH7 sF7 sm7 fz7;refine⟨F7,ei6,its2[j],e7,R7,hx7,c7,λσ8 X8 R8=>⟨F7,e7,b8,e8,R8,c8,λF9 H9 X9 R9=>?_⟩⟩;have hlH7:H7 l=some (.lst vs6):=sH7 _ _ hl6;have no7:¬cm σ6 ei6 H7 l:=λz=>by
     rcases X7.ow l z with z|z;·exact no6 z
     ·rw[hl6]at z;cases z
    have no8:¬cm σ8 e7 H7 l:=λz=>by
     rcases X8.own l z with z|z;·exact no7 z
     ·rw[hlH7]at z;cases z
    have fl7:F7 l=none:=fz7 l fl6 (by rw[hl6];simp);have hlH9:H9 l=some (.lst vs6):=X9.tmp l _ hlH7 no8;have fl9:F9 l=none:=X9.fr l vs6 fl7 hlH7 no8;have no9:¬cm σ8 e8 H9 l:=λz=>by
     rcases X9.ow l z with z|z;·exact no8 z
     ·rw[hlH7]at z;cases z
    have E9:dr W (fB cp nT σ) F1 H1 (mi cp nT e1) σ8 F9 H9 e8:=((X6.trans X7.s).trans X8).trans X9.s;have s9:aG F5 F9:=(s6.trans sF7).trans X9.sf;cases b8 with|false=>rw[if_neg ↥1]at hc6;exact E5 (.mk R9 E9 fl9 no9 hlH9 (da6.mono (sF7.trans X9.sf)) ⟨s9,hc6⟩)|true=>
     rw[if_pos rfl]at hc6;obtain⟨⟨r,e10⟩,c10,hc6⟩:=P8 hc6;obtain⟨d,c11,hc6⟩:=P8 hc6;split at hc6;case isFalse=>cases hc6
     case isTrue hlen=>
     refine yo ⟨F9,e8,r,e10,R9,c10,λFa Ha v Xa Ra Aa=>?_⟩;have hlHa:Ha l=some (.lst vs6):=Xa.tmp l _ hlH9 no9;have fla:Fa l=none:=Xa.fr l vs6 fl9 hlH9 no9;have noa:¬cm σ8 e10 Ha l:=λz=>by
      rcases Xa.ow l z with z|z;·exact no9 z
      ·rw[hlH9]at z;cases z
     obtain⟨Fb,Rb,sb,db,fb⟩:=cz.frozen Ra (rs:=[r]) (vs:=[v]) ⟨v,[],rfl,Aa,rfl⟩ (nR c11);have flb:Fb l=none:=fb l fla (by rw[hlH9];simp);have Xb:=Xa.frz sb fb;have ll:=da6.len;have sl:Qv=16777216:=Rm;have dv:DA K Fb d v:=by simp only[aR]at db;obtain⟨v',r',e',hv,_⟩:=db;cases e';exact hv
     obtain⟨Rc,oc⟩:=Rb.putT (ws:=vs6++[v]) flb noa;exact⟨vs6,hlHa,by lia,.mk Rc ((E9.trans Xb.s).putT hl oc) flb (λz=>noa ((oc l).mp z)) aw ((da6.mono (sF7.trans (X9.sf.trans (Xa.sf.trans sb)))).append (aR.one dv)) ⟨s9.trans (Xa.sf.trans sb),hc6⟩⟩
   ·have hd2:its2.drop j=[]:=Uc ↥0;rw[hd2]at hc6;cases hc6;exact .inl ⟨stop2 j ↥0,.mk R6 X6 fl6 no6 hl6 da6 hc⟩
 ·have hd:items.drop i=[]:=Uc ↥0;rw[hd]at hc;cases hc;refine .inl ⟨stop i ↥0,?_⟩;obtain⟨R9,X9,o9⟩:=nI R1 sub i9 X'.sf X'.dom X'.fr X'.lst X'.tmp X'.fd R' (λi k xs g1 g2=>X'.wr k λz=>by obtain⟨s,g⟩:=dc g2;have:=(P_ g).1;have:=hW k z;lia) λi k xs g1 g2=>by obtain⟨s,g⟩:=dc g2;unfold iz at hB;have hb:=Rp.mp hB _ (Qc g);simp only[g1,g2,Ux,AO,Bool.not_true,Bool.false_or]at hb;exact zw.mp hb
  exact q F' H' (.ref l) (X1.trans X9) R9 ⟨l,vs,rfl,X1.dom l hl,fl,hl',da,λz=>R1.ownH l (o9 l z) hl⟩
end
theorem PG.wide{X:Cx}{K:⇑0}{tg:Qh}{g:FG}{W W':List Nat}(h:PG X tg (fG K g W))(hw:∀j,j∈W->j∈W'):PG X tg (fG K g W'):=h.mono λv σ H Q⟨F,e,x,e',R,d,hg,q⟩=>⟨F,e,x,e',R,d,hg,λσ' x=>q σ' (x.mono hw)⟩
section
variable{X:Cx}{K:⇑0}{pos:Pos}
end
section
variable{X:Cx}{K:⇑0}{pos:Pos}
variable{o:Qh}{fo:FE}{apos cpos:Pos}
end
section
variable{X:Cx}{K:⇑0}
end
structure qa (f:Fr):Prop where
 pos:0<f.2
 cop:Qy f.1 f.2=1
def Vl(M:Int)(f:Fr)(v:Int):Prop:=f.1*M=v*f.2
theorem Vl.of{M i:Int}{f:Fr}(h:sv M i f):Vl M f (f.1*(M/f.2)):=by unfold Vl;obtain⟨c,hc⟩:=h.dv;have hp:=h.pos;rw[hc,Int.mul_ediv_cancel_left _ ↥0,QX,RI c f.2]
theorem Vl.pl{M:Int}{a b:Fr}{v w:Int}(ha:Vl M a v)(hb:Vl M b w)(pa:0<a.2)(pb:0<b.2):Vl M (pl a b) (v+w):=by
 unfold Vl at*;have p:a.2*b.2≠0:=Int.ne_of_gt (Rx pa pb);have hc:=qQ (t:=a.1*b.2+b.1*a.2) (b:=a.2*b.2) p;change (L2.pl a b).1*(a.2*b.2)=(L2.pl a b).2*(a.1*b.2+b.1*a.2) at hc;generalize (L2.pl a b).1=x at*;generalize (L2.pl a b).2=y at*;refine Vg (a:=a.2*b.2) p ?_;have e1:x*M*(a.2*b.2)=y*(a.1*M*b.2+b.1*M*a.2):=by
  rw[show x*M*(a.2*b.2)=x*(a.2*b.2)*M by rw[QX,RI M,<-QX],hc,QX y,Int.add_mul];congr 2;·rw[QX,RI b.2 M,<-QX]
  ·rw[QX,RI a.2 M,<-QX]
 rw[e1,ha,hb];have e2:v*a.2*b.2+w*b.2*a.2=(v+w)*(a.2*b.2):=by rw[Int.add_mul,QX v,QX w,RI b.2 a.2]
 rw[e2,<-QX,RI y (v+w)]
theorem qa.lowM{t b:Int}(h:0<b):qa (L2.lowM t b):=by obtain⟨d,_,_,_,_,h5⟩:=jB (t:=t) (b:=b) ↥0;exact⟨h5,qR ↥0⟩
theorem qa.pl{a b:Fr}(pa:0<a.2)(pb:0<b.2):qa (pl a b):=qa.lowM (Rx pa pb)
theorem qa.uniq{M v:Int}{a b:Fr}(hM:0<M)(ha:qa a)(hb:qa b)(va:Vl M a v)(vb:Vl M b v):a=b:=by
 unfold Vl at*;have cr:a.1*b.2=b.1*a.2:=by refine Vg (a:=M) ↥0 ?_;rw[show a.1*b.2*M=a.1*M*b.2 by rw[QX,RI b.2,<-QX],va,show b.1*a.2*M=b.1*M*a.2 by rw[QX,RI a.2,<-QX],vb,QX,QX,RI a.2]
 have pa:=ha.pos;have pb:=hb.pos;have d1:a.2.natAbs∣b.2.natAbs:=by
  have dv:a.2.natAbs∣(a.1*b.2).natAbs:=Vh.mpr ⟨b.1,by rw[cr,RI]⟩;rw[UV]at dv;have cp:Ue a.2.natAbs a.1.natAbs:=by have:Nat.gcd a.1.natAbs a.2.natAbs=1:=ha.cop;rw[Ue,Nat.gcd_comm];exact this
  exact cp.dvd_of_dvd_mul_left dv
 have d2:b.2.natAbs∣a.2.natAbs:=by
  have dv:b.2.natAbs∣(b.1*a.2).natAbs:=Vh.mpr ⟨a.1,by rw[<-cr,RI]⟩;rw[UV]at dv;have cp:Ue b.2.natAbs b.1.natAbs:=by have:Nat.gcd b.1.natAbs b.2.natAbs=1:=hb.cop;rw[Ue,Nat.gcd_comm];exact this
  exact cp.dvd_of_dvd_mul_left dv
 have e2:a.2=b.2:=by have:=Nat.dvd_antisymm d1 d2;lia
 have e1:a.1=b.1:=by rw[e2]at cr;exact Vg ↥0 cr
 exact Prod.ext e1 e2
def bM(a:Fr)(L:List Fr):Fr:=L.foldl pl a
theorem p5{M j:Int}:∀(L:List Fr){a:Fr}{i:Int},sv M i a->qa a->0<=j->(∀f∈L,sv M j f)->sv M (i+j*(L.length:Int)) (bM a L)/\qa (bM a L)/\∀v,Vl M a v->Vl M (bM a L) (v+(L.map λf=>f.1*(M/f.2)).sum)
 |[],a,i,h,hl,_,_=>⟨by simpa[bM]using h,hl,λv hv=>by simpa[bM]using hv⟩|f::r,a,i,h,hl,hj,hf=>by
  have k:=hf f ↥1;have hp:=h.plS k;obtain⟨c1,c2,c3⟩:=p5 r (a:=pl a f) hp (qa.pl h.pos k.pos) hj λx hx=>hf x (by simp[hx]);refine⟨?_,c2,λv hv=>?_⟩
  ·have e:i+j*((f::r).length:Int)=i+j+j*(r.length:Int):=by simp only[Rk,Int.natCast_add,Int.natCast_one,Int.mul_add,Int.mul_one];lia
   rw[e];exact c1
  ·have:=c3 _ (hv.pl (Vl.of k) h.pos k.pos);simp only[QB,UE];rw[Int.add_assoc]at this;exact this
theorem D3{a b:List Int}(h:a.Perm b):a.sum=b.sum:=by induction h with|nil=>rfl|cons x _ ih=>simp only[UE,ih]|swap x y l=>simp only[UE];lia|trans _ _ h1 h2=>rw[h1,h2]
theorem vG:qa ((0,1):Fr):=⟨by decide,by decide⟩
theorem ug{M j:Int}{L L':List Fr}(hM:0<M)(hj:0<=j)(h:L.Perm L')(hf:∀f∈L,sv M j f):bM (0,1) L=bM (0,1) L':=by
 obtain⟨_,l1,v1⟩:=p5 (M:=M) L (a:=(0,1)) (i:=0) (y4 (Int.le_refl 0)) vG hj hf;obtain⟨_,l2,v2⟩:=p5 (M:=M) L' (a:=(0,1)) (i:=0) (y4 (Int.le_refl 0)) vG hj (λf hf'=>hf f (h.mem_iff.mpr hf'));have z:Vl M ((0,1):Fr) 0:=by unfold Vl;simp
 have w1:=v1 0 z;have w2:=v2 0 z;rw[D3 (h.map λf:Fr=>f.1*(M/f.2))]at w1;exact qa.uniq hM l1 l2 w1 w2
def bv:Nat->List (List Bool)|0=>[[]]|n+1=>(bv n).flatMap λr=>[r++[true],r++[false]]
def aP:Nat->List (List Bool)|0=>[[]]|n+1=>(aP n).map (·++[true])++(aP n).map (·++[false])
theorem wg{α β:Type}(f g:α->β):∀(l:List α),(l.flatMap λx=>[f x,g x]).Perm (l.map f++l.map g)|[]=>.refl _|x::r=>by simp only[List.flatMap_cons,QB,Su,QI];refine List.Perm.cons _ ?_;refine((wg f g r).cons _).trans ?_;exact(List.perm_middle (a:=g x) (l₁:=r.map f) (l₂:=r.map g)).symm
theorem iu:∀n,(bv n).Perm (aP n)|0=>.refl _|n+1=>by unfold bv aP;exact(wg _ _ _).trans (((iu n).map _).append ((iu n).map _))
theorem fQ:∀n,(aP n).length=2^n/\∀r∈aP n,r.length=n|0=>⟨rfl,λr hr=>by simp[aP]at hr;subst hr;rfl⟩|n+1=>by obtain⟨h1,h2⟩:=fQ n;refine⟨by simp only[aP,RN,Qz,h1,Nat.pow_succ];lia,λr hr=>?_⟩;simp only[aP,RK,Tu]at hr;rcases hr with⟨q,hq,rfl⟩|⟨q,hq,rfl⟩<;>simp[h2 q hq]
theorem jH(n:Nat):(bv n).length=2^n/\∀r∈bv n,r.length=n:=by obtain⟨h1,h2⟩:=fQ n;exact⟨by rw[(iu n).length_eq,h1],λr hr=>h2 r ((iu n).mem_iff.mp hr)⟩
def qo(t:gf)(b:Bool):Fr:=if b then(t.top,t.bot) else(t.bot-t.top,t.bot)
def m_:Fr->List gf->List Bool->Fr|a,t::ts,b::bs=>m_ (tm a (qo t b)) ts bs|a,_,_=>a
theorem uu{n:Int}{t:gf}(o:t.Ok n)(b:Bool):xY t.bot (qo t b):=by have:=o.c0;have:=o.c1;have:=o.b0;unfold qo;cases b with|true=>exact⟨by show 0<t.bot;lia,by show 0<=t.top;lia,by show t.top<=t.bot;lia,UF _⟩|false=>exact⟨by show 0<t.bot;lia,by show 0<=t.bot-t.top;lia,by show t.bot-t.top<=t.bot;lia,UF _⟩
def qT(M:Int)(ts:List gf):Int:=ts.foldl (λm t=>m*t.bot) M
theorem wR{n:Int}:∀{ts:List gf}{M:Int}{k:Nat},(∀t∈ts,t.Ok n)->0<M->Bt k M->0<qT M ts/\Bt (k+7*ts.length) (qT M ts)
 |[],M,k,_,h0,hb=>⟨h0,by simpa[qT]using hb⟩|t::r,M,k,h,h0,hb=>by
  have o:=h t ↥1;have b0:=o.b0;have b1:=o.b1;have:=wR (ts:=r) (M:=M*t.bot) (k:=k+7) (λx hx=>h x (by simp[hx])) (Rx h0 ↥0) (hb.mul (show Bt 7 t.bot by unfold Bt;lia));refine⟨this.1,?_⟩;have e:k+7*(t::r).length=k+7+7*r.length:=by simp only[Rk];lia
  rw[e];exact this.2
theorem vg{n:Int}:∀{ts:List gf}{bs:List Bool}{M:Int}{a:Fr},(∀t∈ts,t.Ok n)->bs.length=ts.length->xY M a->xY (qT M ts) (m_ a ts bs)|[],[],M,a,_,_,h=>h|t::ts,b::bs,M,a,ho,hl,h=>by show xY (qT (M*t.bot) ts) (m_ (tm a (qo t b)) ts bs);exact vg (λx hx=>ho x (by simp[hx])) (by simpa using hl) (h.tm (uu (ho t ↥1) b))|[],_::_,_,_,_,hl,_=>by simp at hl|_::_,[],_,_,_,hl,_=>by simp at hl
abbrev Pg:=List Int×Int
structure Mg (k:Nat) (ps:List Pg):Prop where
 ne:ps≠[]len:ps.length<=2^k
 pt:∀p∈ps,p.1.length<=2*k/\0<=p.2/\p.2<=1000*(k:Int)
section
variable{prog:Qn}{w:Qk}{A:Qr}{E:Qd->Qf->Prop}{s:Qf}
end
section
variable{X:Cx}{a:Qh}{ta:TA}{p p2 pos pos2:Pos}
variable{K:⇑0}{fs:FA}{p3:Pos}
end
def J5(lo hi:Int):Qg->Bool|.int i=>decide (lo<=i)&&decide (i<=hi)|_=>false
def uniq(many:Int):List Int->List Qg->Bool|_,[]=>true|pre,.int i::r=>J5 0 (many-1) (.int i)&&(!pre.contains i&&uniq many (pre++[i]) r)|_,_::_=>false
theorem tF{g:FG}{ft:FT}{fe:FE}(P:Nat->En->Prop)(R:Qg->Prop):∀(items:List Qg) (k:Nat) (e:En) (acc:List Qg),(∀i x e,items[i]?=some x->P (k+i) e->∃e1 r d e2,g x e=some e1/\ft e1=some (true,e1)/\fe e1=some (r,e2)/\mM r=some d/\R d/\P (k+i+1) e2)->P k e->acc.length+items.length<=1000000->∃out e',dh g ft fe items e acc=some (acc++out,e')/\out.length=items.length/\(∀d∈out,R d)/\P (k+items.length) e'
 |[],k,e,acc,_,h,_=>⟨[],e,by simp[dh],rfl,(λ_ h=>by cases h),h⟩|x::r,k,e,acc,hs,h,hl=>by
  obtain⟨e1,v,d,e2,h1,h2,h3,h3',h4,h5⟩:=hs 0 x e rfl h;simp only[Rk]at hl;obtain⟨out,e',h6,h7,h8,h9⟩:=tF P R r (k+1) e2 (acc++[d]) (λi y e hy hp=>by have:=hs (i+1) y e (by simpa using hy) (by rw[show k+(i+1)=k+1+i by lia];exact hp);rw[show k+(i+1)+1=k+1+i+1 by lia]at this;exact this) (by simpa using h5) ↥7;refine⟨d::out,e',?_,by simp[h7],λy hy=>?_,by rw[Rk,show k+(r.length+1)=k+1+r.length by lia];exact h9⟩;·unfold dh;simp only[h1,h2,h3,h3',QC,if_true];rw[if_pos ↥0,h6];simp
  ·rcases Qb hy with rfl|hy;·exact h4
   ·exact h8 y hy
theorem Bq{cp:List (Nat×Str)}{nT:Nat}{fi:FI}{g:FG}{ft:FT}{fe:FE}{e e1 eo:En}{items out:List Qg}(h1:fi e=some (items,[],e1))(h3:dh g ft fe items (mi cp nT e1) []=some (out,eo))(hb:iz cp eo e1=true):bj cp nT fi g ft fe e=some (.l out,mB (lU cp) eo e1):=by unfold bj;rw[h1];simp only[QC,List.all_nil,if_true,h3];rw[if_pos hb]
mutual
def wt:Qg->Nat|.list xs=>Eh xs+1|.tuple xs=>Eh xs+1|.dict _=>1|.none=>1|.bool _=>1|.int _=>1|.str _=>1
def Eh:List Qg->Nat|[]=>0|x::r=>wt x+Eh r
end
structure MP (d:Qg) (k:Nat):Prop where
 lay:d.canLay0=true
 sh:d.showable=true
 dp:d.depth<=k
 ln:d.shown.length+2<=104*wt d
 so:RC d.shown=true
theorem B_{e:En}{a b c d:Int}:eh false e (.d (.tuple [.int a,.int b])) (.d (.tuple [.int c,.int d]))=some (.d (.bool (a==c&&b==d))):=by
 unfold eh;have h0:∀x y:Int,Ru (.tuple [.int x,.int y])=true:=λx y=>by simp[Ru,RB,RZ,Ro,RT]
 simp only[l4,QC,h0,TZ,if_true];simp[RU,UD]
section
variable{X:Cx}{K:⇑0}
variable{a b:Qh}{fa fb:FE}{pos:Pos}
end
def tx(s:Str):List Nat:=s.cps.toList
section
variable{X:Cx}{K:⇑0}{es:List Qh}{k0:Nat}{tp:Pos}{a b:Qh}{fs:FA}{p pos:Pos}
def tM(fs:FA):FI:=λe=>(fs e).bind λp=>match p.1 with|[.d (.tuple xs),.d (.tuple ys)]=>some (gP xs ys,[],p.2)|_=>none
end
def MI(x:Nd)(b:Bool):Int:=if b=true then x.yes else x.no
def He(T:List Nd)(i:Nat)(b:Bool):Int:=match T[i]? with|some x=>MI x b|none=>-1
def Lv(T:List Nd):Prop:=∀(i j:Nat) (a b:Bool),He T i a=He T j b->He T i a≠-1->i=j/\a=b
def Ma(w:Wt):Int×Int:=(w.par,w.side)
structure MS (T:List Nd) (ws:List Wt):Prop where
 unq:Lv T
 rng:∀i a,He T i a=-1\/(0<He T i a/\He T i a<(T.length:Int))free:∀w∈ws,w.par=-1\/(0<=w.par/\w.par<(T.length:Int)/\He T w.par.toNat (w.side==0)=-1)dst:(ws.map Ma).Nodup
 side:∀w∈ws,w.side=0\/w.side=1
structure MV (T:List Nd) (w0 ws order:List Int):Prop where
 nd:(order++ws).Nodup
 par:∀v∈order++ws,v=0\/∃u∈order,∃b,He T u.toNat b=v/\v≠-1
 fst:(order=[]/\ws=w0)\/order[0]?=some 0
section
variable{prog:Qn}{w:Qk}{A:Qr}{E:Qd->Qf->Prop}{s:Qf}
end
section
variable{X:Cx}{tg a:Qh}{ta:TA}{p pos:Pos}
end
section
variable{X:Cx}{K:⇑0}{σ:L2.St}{tg a:Qh}{fs:FA}{p pos:Pos}
end
section
variable{X:Cx}{a k:Qh}{p2 pos:Pos}{fa fk:FE}{K:⇑0}
section
variable{prog:Qn}{w:Qk}{A:Qr}{E:Qd->Qf->Prop}{s:Qf}
end
end
section
variable{X:Cx}{a b:Qh}{ta:TA}{p p2 pos pos2:Pos}{K:⇑0}{fs:FA}
end
section
variable{X:Cx}{o i e:Qh}{fo fi:FE}{tpos pos:Pos}{K:⇑0}
end
section
variable{X:Cx}{K:⇑0}
end
section
open PySem.MeetsSeq2 PySem.AutoSeq1 PySem.SeqAt
end
section
variable{X:Cx}{K:⇑0}{o a:Qh}{to te:TE}{name:Str}{apos cpos:Pos}{T id:String}{r:V->List V->Hp->VK->Prop}{fo fa:FE}
end
section
variable{X:Cx}{K:⇑0}{o a:Qh}{apos cpos:Pos}{fo fa:FE}
end
section
variable{K:⇑0}{F H:Hp}{σ:L2.St}{e:En}{cp:List (Nat×Str)}{nT:Nat}
end
section
variable{X:Cx}{K:⇑0}{a b:Qh}{es:List Qh}{fa fb:FE}{fs:FA}{pos p p2 p3:Pos}{lo hi:Option Qh}
end
section
variable{X:Cx}{K:⇑0}
end
section
variable{X:Cx}{K:⇑0}{a b:Qh}{fa fb:FE}{pos:Pos}
end
section
variable{X:Cx}{K:⇑0}
end
structure Sw (b:Bool) (n dep:Nat) (d:Qg):Prop where
 dl:bif b then mr d=true else d.hasDict=false
 sh:d.showable=true
 dp:d.depth<=dep
 ln:d.shown.length+2<=n
 so:RC d.shown=true
structure S1 (n:Nat) (f:Fr):Prop where
 low:qa f
 lo:0<=f.1
 hi:f.1<=f.2
 bt:Bt n f.2
def MH(e:Int)(t:gf):Bool:=t.one==e||t.other==e
structure MW (b f g:Fr):Prop where
 pf:0<f.2
 pg:0<g.2
 eq:g.1*(f.2*b.1)=g.2*(f.1*b.2)
def vR(f:Fr):Rat:=(f.1:Rat)/(f.2:Rat)
theorem lA{b:Int}(h:0<b):(b:Rat)≠0:=λe=>by
 have:b=0:=by exact_mod_cast e
 lia
theorem JB{t b:Int}(hb:0<b):vR (lowM t b)=(t:Rat)/(b:Rat):=by
 have c:=qQ (t:=t) (b:=b) (Int.ne_of_gt hb);have p:=(qa.lowM (t:=t) hb).pos;have c':((lowM t b).1:Rat)*(b:Rat)=((lowM t b).2:Rat)*(t:Rat):=by exact_mod_cast c
 have h1:=lA hb;have h2:=lA p;unfold vR;generalize ((lowM t b).1:Rat)=x at*;generalize ((lowM t b).2:Rat)=y at*;generalize (b:Rat)=z at*;generalize (t:Rat)=w at*;grind
theorem xS{a b:Fr}(ha:0<a.2)(hb:0<b.2):vR (tm a b)=vR a*vR b:=by have h:=JB (t:=a.1*b.1) (Rx ha hb);have h1:=lA ha;have h2:=lA hb;change vR (tm a b)=_ at h;rw[h];unfold vR;rw[Rat.intCast_mul,Rat.intCast_mul];generalize (a.1:Rat)=x at*;generalize (a.2:Rat)=y at*;generalize (b.1:Rat)=z at*;generalize (b.2:Rat)=w at*;grind
theorem Ef{a b:Fr}(ha:qa a)(hb:qa b)(h:vR a=vR b):a=b:=by
 have h1:=lA ha.pos;have h2:=lA hb.pos;have c:(b.1:Rat)*(a.2:Rat)=(a.1:Rat)*(b.2:Rat):=by unfold vR at h;generalize (a.1:Rat)=x at*;generalize (a.2:Rat)=y at*;generalize (b.1:Rat)=z at*;generalize (b.2:Rat)=w at*;grind
 have c':b.1*a.2=a.1*b.2:=by exact_mod_cast c
 exact qa.uniq (M:=a.2) (v:=a.1) ha.pos ha hb rfl c'
theorem L_:vR (1,1)=1:=by unfold vR;simp;grind
theorem EG{t:gf}(h:0<t.bot)(b:Bool):0<(qo t b).2:=by cases b<;>exact h
theorem vB{a b:Fr}(ha:0<a.2)(hb:0<b.2):0<(tm a b).2:=(qa.lowM (Rx ha hb)).pos
structure MU (O:aZ) (ss ws:List Std):Prop where
 len:ss.length=ws.length
 at':∀j,(ss.getD j ([],[])).1=(ws.getD j ([],[])).1/\(ss.getD j ([],[])).2.length<=2*(ss.getD j ([],[])).1.length/\∀k∈(ss.getD j ([],[])).1,lR O k
structure MR (O:aZ) (T:List Nd):Prop where
 tie:∀(i:Nat) (x:Nd),T[i]?=some x->lR O x.tie
 lk:∀(i:Nat) (x:Nd),T[i]?=some x->(-1<=x.yes/\x.yes<(T.length:Int))/\(-1<=x.no/\x.no<(T.length:Int))
section
variable{K:⇑0}
variable{X:Cx}{σ:L2.St}{H0 H:Hp}{e:En}
end
section
variable{X:Cx}{a b:Qh}{ta:TA}{p p2 pos pos2:Pos}
end
section
variable{X:Cx}{K:⇑0}{fs:FA}{a b:Qh}{p p2 pos pos2:Pos}
end
theorem bW:∀(names:List (Str×RH)) (n:Nat) (acc:List (Str×Qe)),QM n names acc=QM n names []++acc
 |[],_,_=>rfl|(x,k)::r,n,acc=>by
  unfold QM;split;·rw[bW r (n+1) ((x,n)::acc),bW r (n+1) [(x,n)],SQ];rfl
  ·exact bW r n acc
theorem jZ:∀(names:List (Str×RH)) (n:Nat) (x:Str) (c:Qe),(QM n names []).lookup x=some c->∃y∈names,y.1=x/\y.2=.cell
 |[],_,_,_,h=>by simp[QM]at h|(z,k)::r,n,x,c,h=>by
  unfold QM at h;split at h;·rename_i hk;rw[bW,UG]at h;cases q:(QM (n+1) r []).lookup x with|some d=>obtain⟨y,hy,e⟩:=jZ r _ x d q;exact⟨y,Sm _ hy,e⟩|none=>rw[q]at h;have h':Uy x [(z,n)]=some c:=h;rw[SG]at h';cases hx:x==z with|true=>exact⟨(z,k),SY,(by simpa using hx:x=z).symm,by simpa using hk⟩|false=>rw[hx]at h';simp at h'
  ·obtain⟨y,hy,e⟩:=jZ r n x c h;exact⟨y,Sm _ hy,e⟩
theorem jg:∀(names:List (Str×RH)) (n:Nat) (x:Str),(∃y∈names,y.1=x/\y.2=.cell)->∃c,(QM n names []).lookup x=some c
 |[],_,_,⟨_,h,_⟩=>by cases h|(z,k)::r,n,x,⟨y,hy,e1,e2⟩=>by
  unfold QM;split;·rename_i hk;rw[bW,UG];cases q:(QM (n+1) r []).lookup x with|some d=>exact⟨d,rfl⟩|none=>
   rcases Qb hy with w|w;·subst w;subst e1;exact⟨n,by simp[SG]⟩
   ·obtain⟨c,hc⟩:=jg r (n+1) x ⟨y,w,e1,e2⟩;rw[q]at hc;cases hc
  ·rename_i hk;rcases Qb hy with w|w;·subst w;exact absurd (by simpa using e2) hk
   ·exact jg r n x ⟨y,w,e1,e2⟩
theorem tu{env:Env}:∀(names:List (Str×RH)) (cs:List (Str×Qe)) (x:Str),(¬∃y∈names,y.1=x/\y.2=.free)->cs.lookup x=none->(jh env names cs).lookup x=none
 |[],_,_,_,h=>h|(n,k)::r,cs,x,hn,hcs=>by
  refine tu r _ x (λ⟨y,hy,z⟩=>hn ⟨y,Sm _ hy,z⟩) ?_;by_cases hk:(k==RS)=true;·rw[if_pos hk,SG];cases hx:x==n with|true=>exact absurd ⟨(n,k),SY,(by simpa using hx:x=n).symm,by simpa using hk⟩ hn|false=>exact hcs
  ·rw[if_neg hk];exact hcs
theorem rK{env:Env}:∀{names:List (Str×RH)}{x:Str},(names.map fun(n,k)=>if (k==RS&&env.scope.kind==.function&&env.kindOf n==some .cell) then(n,TK) else(n,k)).lookup x=some .cell\/(names.map fun(n,k)=>if (k==RS&&env.scope.kind==.function&&env.kindOf n==some .cell) then(n,TK) else(n,k)).lookup x=some .free->∃y∈names,y.1=x/\(y.2=.free\/y.2=.cell)
 |[],x,h=>by simp at h|(n,k)::r,x,h=>by
  have ih:=@rK env r x;rw[QB]at h;cases hx:x==n with|true=>
   have e1:x=n:=by simpa using hx
   subst e1;refine⟨(x,k),SY,rfl,?_⟩;by_cases q:(k==RS&&env.scope.kind==.function&&env.kindOf x==some .cell)=true;·simp only[QU,beq_iff_eq]at q;exact .inl q.1.1
   ·simp only[q,UX,if_false,SG,beq_self_eq_true,Tw]at h;exact h.symm|false=>
   have e2:∀(l:List (Str×RH)),((if (k==RS&&env.scope.kind==.function&&env.kindOf n==some .cell)=true then(n,TK) else(n,k))::l).lookup x=l.lookup x:=λl=>by split<;>simp[SG,hx]
   simp only[e2]at h;obtain⟨y,hy,z⟩:=ih h;exact⟨y,Sm _ hy,z⟩
theorem vc{M:Model}{A:Qr}{E:Qd->Qf->Prop}{s:Qf}{scope:Qx}{globals:Qe}{closure:List (Str×Qe)}{qual:Str}{func:Option Qe}{code:Qd}{env:Env}{builtins:Qe}{Q:Env->Qf->Prop}(hQ:∀h',h'.Ns ↑s (λ_=>none)->(∀b o,s.heap.get? b=some o->h'.get? b=some o)->(∀n c,(QM (↑s+1) scope.names []).lookup n=some c->h'.IsCell c none/\↑s+1<=c)->((QM (↑s+1) scope.names []).Pairwise λx y=>x.2≠y.2)->Q (newEnv scope ↑s globals (QM (↑s+1) scope.names closure) qual func code (some env) builtins) {s with heap:=h'}):Qj M A (newFunctionEnv scope globals closure [] qual func code (some env) builtins) Q E s:=by simp only[newFunctionEnv,Option.isSome_some,if_true];refine Qi (wpAny_alloc ?_);refine Qi (wpAny_layCells _ (λname kind cells=>by cases hkc:kind==TK<;>simp[hkc]) _ _ _ _ ?_);have ok:=cellsFrom_ok scope.names (s.heap.push {cls:=.type "dict",data:=.dict #[]}) (↑s+1) [] ⟨λ_ _ hm=>(nomatch hm),List.Pairwise.nil⟩ (by rw[Sl];exact RJ _);rw[Sl]at ok;rw[show({s with heap:=s.heap.push {cls:=.type "dict",data:=.dict #[]}}:Qf).heap.objs.size=↑s+1 from Sl ..];refine Qi ?_;rw[List.forIn_nil];refine Qp (Qp ?_);exact hQ _ ((Heap.Ns.new s.heap (.type "dict")).keeps (pushCells_keeps _ _)) (λb o e=>pushCells_keeps _ _ b o (QG _ e)) (λn c e=>ok.empty n c (mem_of_lookup e)) ok.apart
def ar(X:Cx)(scope:Qx)(cp:List (Nat×Str))(tgN:List Str)(C:Qe)(s0:Qf)(H0:Hp)(fp:List Qe):Cx where prog:=X.prog;w:=X.w;K:=X.K;mg:=X.mg;base:=X.base;A:=X.A;N:=cp.map (·.2)++tgN;s₀:=s0;H₀:=H0;env:=compEnvC scope (QM (C+1) scope.names (jh X.env scope.names [])) C X.env;outer:=X.stack;stack:=X.stack;ex:=fp;fn:=λx=>scope.names.lookup x==some .local||scope.names.lookup x==some .cell;calm:=X.calm;pn:=[];xe:=λ_ _=>False
theorem nP{X:Cx}{scope:Qx}{sc0:Qx}{N0:List Str}{cp:List (Nat×Str)}{tgN:List Str}{pins:List (Qe×Obj)}{σ:L2.St}{H3:Hp}{s₃:Qf}{C:Qe}{h₁:Qm}{fp:List Qe}(hsc:X.env.scope=sc0)(hN0:X.N=N0)(hk:scope.kind=.function)(hown:∀y∈scope.names,y.2=.cell->scope.names.lookup y.1=some .cell)(hfr:∀y∈scope.names,y.2=.free->scope.names.lookup y.1=some .free/\sc0.names.lookup y.1=some .cell)(hcp:∀p∈cp,N0[p.1]?=some p.2)(hcq:∀p∈cp,sc0.names.lookup p.2=some .cell/\scope.names.lookup p.2=some .free)(I3:aJ X pins σ H3 s₃)(f3:∀b∈fp,gR X pins H3 b)(hob:∀b∈fp,∃o,s₃.heap.get? b=some o)(hC:↑s₃=C)(hns₁:h₁.Ns C (λ_=>none))(old:∀b o,s₃.heap.get? b=some o->h₁.get? b=some o)(hownC:∀n c,(QM (C+1) scope.names []).lookup n=some c->h₁.IsCell c none/\C+1<=c)(apC:(QM (C+1) scope.names []).Pairwise λx y=>x.2≠y.2):(ar X scope cp tgN C s₃ H3 fp).Ok/\aJ (ar X scope cp tgN C s₃ H3 fp) [] (fB cp tgN.length σ) H3 {s₃ with heap:=h₁}:=by
 have hkind:∀x,X.env.kindOf x=sc0.names.lookup x:=λx=>by unfold Env.kindOf;rw[hsc]
 have hfree:∀y∈scope.names,y.2=.free->∃c,X.env.cells.lookup y.1=some c:=λy hy e=>I3.ok.has y.1 (.inl (by rw[hkind];exact(hfr y hy e).2));have nC:∀b o,s₃.heap.get? b=some o->b≠C:=λb o e=>by rw[<-hC];exact Rg (QA e)
 have hHC:H3 C=none:=I3.hok.fresh (by rw[hC];exact RJ _);have clS:∀x c,(jh X.env scope.names []).lookup x=some c->X.env.cells.lookup x=some c:=λx c e=>qq _ _ x c hfree (λ_ _ z=>by simp at z) e;have clH:∀x,(∃y∈scope.names,y.1=x/\y.2=.free)->∃c,(jh X.env scope.names []).lookup x=some c:=λx e=>vV _ _ x (.inl e);have clN:∀x,(¬∃y∈scope.names,y.1=x/\y.2=.free)->(jh X.env scope.names []).lookup x=none:=λx q=>tu _ _ x q rfl;have two:∀x c,(QM (C+1) scope.names (jh X.env scope.names [])).lookup x=some c->(QM (C+1) scope.names []).lookup x=some c\/(jh X.env scope.names []).lookup x=some c:=λx c e=>by rw[bW,UG]at e;cases q:(QM (C+1) scope.names []).lookup x with|some d=>rw[q]at e;exact .inl e|none=>rw[q]at e;exact .inr e
 have ltC:∀x c,(jh X.env scope.names []).lookup x=some c->c<C:=λx c e=>by obtain⟨v,o,ho,_⟩:=I3.cell x c (clS x c e);rw[<-hC];exact QA ho
 have clF:∀x,(∃y∈scope.names,y.1=x/\y.2=.free)->(QM (C+1) scope.names (jh X.env scope.names [])).lookup x=(jh X.env scope.names []).lookup x:=λx⟨y,hy,e1,e2⟩=>by rw[bW,UG];cases q:(QM (C+1) scope.names []).lookup x with|none=>rfl|some d=>exfalso;obtain⟨z,hz,z1,z2⟩:=jZ scope.names _ x d q;have a1:=hown z hz z2;have a2:=(hfr y hy e2).1;rw[z1]at a1;rw[e1,a1]at a2;cases a2
 have hasC:∀x,(∃y∈scope.names,y.1=x/\(y.2=.free\/y.2=.cell))->∃c,(QM (C+1) scope.names (jh X.env scope.names [])).lookup x=some c:=λx⟨y,hy,e1,e2⟩=>by
  rcases e2 with e2|e2;·rw[clF x ⟨y,hy,e1,e2⟩];exact clH x ⟨y,hy,e1,e2⟩
  ·rw[bW,UG];obtain⟨c,hc⟩:=jg scope.names (C+1) x ⟨y,hy,e1,e2⟩;exact⟨c,by rw[hc];rfl⟩
 have ok':(ar X scope cp tgN C s₃ H3 fp).Ok:=by
  refine⟨I3.ok.mod,hk,I3.ok.glob,I3.ok.blt,by rw[<-hC];exact RJ _,λx y c e1 e2=>?_,λx e=>hasC x (rK e),λx c e1 e2=>?_,I3.ok.hd,I3.ok.frames,.inl rfl,λb hb=>?_,λb o e=>I3.bs b o e,?_,λb o e hb=>?_,λb hb z=>?_,I3.stack,λb hb=>I3.stkFree b hb⟩
  ·rcases two x c e1 with e1|e1<;>rcases two y c e2 with e2|e2;·exact name_of_addr apC (mem_of_lookup e1) (mem_of_lookup e2)
   ·exact(SK _ (Uw (ltC y c e2) (hownC x c e1).2)).elim
   ·exact(SK _ (Uw (ltC x c e1) (hownC y c e2).2)).elim
   ·exact I3.ok.inj x y c (clS _ _ e1) (clS _ _ e2)
  ·rcases two x c e2 with e2|e2;·show↑s₃<=c;rw[hC];exact Nat.le_of_succ_le (hownC x c e2).2
   ·exfalso;have e1':scope.names.lookup x=some .local\/scope.names.lookup x=some .cell:=by simpa[ar]using e1
    by_cases q:∃y∈scope.names,y.1=x/\y.2=.free;·obtain⟨y,hy,y1,y2⟩:=q;have z:=(hfr y hy y2).1;rw[y1]at z;rcases e1' with w|w<;>(rw[z]at w;cases w)
    ·rw[clN x q]at e2;cases e2
  ·obtain⟨f0,f1,f4,f5,f6,f7⟩:=f3 b hb;obtain⟨o,ho⟩:=hob b hb;exact⟨nC b o ho,λx c e=>(two x c e).elim (λe z=>absurd (hownC x c e).2 (by rw[z,<-hC];exact Nat.not_le.mpr (Nat.lt_succ_of_lt (QA ho)))) (λe=>f6 x c (clS x c e))⟩
  ·exact QP I3.ok.bsz I3.sz
  ·obtain⟨f0,f1,f4,f5,f6,f7⟩:=f3 b hb;rcases f5 with z|z;·exact I3.ok.noex b o e z
   ·have:=(I3.ok.bs b o e).1;exact absurd (Rr (QA this) z) (SK _)
  ·obtain⟨f0,f1,f4,f5,f6,f7⟩:=f3 b hb;rcases Qb (I3.stkSub b z) with z|z;·exact f1 z
   ·exact f4 z
 have I4:aJ (ar X scope cp tgN C s₃ H3 fp) [] (fB cp tgN.length σ) H3 {s₃ with heap:=h₁}:=by
  refine⟨ok',rfl,I3.bare,Un.kept old,⟨_,hns₁,λi x v e1 e2 e3=>?_⟩,λx c e=>?_,hHC,λx c e=>(two x c e).elim (λe=>I3.hok.fresh (by rw[hC];exact Nat.le_of_succ_le (hownC x c e).2)) (λe=>I3.freeC x c (clS x c e)),λp hp=>by simp[ar]at hp,I3.hok.kept old,by simp[fB,ar]⟩
  ·have hlt:i<cp.length:=by
    by_cases q:i<cp.length;·exact q
    ·exfalso;unfold fB at e2;rw[UQ ↥7]at e2;rw[Vu]at e2;split at e2<;>cases e2
   have e1':(cp.map (·.2))[i]?=some x:=by have e1'':(cp.map (·.2)++tgN)[i]?=some x:=e1;rwa[Sr (by simp;exact hlt)]at e1''
   have e2':(cp.map (λp=>(σ[p.1]?).join))[i]?=some (some v):=by unfold fB at e2;rwa[Sr (by simp;exact hlt)]at e2
   rw[QD,QR hlt]at e1' e2';have ex:(cp[i]).2=x:=by simpa using e1'
   have ev:(σ[(cp[i]).1]?).join=some v:=by simpa using e2'
   have ev':σ[(cp[i]).1]?=some (some v):=by cases q:σ[(cp[i]).1]? with|none=>rw[q]at ev;cases ev|some z=>rw[q]at ev;simp only[Option.join_some]at ev;rw[ev]
   have hN:=hcp cp[i] (Ve hlt);rw[<-hN0]at hN;obtain⟨hcl,hcf⟩:=hcq cp[i] (Ve hlt);rw[ex]at hN hcl hcf;obtain⟨m,hn,hl⟩:=I3.loc;obtain⟨u,r,l⟩:=hl _ x v hN ev' (.inr (.inl (by rw[hsc];exact hcl)));refine⟨u,r,.inr ?_⟩;rcases l with⟨k1,_⟩|⟨k1,c,hcc,o,ho,hd⟩;·rw[hkind,hcl]at k1;cases k1
   ·have e3':(relabel scope X.env).names.lookup x=some .local\/(relabel scope X.env).names.lookup x=some .cell\/(relabel scope X.env).names.lookup x=some .free:=e3;have nl:(relabel scope X.env).names.lookup x=some .cell\/(relabel scope X.env).names.lookup x=some .free:=by
     rcases e3' with z|z|z;·exact absurd z (ko hcf)
     ·exact .inl z
     ·exact .inr z
    have fr:∃y∈scope.names,y.1=x/\y.2=.free:=⟨(x,.free),mem_of_lookup hcf,rfl,rfl⟩;obtain⟨c',hc'⟩:=clH x fr;have:=clS x c' hc';rw[hcc]at this;cases this;exact⟨nl,c,(clF x fr).trans hc',o,old c o ho,hd⟩
  ·rcases two x c e with e|e;·exact⟨none,(hownC x c e).1⟩
   ·obtain⟨v,o,ho,hd⟩:=I3.cell x c (clS x c e);exact⟨v,o,old c o ho,hd⟩
 exact⟨ok',I4⟩
theorem nQ{X:Cx}{scope:Qx}{cp:List (Nat×Str)}{tgN:List Str}{pins:List (Qe×Obj)}{σ σ5:L2.St}{H3 H5:Hp}{s₃ s6:Qf}{C:Qe}{fp:List Qe}(I3:aJ X pins σ H3 s₃)(f3:∀b∈fp,gR X pins H3 b)(nC:∀b o,s₃.heap.get? b=some o->b≠C)(I6:aJ (ar X scope cp tgN C s₃ H3 fp) [] σ5 H5 s6)(h':Qm)(sb:SZ C s6.heap h'):aJ X pins σ H5 {s6 with heap:=h'}:=by
 have ub:=I6.base;have kp:∀b u,b≠C->s6.heap.get? b=some u->h'.get? b=some u:=λb u ne e=>sb.extBut b u ne e;have nit:∀b u,H5 b=some u->b≠C:=λb u e z=>by have:=I6.free;rw[z]at e;rw[show H5 C=none from this]at e;cases e
 refine I3.call' (s':={s6 with heap:=h'}) (ch:=fp) I6.os ⟨λb o e n hb hx=>kp b o (nC b o e) (ub.keep b o e n hb hx),λb o e n hb hx=>?_,ub.free,λb o e hx=>?_,ub.tups,ub.frzs,ub.tbls⟩ (λb u e=>?_) I6.bare (λb hb=>?_);·obtain⟨sl,q⟩:=ub.slot b o e n hb hx;exact⟨sl,kp b _ (nC b o e) q⟩
 ·obtain⟨o',q⟩:=ub.there b o e hx;exact⟨o',kp b _ (nC b o e) q⟩
 ·refine(I6.hok b u e).stay (λc v hc q=>kp c v ?_ q) (λ_ q=>q) λ_ _ q=>q;rcases hc with z|z;·rw[z];exact nit b u e
  ·exact nit c _ z
 ·obtain⟨f0,f1,f4,f5,f6,f7⟩:=f3 b hb;exact⟨f5,f1,f6,f7⟩
theorem v_{X:Cx}{use:Option (Qd->Sem Unit)}{RR:Qd->Qf->Prop}{pins:List (Qe×Obj)}{s:Qf}{σ:L2.St}{H:Hp}{Q:VK}{elt iter tg:Qh}{ifs:List Qh}{scope:Qx}{pos:Pos}{wi:TI}{g:TG}{tc:TT}{te:TE}(sc0:Qx)(N0:List Str)(cp:List (Nat×Str))(tgN:List Str)(hc:X.calm=true)(hsc:X.env.scope=sc0)(hN0:X.N=N0)(hi:PI X tg iter wi)(hg:∀C s0 H0 fp,PG (ar X scope cp tgN C s0 H0 fp) tg g)(ht:∀C s0 H0 fp,si (ar X scope cp tgN C s0 H0 fp) ifs tc)(he:∀C s0 H0 fp,PE (ar X scope cp tgN C s0 H0 fp) elt te)(hk:scope.kind=.function)(hown:∀y∈scope.names,y.2=.cell->scope.names.lookup y.1=some .cell)(hnames:∀y∈scope.names,y.2=.local->scope.names.lookup y.1=some .local)(hfr:∀y∈scope.names,y.2=.free->scope.names.lookup y.1=some .free/\sc0.names.lookup y.1=some .cell)(hcp:∀p∈cp,N0[p.1]?=some p.2)(hcq:∀p∈cp,sc0.names.lookup p.2=some .cell/\scope.names.lookup p.2=some .free)(hs:∀x,Rl iter X.env x=pure x)(I:aJ X pins σ H s)(h:z_ cp tgN.length wi g tc te σ H Q)(fin:∀(C D:Qe) (H5:Hp) (s6:Qf),(∃m,s6.heap.Ns C m)->Q (.ref D) H5->gR X pins H5 C->(∀h',SZ C s6.heap h'->aJ X pins σ H5 {s6 with heap:=h'})->compPost (Ql X.prog X.w) X.A X.xe use RR (.ref D) C (.ok .next) s6):Qj (Ql X.prog X.w) X.A (comprehension (.ListComp elt [⟨tg,iter,ifs,0⟩] scope pos) scope X.env (firstIterPos [⟨tg,iter,ifs,0⟩] pos) (newList []) (firstAsync [⟨tg,iter,ifs,0⟩]) (firstIter [⟨tg,iter,ifs,0⟩] X.env) use) RR X.xe s:=by
 have hkind:∀x,X.env.kindOf x=sc0.names.lookup x:=λx=>by unfold Env.kindOf;rw[hsc]
 have hfree:∀y∈scope.names,y.2=.free->∃c,X.env.cells.lookup y.1=some c:=λy hy e=>I.ok.has y.1 (.inl (by rw[hkind];exact(hfr y hy e).2));refine VM (use:=use) rfl hs (mf hfree) hk hnames (Qw (hi pins s σ H _ I h.go) (λxv s₁ h₁=>Qw h₁ (λitv s₂ h₂=>?_) λ_ _ e=>e) λ_ _ e=>e);obtain⟨it,fp,tn,J,H2,rfl,I2,T,st2,f2,hq⟩:=h₂;refine Sd ?_;have hlF:H2 ↑s₂=none:=I2.hok.fresh ↥8;have I3:aJ X pins σ (bz H2 ↑s₂ (.lst [])) {s₂ with heap:=s₂.heap.push {cls:=.type "list",data:=.seq ([]:List Qd).toArray}}:=I2.lnew (t':=s₂.toks) .nil (Ss _);obtain⟨W,⟨m0,w0⟩,turn⟩:=hq _ hlF;have f3:∀b∈fp,gR X pins (bz H2 ↑s₂ (.lst [])) b:=λb hb=>by obtain⟨f0,fr⟩:=f2 b hb;obtain⟨o,ho,_⟩:=T.obj _ _ st2 b hb;exact⟨by rw[aA (Rg (QA ho))];exact f0,fr⟩
 have st3:tn 0 (s₂.heap.push {cls:=.type "list",data:=.seq ([]:List Qd).toArray}):=T.keep _ _ _ st2 λb _ o e=>QG _ e;generalize hD:↑s₂=D at*;generalize hs3:({s₂ with heap:=s₂.heap.push {cls:=.type "list",data:=.seq ([]:List Qd).toArray}}:Qf)=s₃ at*;have hst3:tn 0 s₃.heap:=by rw[<-hs3];exact st3
 refine vc (λh₁ hns₁ old hownC apC=>?_);generalize hC:↑s₃=C at*;have nC:∀b o,s₃.heap.get? b=some o->b≠C:=λb o e=>by rw[<-hC];exact Rg (QA e)
 obtain⟨ok',I4⟩:=nP (cp:=cp) (tgN:=tgN) hsc hN0 hk hown hfr hcp hcq I3 f3 (λb hb=>let⟨o,e,_⟩:=T.obj _ _ hst3 b hb;⟨o,e⟩) hC hns₁ old hownC apC;have hst4:tn 0 h₁:=T.keep _ _ _ hst3 λb _ o e=>old b o e;have loop:Rh (Ql X.prog X.w) X.A (.compLoop (.ListComp elt [⟨tg,iter,ifs,0⟩] scope pos) 0 (.ref it) (.ref D) (compEnvC scope (QM (C+1) scope.names (jh X.env scope.names [])) C X.env)) (compPost (Ql X.prog X.w) X.A X.xe use RR (.ref D) C) {s₃ with heap:=h₁}:=by
  refine uw (λn s'=>∃i σ' H',aJ (ar X scope cp tgN C s₃ (bz H2 D (.lst [])) fp) [] σ' H' s'/\tn i s'.heap/\(∀b∈fp,H' b=none)/\W i n σ' H') ?_ (n0:=m0) ⟨0,_,_,I4,hst4,λb hb=>(f3 b hb).1,w0⟩;rintro n s5⟨i,σ5,H5,I5,st5,fr5,w5⟩;have stat:∀{H':Hp},(∀b∈fp,H' b=none)->∀b∈fp,gR (ar X scope cp tgN C s₃ (bz H2 D (.lst [])) fp) [] H' b:=λhn b hb=>⟨hn b hb,(ok'.exf b hb).1,ok'.exfs b hb,.inl hb,(ok'.exf b hb).2,λp hp=>by simp[ar]at hp⟩;rcases turn i n σ5 H5 w5 with⟨stop,qn⟩|⟨go,N,hN,step⟩;·refine cj (T.done (ar X scope cp tgN C s₃ (bz H2 D (.lst [])) fp) rfl rfl rfl hc i [] s5 σ5 H5 (λ_ _=>False) I5 (stat fr5) st5 stop) λr s6⟨hr,I6⟩=>?_;subst hr;refine⟨λ_=>?_,λv z=>by cases z⟩;obtain⟨m,hn,_⟩:=I6.loc;exact fin C D H5 s6 ⟨m,hn⟩ qn (I3.fpOk (by rw[hC];exact RJ _) I6.free) (nQ I3 f3 nC I6)
  ·refine cj (T.item (ar X scope cp tgN C s₃ (bz H2 D (.lst [])) fp) rfl rfl rfl hc i [] s5 σ5 H5 (λ_ _=>False) I5 (stat fr5) st5 go) λr s6⟨u,hr,h6⟩=>?_;subst hr;refine⟨λz=>(by cases z),λv z=>?_⟩;cases z;refine cj h6 λ_ s7⟨x,H7,I7,r7,y7,st7,fr7⟩=>?_;have I7':=I7.pinned (stat fr7) (T.obj _ _ st7);have QT:∀{σ8:L2.St}{H8:Hp}{s8:Qf},aJ (ar X scope cp tgN C s₃ (bz H2 D (.lst [])) fp) ([]++ka fp s7.heap) σ8 H8 s8->N σ8 H8->∃m,m<n/\∃i σ' H',aJ (ar X scope cp tgN C s₃ (bz H2 D (.lst [])) fp) [] σ' H' s8/\tn i s8.heap/\(∀b∈fp,H' b=none)/\W i m σ' H':=fun{σ8 H8 s8}I8 n8=>by obtain⟨m',hm,w8⟩:=hN σ8 H8 n8;refine⟨m',hm,i+1,σ8,H8,I8.unpinned,T.keep _ _ _ st7 λb hb o e=>(I8.pin (b,o) (QL _ (QL _ (bQ hb e)))).1,λb hb=>?_,w8⟩;obtain⟨o,e,d⟩:=T.obj _ _ st7 b hb;exact(I8.pin (b,o) (QL _ (QL _ (bQ hb e)))).2.1
   refine cj (hg C s₃ (bz H2 D (.lst [])) fp _ s7 σ5 H7 x u _ I7' r7 (step x H7 y7)) λ_ s8⟨σ8,H8,I8,q8⟩=>?_;refine cj (ht C s₃ (bz H2 D (.lst [])) fp _ s8 σ8 H8 _ I8 q8) λok s9⟨H9,I9,q9⟩=>?_;cases ok with|false=>rw[if_neg RM]at q9⊢;exact QT I9 q9|true=>rw[if_pos rfl]at q9⊢;refine cj (he C s₃ (bz H2 D (.lst [])) fp _ s9 σ8 H9 _ I9 q9) λv s10⟨xv,H10,I10,r10,ys,hl,hz,n10⟩=>?_;refine cj (jE _ s10 σ8 H10 (.ref D) [xv] (.ref D) [v] (λ_ H=>N σ8 H) I10 rfl (.cons r10 .nil) ⟨D,ys,xv,rfl,rfl,hl,hz,n10⟩) λ_ s11⟨_,H11,I11,_,q11⟩=>?_;exact QT I11 q11
 exact codeAny_compStart_list loop (T.self X.A 0 _ _ _ hst4 loop)
theorem C4{X:Cx}{elt iter tg:Qh}{ifs:List Qh}{scope:Qx}{pos:Pos}{wi:TI}{g:TG}{tc:TT}{te:TE}(sc0:Qx)(N0:List Str)(cp:List (Nat×Str))(tgN:List Str)(hc:X.calm=true)(hsc:X.env.scope=sc0)(hN0:X.N=N0)(hi:PI X tg iter wi)(hg:∀C s0 H0 fp,PG (ar X scope cp tgN C s0 H0 fp) tg g)(ht:∀C s0 H0 fp,si (ar X scope cp tgN C s0 H0 fp) ifs tc)(he:∀C s0 H0 fp,PE (ar X scope cp tgN C s0 H0 fp) elt te)(hk:scope.kind=.function)(hown:∀y∈scope.names,y.2=.cell->scope.names.lookup y.1=some .cell)(hnames:∀y∈scope.names,y.2=.local->scope.names.lookup y.1=some .local)(hfr:∀y∈scope.names,y.2=.free->scope.names.lookup y.1=some .free/\sc0.names.lookup y.1=some .cell)(hcp:∀p∈cp,N0[p.1]?=some p.2)(hcq:∀p∈cp,sc0.names.lookup p.2=some .cell/\scope.names.lookup p.2=some .free)(hs:∀x,Rl iter X.env x=pure x:=by intro _;rfl):PE X (.ListComp elt [⟨tg,iter,ifs,0⟩] scope pos) (z_ cp tgN.length wi g tc te):=by intro pins s σ H Q I h;rw[eval_ListComp];exact v_ sc0 N0 cp tgN hc hsc hN0 hi hg ht he hk hown hnames hfr hcp hcq hs I h λC D H5 s6⟨m,hn⟩q _ key=>⟨m,hn,λh' sb=>⟨.ref D,H5,key h' sb,rfl,q⟩⟩
def AB(sc0 scope:Qx)(N0:List Str)(cp:List (Nat×Str))(W:List Nat):Bool:=(scope.names.all λy=>(!(y.2==.local)||scope.names.lookup y.1==some .local)&&(!(y.2==.cell)||scope.names.lookup y.1==some .cell)&&(!(y.2==.free)||(scope.names.lookup y.1==some .free&&sc0.names.lookup y.1==some .cell)))&&(cp.all λp=>N0[p.1]?==some p.2&&sc0.names.lookup p.2==some .cell&&scope.names.lookup p.2==some .free)&&decide ((cp.map (·.1)).Nodup)&&W.all λj=>decide (cp.length<=j)
theorem pT{sc0 scope:Qx}{N0:List Str}{cp:List (Nat×Str)}{W:List Nat}(hch:AB sc0 scope N0 cp W=true):(∀y∈scope.names,y.2=.cell->scope.names.lookup y.1=some .cell)/\(∀y∈scope.names,y.2=.local->scope.names.lookup y.1=some .local)/\(∀y∈scope.names,y.2=.free->scope.names.lookup y.1=some .free/\sc0.names.lookup y.1=some .cell)/\(∀p∈cp,N0[p.1]?=some p.2)/\(∀p∈cp,sc0.names.lookup p.2=some .cell/\scope.names.lookup p.2=some .free)/\(cp.map (·.1)).Nodup/\∀j∈W,cp.length<=j:=by
 simp only[AB,QU,Rp,decide_eq_true_eq]at hch;obtain⟨⟨⟨h1,h2⟩,h3⟩,h4⟩:=hch;refine⟨λy hy e=>?_,λy hy e=>?_,λy hy e=>?_,λp hp=>?_,λp hp=>?_,h3,h4⟩;·have:=(h1 y hy).1.2;rw[e]at this;simpa using this
 ·have:=(h1 y hy).1.1;rw[e]at this;simpa using this
 ·have:=(h1 y hy).2;rw[e]at this;simpa using this
 ·have:=(h2 p hp).1.1;simpa using this
 ·have a:=(h2 p hp).1.2;have c:=(h2 p hp).2;exact⟨by simpa using a,by simpa using c⟩
theorem cy{X:Cx}{K:⇑0}{pos:Pos}{elt iter tg:Qh}{ifs:List Qh}{scope:Qx}{fi:FI}{g:FG}{ft:FT}{fe:FE}{W:List Nat}(cp:List (Nat×Str))(tgN:List Str)(hKx:X.K=K)(hc:X.calm=true)(hi:PI X tg iter (fI K fi))(hg:∀C s0 H0 fp,PG (ar X scope cp tgN C s0 H0 fp) tg (fG K g W))(ht:∀C s0 H0 fp,si (ar X scope cp tgN C s0 H0 fp) ifs (fT K ft))(he:∀C s0 H0 fp,PE (ar X scope cp tgN C s0 H0 fp) elt (fE K fe))(hk:scope.kind=.function)(hch:AB X.env.scope scope X.N cp W=true)(hs:∀x,Rl iter X.env x=pure x):PE X (.ListComp elt [⟨tg,iter,ifs,0⟩] scope pos) (fE K (bj cp tgN.length fi g ft fe)):=by subst hKx;obtain⟨h0,h1,h2,h3,h4,h5,h6⟩:=pT hch;exact(C4 X.env.scope X.N cp tgN hc rfl rfl hi hg ht he hk h0 h1 h2 h3 h4 hs).mono λ_ _ _ h=>xQ h5 h6 h
open PySem PySem.Spec PyProof.Rows PySem.W
structure Lq (lt:Nat->Nat->Bool):Prop where
 irr:∀i,lt i i=false
 tr:∀{i j k},lt i j=false->lt j k=false->lt i k=false
 asy:∀{i j},lt i j=true->lt j i=false
structure MT (n:Nat) (p:Array Nat):Prop where
 sz:p.size=n
 pm:p.Perm (TL (RV n))
section
variable{lt:Nat→Nat→Bool}{n:Nat}(O:Lq lt)
include O
end
open PySem PySem.Spec PyProof.Rows PySem.W
section
variable{prog:Qn}{w:Qk}{A:Qr}{E:Qd->Qf->Prop}{s:Qf}
end
open PySem PySem.Spec PyProof.Rows PySem.W
section
variable{X:Cx}{K:⇑0}
def aB(r:List Int):Qg:=.tuple (r.map .int)
end
section
variable{X:Cx}{K:⇑0}
variable{o a:Qh}{es:List Qh}{fo:FE}{fs:FA}{apos cpos:Pos}
end
theorem xg{X:Cx}{ix:Nat}{nm:Str}{posn poss:Pos}{elt iter tg:Qh}{ifs:List Qh}{scope:Qx}{pos:Pos}{wi:TI}{g:TG}{tc:TT}{te:TE}(sc0:Qx)(N0:List Str)(cp:List (Nat×Str))(tgN:List Str)(hc:X.calm=true)(hsc:X.env.scope=sc0)(hN0:X.N=N0)(hi:PI X tg iter wi)(hg:∀C s0 H0 fp,PG (ar X scope cp tgN C s0 H0 fp) tg g)(ht:∀C s0 H0 fp,si (ar X scope cp tgN C s0 H0 fp) ifs tc)(he:∀C s0 H0 fp,PE (ar X scope cp tgN C s0 H0 fp) elt te)(hk:scope.kind=.function)(hown:∀y∈scope.names,y.2=.cell->scope.names.lookup y.1=some .cell)(hnames:∀y∈scope.names,y.2=.local->scope.names.lookup y.1=some .local)(hfr:∀y∈scope.names,y.2=.free->scope.names.lookup y.1=some .free/\sc0.names.lookup y.1=some .cell)(hcp:∀p∈cp,N0[p.1]?=some p.2)(hcq:∀p∈cp,sc0.names.lookup p.2=some .cell/\scope.names.lookup p.2=some .free)(hNd:X.N.Nodup)(hix:X.N[ix]?=some nm)(hlc:X.env.scope.names.lookup nm=some .local)(hsw:So (.ListComp elt [⟨tg,iter,ifs,0⟩] scope pos) (some (.Name nm posn)) poss.line X.env=pure true)(hs:∀x,Rl iter X.env x=pure x:=by intro _;rfl):PS X (.Assign [.Name nm posn] (.ListComp elt [⟨tg,iter,ifs,0⟩] scope pos) poss) (D4 (z_ cp tgN.length wi g tc te) (wu ix)):=by intro pins s σ H D0 I h;rw[exec_Assign_Name_used _ _ _ _ hsw];refine Qi (RL (Qi ?_));unfold evalThenUse;exact Qi (v_ sc0 N0 cp tgN hc hsc hN0 hi hg ht he hk hown hnames hfr hcp hcq hs I h (wa hNd hix hlc))
theorem mx{X:Cx}{K:⇑0}{pos:Pos}{ix:Nat}{nm:Str}{posn poss:Pos}{elt iter tg:Qh}{ifs:List Qh}{scope:Qx}{fi:FI}{g:FG}{ft:FT}{fe:FE}{W:List Nat}(cp:List (Nat×Str))(tgN:List Str)(hKx:X.K=K)(hc:X.calm=true)(hi:PI X tg iter (fI K fi))(hg:∀C s0 H0 fp,PG (ar X scope cp tgN C s0 H0 fp) tg (fG K g W))(ht:∀C s0 H0 fp,si (ar X scope cp tgN C s0 H0 fp) ifs (fT K ft))(he:∀C s0 H0 fp,PE (ar X scope cp tgN C s0 H0 fp) elt (fE K fe))(hk:scope.kind=.function)(hch:AB X.env.scope scope X.N cp W=true)(hNd:X.N.Nodup)(hix:X.N[ix]?=some nm)(hlc:X.env.scope.names.lookup nm=some .local)(hsw:So (.ListComp elt [⟨tg,iter,ifs,0⟩] scope pos) (some (.Name nm posn)) poss.line X.env=pure true)(hs:∀x,Rl iter X.env x=pure x):PS X (.Assign [.Name nm posn] (.ListComp elt [⟨tg,iter,ifs,0⟩] scope pos) poss) (fS K (aN ix (bj cp tgN.length fi g ft fe)) [ix]):=by subst hKx;obtain⟨h0,h1,h2,h3,h4,h5,h6⟩:=pT hch;exact(xg X.env.scope X.N cp tgN hc rfl rfl hi hg ht he hk h0 h1 h2 h3 h4 hNd hix hlc hsw hs).mono λD σ H h=>by obtain⟨F,e,fl,R,hf,q⟩:=h;unfold aN at hf;obtain⟨⟨r,e1⟩,hh1,hf⟩:=P8 hf;obtain⟨e2,hh2,hf⟩:=P9 hf;cases hf;refine xQ h5 h6 ⟨F,e,r,e1,R,hh1,λF1 H1 v X1 R1 A1=>?_⟩;obtain⟨x,R2⟩:=yL R X1 R1 A1 hh2;exact q F1 H1 _ x R2
section
variable{X:Cx}{K:⇑0}{σ σ2:L2.St}{H0 F H F2 H2 F3:Hp}{e e2:En}
mutual
theorem DA.dropL(hd:∀a o,F2 a=some o->(∀xs,o≠.lst xs)->F3 a=some o):∀{d:Qg}{v:V},dS d=true->DA K F2 d v->DA K F3 d v
 |.none,_,_,h=>h|.bool _,_,_,h=>h|.int _,_,_,h=>h|.str _,_,_,h=>h|.tuple ds,v,f,h=>by
  obtain⟨a,xs,e1,h1,h2⟩:=cC.mp h;refine cC.mpr ⟨a,xs,e1,?_,aR.dropL hd (by simpa[dS]using f) h2⟩;rcases h1 with (h1|⟨o,h1⟩)|h1;·exact .inl (.inl (hd a _ h1 λxs z=>by cases z))
  ·exact .inl (.inr ⟨o,hd a _ h1 λxs z=>by cases z⟩)
  ·exact .inr h1|.list _,_,f,_=>by simp[dS]at f|.dict _,_,f,_=>by simp[dS]at f
theorem aR.dropL(hd:∀a o,F2 a=some o->(∀xs,o≠.lst xs)->F3 a=some o):∀{ds:List Qg}{vs:List V},bA ds=true->aR K F2 ds vs->aR K F3 ds vs|[],_,_,h=>h|d::ds,vs,f,h=>by simp only[aR]at h⊢;obtain⟨x,r,e1,h1,h2⟩:=h;simp only[bA,QU]at f;exact⟨x,r,e1,DA.dropL hd f.1 h1,aR.dropL hd f.2 h2⟩
end
def kP:Sv->Bool|.d x=>dS x|.l xs=>bA xs|.n yss=>yss.all bA
def B6(i:Nat)(e:En):Prop:=∀(j:Nat) (s:Sv),j≠i->e[j]?=some (some s)->kP s=true
theorem bc.unfrz(R2:bc K F2 H2 σ2 e2){i:Nat}{xss:List (List Qg)}{d:Qg}{l:Qe}{bs:List Qe}(hi:e2[i]?=some (some (.d d)))(hs:σ2[i]?=some (some (.ref l)))(hl:F2 l=some (.lst (bs.map V.ref)))(len:bs.length=xss.length)(nd:bs.Nodup)(nl:l∉bs)(sF:aG F F2)(nF:∀a,a=l\/a∈bs->F a=none)(hb:∀(k:Nat) (b:Qe) (ys:List Qg),bs[k]?=some b->xss[k]?=some ys->∃us,F2 b=some (.lst us)/\aR K F ys us)(hf:B6 i e2):∃F3,bc K F3 H2 σ2 (e2.set i (some (.n xss)))/\aG F F3/\(∀a o,F2 a=some o->(∀xs,o≠.lst xs)->F3 a=some o)/\(∀a,F2 a=none->F3 a=none)/\(∀a,cm σ2 (e2.set i (some (.n xss))) H2 a->cm σ2 e2 H2 a\/a=l\/a∈bs):=by
 have hlt:i<e2.length:=(P_ hi).1;let F3:Hp:=λa=>if a=l\/a∈bs then none else F2 a;have pos:∀a,(a=l\/a∈bs)->F3 a=none:=λa h=>if_pos h;have neg:∀a,¬(a=l\/a∈bs)->F3 a=F2 a:=λa h=>if_neg h;have lstAt:∀a,(a=l\/a∈bs)->∃us,F2 a=some (.lst us):=λa h=>by
  rcases h with rfl|h;·exact⟨_,hl⟩
  ·obtain⟨k,hk⟩:=Tg h;have hk2:k<xss.length:=by rw[<-len];exact(P_ hk).1
   obtain⟨us,q,_⟩:=hb k a xss[k] hk (QR hk2);exact⟨us,q⟩
 have hd:∀a o,F2 a=some o->(∀xs,o≠.lst xs)->F3 a=some o:=λa o h n=>by
  by_cases z:a=l\/a∈bs;·obtain⟨us,q⟩:=lstAt a z;rw[q]at h;cases h;exact absurd rfl (n us)
  ·rw[neg a z];exact h
 have s3:aG F F3:=λa o q=>by
  have z:¬(a=l\/a∈bs):=λz=>by rw[nF a z]at q;cases q
  rw[neg a z];exact sF a o q
 have sub:∀a,F2 a=none->F3 a=none:=λa h=>by
  by_cases z:a=l\/a∈bs;·exact pos a z
  ·rw[neg a z];exact h
 have sm:aG F3 H2:=λa o q=>by
  by_cases z:a=l\/a∈bs;·rw[pos a z]at q;cases q
  ·rw[neg a z]at q;exact R2.sm a o q
 have gi:(e2.set i (some (Sv.n xss)))[i]?=some (some (.n xss)):=Rt hlt;have gj:∀j,j≠i->(e2.set i (some (Sv.n xss)))[j]?=e2[j]?:=λj h=>QQ (QK h);have fpI:∀a,Fp σ2 (e2.set i (some (.n xss))) H2 i a->a=l\/a∈bs:=λa q=>by
  rcases q with⟨zs,q,_⟩|⟨zss,l',bs',q,q1,q2,q3⟩;·rw[gi]at q;cases q
  ·rw[hs]at q1;cases q1;rw[R2.sm l _ hl]at q2;have e1:bs=bs':=VH (λ_ _ z=>V.ref.inj z)|>.mp (HO.lst.inj (QY q2));subst e1;exact q3
 have fpJ:∀j a,j≠i->(Fp σ2 (e2.set i (some (.n xss))) H2 j a↔Fp σ2 e2 H2 j a):=λj a hj=>by unfold Fp;rw[gj j hj]
 refine⟨F3,⟨sm,by rw[RY];exact R2.len,λj x q=>?_,λj xs q=>?_,λj yss q=>?_,λj k a p q=>?_⟩,s3,hd,sub,λa⟨j,q⟩=>?_⟩
 ·by_cases z:j=i;·subst z;rw[gi]at q;cases q
  ·rw[gj j z]at q;obtain⟨v,h1,h2⟩:=R2.dat j x q;exact⟨v,h1,DA.dropL hd (hf j _ z q) h2⟩
 ·by_cases z:j=i;·subst z;rw[gi]at q;cases q
  ·rw[gj j z]at q;obtain⟨l',vs,h1,h2,h3,h4⟩:=R2.own j xs q;exact⟨l',vs,h1,sub l' h2,h3,aR.dropL hd (hf j _ z q) h4⟩
 ·by_cases z:j=i;·subst z;rw[gi]at q;cases q;refine⟨l,bs,hs,pos l (.inl rfl),R2.sm l _ hl,len,nd,nl,λk b ys q1 q2=>?_⟩;obtain⟨us,h1,h2⟩:=hb k b ys q1 q2;exact⟨pos b (.inr (Qc q1)),us,R2.sm b _ h1,h2.mono s3⟩
  ·rw[gj j z]at q;obtain⟨l',bs',h1,h2,h3,h4,h5,h6,h7⟩:=R2.nst j yss q;refine⟨l',bs',h1,sub l' h2,h3,h4,h5,h6,λk b ys q1 q2=>?_⟩;obtain⟨h8,us,h9,h10⟩:=h7 k b ys q1 q2;have fy:bA ys=true:=by have:=hf j _ z q;simp only[kP,Rp]at this;exact this ys (Qc q2)
   exact⟨sub b h8,us,h9,aR.dropL hd fy h10⟩
 ·have out:∀j,j≠i->Fp σ2 e2 H2 j a->¬(a=l\/a∈bs):=λj _ hp z=>by obtain⟨us,q⟩:=lstAt a z;rw[(R2.fpAt hp).1]at q;cases q
  by_cases zj:j=i
  ·by_cases zk:k=i;·rw[zj,zk]
   ·subst zj;exact absurd (fpI a p) (out k zk ((fpJ k a zk).mp q))
  ·by_cases zk:k=i;·subst zk;exact absurd (fpI a q) (out j zj ((fpJ j a zj).mp p))
   ·exact R2.fp j k a ((fpJ j a zj).mp p) ((fpJ k a zk).mp q)
 ·by_cases z:j=i;·subst z;exact .inr (fpI a q)
  ·exact .inl ⟨j,(fpJ j a z).mp q⟩
theorem bc.frzN2(R:bc K F H σ e){i:Nat}{xss:List (List Qg)}(hi:e[i]?=some (some (.n xss))):∃(F':Hp) (l:Qe) (bs:List Qe),bc K F' H σ (e.set i (some (.d (.list (xss.map .list)))))/\fm σ F H e F' H (e.set i (some (.d (.list (xss.map .list)))))/\σ[i]?=some (some (.ref l))/\F' l=some (.lst (bs.map V.ref))/\bs.length=xss.length/\bs.Nodup/\l∉bs/\(∀a,a=l\/a∈bs->F a=none/\cm σ e H a)/\(∀(k:Nat) (b:Qe) (ys:List Qg),bs[k]?=some b->xss[k]?=some ys->∃us,F' b=some (.lst us)/\aR K F ys us):=by
 obtain⟨l,bs,a1,a2,a3,a4,a5,a6,a7⟩:=R.nst i xss hi;have hlt:i<e.length:=(P_ hi).1;have inF:∀a,a=l\/a∈bs->Fp σ e H i a:=λa h=>.inr ⟨xss,l,bs,hi,a1,a3,h⟩;let F':Hp:=λa=>if a=l\/a∈bs then H a else F a;have pos:∀a,(a=l\/a∈bs)->F' a=H a:=λa h=>if_pos h;have neg:∀a,¬(a=l\/a∈bs)->F' a=F a:=λa h=>if_neg h;have sF:aG F F':=λb o q=>by
  have z:¬(b=l\/b∈bs):=λz=>by rw[(R.fpAt (inF b z)).1]at q;cases q
  rw[neg b z];exact q
 have sm:aG F' H:=λb o q=>by
  by_cases z:b=l\/b∈bs;·rw[pos b z]at q;exact q
  ·rw[neg b z]at q;exact R.sm b o q
 have dd:∀(cs:List Qe) (yss:List (List Qg)),cs.length=yss.length->(∀(k:Nat) (b:Qe) (ys:List Qg),cs[k]?=some b->yss[k]?=some ys->b∈bs/\∃us,H b=some (.lst us)/\aR K F ys us)->aR K F' (yss.map .list) (cs.map V.ref):=by intro cs;induction cs with
  |nil=>intro yss h _;cases yss with|nil=>exact aR.nil|cons _ _=>simp at h
  |cons c cs ih=>intro yss h hh;cases yss with|nil=>simp at h|cons ys yss=>obtain⟨c1,us,c2,c3⟩:=hh 0 c ys rfl rfl;refine aR.cons (cB.mpr ⟨c,us,rfl,.inl (.inl ?_),c3.mono sF⟩) (ih yss (by simpa using h) λk b zs q1 q2=>hh (k+1) b zs (by simpa using q1) (by simpa using q2));rw[pos c (.inr c1)];exact c2
 have da:DA K F' (.list (xss.map .list)) (.ref l):=cB.mpr ⟨l,_,rfl,.inl (.inl (by rw[pos l (.inl rfl)];exact a3)),dd bs xss a4 λk b ys q1 q2=>by obtain⟨_,us,c2,c3⟩:=a7 k b ys q1 q2;exact⟨Qc q1,us,c2,c3⟩⟩;have gi:(e.set i (some (Sv.d (.list (xss.map .list)))))[i]?=some (some (.d (.list (xss.map .list)))):=Rt hlt;have nofp:∀a,¬Fp σ (e.set i (some (.d (.list (xss.map .list))))) H i a:=λa q=>by
  rcases q with⟨zs,q,_⟩|⟨xss,_,_,q,_⟩;·rw[gi]at q;cases q
  ·rw[gi]at q;cases q
 obtain⟨R',fs⟩:=R.upd1 (F':=F') (H':=H) (e':=e.set i (some (.d (.list (xss.map .list))))) i (by rw[RY];exact R.len) ↥4 (λj hj=>QQ (QK hj)) sF sm (λj a hj q=>by rw[neg a λz=>hj (R.fp j i a q (inF a z))];exact(R.fpAt q).1) (λj a o _ _ ha=>ha) (λx q=>by rw[gi]at q;cases q;exact⟨_,a1,da⟩) (λzs q=>by rw[gi]at q;cases q) (λzss q=>by rw[gi]at q;cases q) (λa j hj q=>absurd q (nofp a));refine⟨F',l,bs,R',⟨sF,λ_ h=>h,λa vs h1 h2 h3=>?_,λa vs h=>⟨vs,h⟩,λ_ _ h _=>h,λj=>?_,λa⟨j,q⟩=>?_,λa m h1 h2 h3=>by rw[neg a λz=>h3 ⟨i,inF a z⟩];exact h1⟩,a1,by rw[pos l (.inl rfl)];exact a3,a4,a5,a6,λa h=>⟨(R.fpAt (inF a h)).1,i,inF a h⟩,λk b ys q1 q2=>?_⟩;·rw[neg a λz=>h3 ⟨i,inF a z⟩];exact h1
 ·by_cases z:j=i;·subst z;rw[gi,hi];simp
  ·rw[QQ (QK z)]
 ·by_cases z:j=i;·subst z;exact absurd q (nofp a)
  ·exact .inl ⟨j,(fs j a z).mp q⟩
 ·obtain⟨_,us,c2,c3⟩:=a7 k b ys q1 q2;exact⟨us,by rw[pos b (.inr (Qc q1))];exact c2,c3⟩
def j4:Nat->En->Bool
 |_,[]=>true|0,_::e=>e.all λo=>match o with|some s=>kP s|none=>true
 |i+1,o::e=>(match o with|some s=>kP s|none=>true)&&j4 i e
theorem qB:∀{i:Nat}{e:En},j4 i e=true->B6 i e
 |_,[],_=>λj s _ q=>by simp at q|0,o::e,h=>λj s n q=>by cases j with|zero=>exact absurd rfl n|succ j=>rw[Vc]at q;simp only[j4,Rp]at h;exact h _ (Qc q)
 |i+1,o::e,h=>λj s n q=>by simp only[j4,QU]at h;cases j with|zero=>rw[List.getElem?_cons_zero]at q;cases q;exact h.1|succ j=>rw[Vc]at q;exact qB h.2 j s (λz=>n (by rw[z])) q
def tX(i:Nat)(f:FS):FS:=λe=>(ck e i).bind λxss=>(f (e.set i (some (.d (.list (xss.map .list)))))).bind λfl=>match fl with|.nx e2=>if j4 i e2=true then(match e2[i]? with|some (some (.d _))=>some (.nx (e2.set i (some (.n xss))))|_=>none) else none|_=>none
theorem Gj{s:Qo}{f:FS}{W:List Nat}{i:Nat}(hi:i∉W)(h:PS X s (fS K f W)):PS X s (fS K (tX i f) W):=h.mono λD σ H h=>by
 obtain⟨F,e,fl,R,hf,q⟩:=h;unfold tX at hf;obtain⟨xss,h1,hf⟩:=P8 hf;obtain⟨fl2,h2,hf⟩:=P8 hf;have hn:=dP h1;obtain⟨F1,l,bs,R1,X1,a1,a2,a3,a4,a5,a6,a7⟩:=R.frzN2 hn;refine⟨F1,_,fl2,R1,h2,?_⟩
 cases fl2 with|nx e2=>
  dsimp only at hf;split at hf;case isFalse=>cases hf
  case isTrue hfl=>
  split at hf;case h_2=>cases hf
  case h_1 d heq=>
  cases hf;intro F2 H2 σ2 X2 R2;have hs2:σ2[i]?=some (some (.ref l)):=by rw[X2.wr i hi];exact a1
  obtain⟨F3,R3,s3,hd3,sub3,o3⟩:=R2.unfrz (F:=F) (xss:=xss) (bs:=bs) heq hs2 (X2.sf _ _ a2) a3 a4 a5 (X1.sf.trans X2.sf) (λa h=>(a6 a h).1) (λk b ys q1 q2=>let⟨us,c1,c2⟩:=a7 k b ys q1 q2;⟨us,X2.sf _ _ c1,c2⟩) (qB hfl);have no:∀a o,H a=some o->¬cm σ e H a->¬cm σ (e.set i (some (.d (.list (xss.map .list))))) H a:=λa o h n z=>(X1.ow a z).elim n λz=>by rw[h]at z;cases z
  refine q F3 H2 σ2 ⟨s3,X2.dom,λa vs c1 c2 c3=>sub3 a (X2.fr a vs (X1.fr a vs c1 c2 c3) c2 (no a _ c2 c3)),X2.lst,λa o c1 c2=>X2.tmp a o c1 (no a o c1 c2),λa h=>?_,X2.wr,λa m c1 c2 c3=>sub3 a (X2.fd a m (X1.fd a m c1 c2 c3) c2 (no a _ c2 c3))⟩ R3;rcases o3 a h with z|z;·exact(X2.own a z).elim (X1.ow a) .inr
  ·exact .inl (a6 a z).2|_=>cases hf
end
section
variable{X:Cx}{K:⇑0}{a b:Qh}{fa fb:FE}{pos p p1 p2 p3 pos':Pos}{x:Str}{i:Nat}
def r8(i:Nat)(fp:FE)(fq:En->Option Int):FE:=λe=>(ck e i).bind λ_=>(fp e).bind λp=>(bL p.1).bind λk=>(ck p.2 i).bind λxss=>(yp xss.length k).bind λkn=>(xss[kn]?).bind λys=>(fq p.2).bind λj=>if ys.length<1000000 then some (.d .none,p.2.set i (some (.n (xss.set kn (ys++[.int j]))))) else none
theorem Gf{pq:Qh}{fp:FE}{fq:En->Option Int}{ps2 apos cpos:Pos}(hK:X.K=K)(hN:X.N[i]?=some x)(hv:Bw X.env.scope x)(hd:(x==("__debug__":Str))=false)(hcd:(x==("__classdict__":Str))=false)(hp:PE X a (fE K fp))(hpl:mE a)(hq:Qt X K pq fq)(hst:TY pq=false)(hbase:TH (.Subscript (.Name x p) a ps2) "append" X.env (Qs (.Subscript (.Name x p) a ps2) X.env)=Qs (.Subscript (.Name x p) a ps2) X.env)(hfew:((QH cpos (Qq [pq] X.env)).all (λx=>!x.1)&&(backToKw cpos (TJ [] X.env)).all (λx=>x.1.isSome)&&decide ([pq].length+([]:List RG).length+(if ([]:List RG).isEmpty then 0 else 1)<30))=true)(hline:(apos.endLine==cpos.line)=true)(hs:Qq [pq] X.env=(false,Qs pq X.env)::Qq [] X.env)(hplain:(QH cpos (Qq [] X.env)).any (·.1)=false):PE X (.Call (.Attribute (.Subscript (.Name x p) a ps2) "append" apos) [pq] [] cpos) (fE K (r8 i fp fq)):=by
 subst hK;obtain⟨tq,q1,q2⟩:=hq;refine(C3 VI US VJ jE (C7 (wC rfl) (hJ hN hv hd hcd) hp hpl) (FP q1 g_ hst) hbase hfew hline hs hplain).mono λσ H Q h=>?_;obtain⟨F,e,z,e',R,hf,q⟩:=h;unfold r8 at hf;obtain⟨xs0,g3,hf⟩:=P8 hf;obtain⟨⟨rp,e2⟩,g4,hf⟩:=P8 hf;obtain⟨k,g5,hf⟩:=P8 hf;obtain⟨xss,g6,hf⟩:=P8 hf;obtain⟨kn,g7,hf⟩:=P8 hf;obtain⟨ys,g8,hf⟩:=P8 hf;obtain⟨j,g9,hf⟩:=P8 hf;split at hf;case isFalse=>cases hf
 case isTrue hlen=>
 cases hf;obtain⟨l,bs0,a1,_⟩:=R.nst i xs0 (dP g3);refine⟨_,a1,F,e,rp,e2,R,g4,λF2 H2 w X2 R2 A2=>?_⟩;have g6':=dP g6;obtain⟨l',bs,c1,c2,c3,c4,c5,c6,c7⟩:=R2.nst i xss g6';rw[a1]at c1;cases c1;obtain⟨b,hb⟩:∃b,bs[kn]?=some b:=⟨bs[kn]'(by rw[c4];exact(P_ g8).1),QR _⟩;obtain⟨b1,us,b2,b3⟩:=c7 kn b ys hb g8;have fi:∀z,z=l\/z∈bs->Fp σ e2 H2 i z:=λz h=>.inr ⟨xss,l,bs,g6',a1,c3,h⟩;have bm:b∈bs:=Qc hb;have bl:b≠l:=λz=>c6 (z▸bm);have sl:Qv=16777216:=Rm;refine⟨l,_,k,.ref b,rfl,bS A2 g5,.inl (.inl c3),?_,.inl ⟨rfl,us,.inl (.inl b2)⟩,q2 σ F2 H2 e2 j _ R2 g9 ?_⟩;·unfold atI;rw[Qz,c4,g7];show(bs.map V.ref)[kn]?=_;rw[QD,hb];rfl
 refine⟨b,us,_,rfl,rfl,b2,by rw[<-b3.len];lia,?_⟩;have dv:DA X.K F2 (.int j) (.int j):=bT.mpr rfl;obtain⟨R4,o4,s4⟩:=R2.putN (yss:=xss.set kn (ys++[.int j])) (bs:=bs) (H':=bz H2 b (.lst (us++[V.int j]))) g6' a1 c2 (by rw[aA (QK bl)];exact c3) (by simp[c4]) c5 c6 (λm z zs z1 z2=>by
  by_cases em:m=kn;·subst em;rw[hb]at z1;cases z1;rw[Rt (by exact(P_ g8).1)]at z2;cases z2;exact⟨b1,_,aw,b3.append (aR.one dv)⟩
  ·rw[QQ (QK em)]at z2;obtain⟨d1,us',d2,d3⟩:=c7 m z zs z1 z2;have zb:z≠b:=λez=>by subst ez;exact em ((List.getElem?_inj (P_ z1).1 c5).mp (z1.trans hb.symm))
   exact⟨d1,us',by rw[aA zb];exact d2,d3⟩) (λz hz=>.inl (fi z (.inr hz))) (λz q=>by
   by_cases e0:z=b;·rw[e0,aw]at q;cases q
   ·rw[aA e0]at q;exact q) (λz o q _ n2=>by have e0:z≠b:=λe0=>n2 (by rw[e0];exact bm);rw[aA e0];exact q) (λz vs q=>by
   by_cases e0:z=b;·rw[e0];exact⟨_,aw⟩
   ·rw[aA e0];exact⟨vs,q⟩);refine q F2 _ .non ⟨X2.sf,λz q=>X2.dom z ?_,X2.fr,λz vs h=>?_,λz o h n=>?_,λj=>(s4 j).trans (X2.shp j),λz h=>?_,X2.fd⟩ R4 ((mL (K:=X.K) (F:=F2)).mpr rfl)
 ·by_cases e0:z=b;·rw[e0,aw]at q;cases q
  ·rw[aA e0]at q;exact q
 ·obtain⟨vs',h'⟩:=X2.lst z vs h;by_cases e0:z=b;·rw[e0];exact⟨_,aw⟩
  ·rw[aA e0];exact⟨vs',h'⟩
 ·have e0:z≠b:=λe0=>by
   rcases X2.ow z ⟨i,fi z (.inr (by rw[e0];exact bm))⟩with w|w;·exact n w
   ·rw[h]at w;cases w
  rw[aA e0];exact X2.tmp z o h n
 ·rcases o4 z h with w|w;·exact X2.ow z w
  ·exact X2.ow z ⟨i,fi z (.inr w)⟩
end
section
variable{X:Cx}{K:⇑0}
end
section
variable{prog:Qn}{w:Qk}{A:Qr}{R:Result->Qf->Prop}
def lE(kx vx tg iter tg2 iter2:Qh)(ifs ifs2:List Qh)(scope:Qx)(pos:Pos)(acc:Qd)(env:Env)(k:Sem Sy):Sem Sy:=do
 let x<-Qs iter2 env
 RQ iter2.pos let x<-Rl iter2 env x let _<-runOwn (.compStart (.DictComp kx vx [⟨tg,iter,ifs,0⟩,⟨tg2,iter2,ifs2,0⟩] scope pos) 1 (<-Sn [x] (pyIter x)) acc env) env
 k
theorem sC(kx vx tg iter tg2 iter2:Qh)(ifs ifs2:List Qh)(scope:Qx)(pos:Pos)(it acc:Qd)(env:Env):Te (.DictComp kx vx [⟨tg,iter,ifs,0⟩,⟨tg2,iter2,ifs2,0⟩] scope pos) 0 it acc env=(do RQ iter.pos match<-RE it with
 |none=>pure (.done .next)|some v=>
  SM tg it v
  RD tg env v let mut ok:=true
  for c in ifs do if ok then ok<-isTrue c env (Qs c env)
  if ok then lE kx vx tg iter tg2 iter2 ifs ifs2 scope pos acc env (QT (.compLoop (.DictComp kx vx [⟨tg,iter,ifs,0⟩,⟨tg2,iter2,ifs2,0⟩] scope pos) 0 it acc env))else QT (.compLoop (.DictComp kx vx [⟨tg,iter,ifs,0⟩,⟨tg2,iter2,ifs2,0⟩] scope pos) 0 it acc env)):=by rfl
theorem uD(kx vx tg iter tg2 iter2:Qh)(ifs ifs2:List Qh)(scope:Qx)(pos:Pos)(it:Qd)(D:Qe)(env:Env):Te (.DictComp kx vx [⟨tg,iter,ifs,0⟩,⟨tg2,iter2,ifs2,0⟩] scope pos) 1 it (.ref D) env=(do RQ iter2.pos match<-RE it with
 |none=>pure (.done .next)|some v=>
  SM tg2 it v
  RD tg2 env v let mut ok:=true
  for c in ifs2 do if ok then ok<-isTrue c env (Qs c env)
  if ok then(do let kv<-Qs kx env let vv<-Sn [kv] (Qs vx env)RQ {kx.pos with endLine:=vx.pos.endLine,endCol:=vx.pos.endCol}Sn [kv,vv] (dictSet D kv vv))
  QT (.compLoop (.DictComp kx vx [⟨tg,iter,ifs,0⟩,⟨tg2,iter2,ifs2,0⟩] scope pos) 1 it (.ref D) env)):=by rfl
def EH(prog:Qn)(w:Qk)(A:Qr)(kx vx tg:Qh)(ifs:List Qh)(env:Env)(it:Qd)(D:Qe)(onward:Qf->Prop)(v:Qd)(u:Qf):Prop:=Qj (Ql prog w) A (SM tg it v) (λ_ u1=>Qj (Ql prog w) A (RD tg env v) (λ_ u2=>Qj (Ql prog w) A (forIn ifs true λc r=>if r=true then do let ok<-isTrue c env (Qs c env);pure (SR ok) else pure (SR r)) (λok u3=>if ok=true then Qj (Ql prog w) A (Qs kx env) (λx u4=>Qj (Ql prog w) A (Qs vx env) (λy u5=>Qj (Ql prog w) A (dictSet D x y) (λ_ u6=>onward u6) pJ u5) pJ u4) pJ u3 else onward u3) pJ u2) pJ u1) pJ u
theorem sy{kx vx tg iter tg2 iter2:Qh}{ifs ifs2:List Qh}{scope:Qx}{pos:Pos}{it acc:Qd}{env:Env}(J:Nat->Qf->Prop)(turn:∀n u,J n u->Qj (Ql prog w) A (RE it) (λr u1=>(r=none->R (.ok .next) u1)/\∀v,r=some v->zm prog w A (lE kx vx tg iter tg2 iter2 ifs ifs2 scope pos acc env) tg ifs env it (λu2=>∃m,m<n/\J m u2) v u1) pJ u){n0:Nat}{u0:Qf}(dJ:J n0 u0):Rh (Ql prog w) A (.compLoop (.DictComp kx vx [⟨tg,iter,ifs,0⟩,⟨tg2,iter2,ifs2,0⟩] scope pos) 0 it acc env) R u0:=by refine Uz rfl J (λn u ju=>?_) n0 dJ;show Qj _ A ((Te (.DictComp kx vx [⟨tg,iter,ifs,0⟩,⟨tg2,iter2,ifs2,0⟩] scope pos) 0 it acc env).onRaise _) _ _ u;refine wpAny_noted ?_;rw[sC];refine Qi (RL (Qi (Qw (turn n u ju) (λr u1 k1=>?_) λ_ _ z=>z.elim)));cases r with|none=>exact Qp (k1.1 rfl)|some v=>refine Qi (Qw (k1.2 v rfl) (λ_ u2 k2=>Qi (Qw k2 (λ_ u3 k3=>Qi (Qw k3 (λok u4 k4=>?_) λ_ _ z=>z.elim)) λ_ _ z=>z.elim)) λ_ _ z=>z.elim);cases ok with|false=>rw[if_neg RM]at k4;exact Qp ⟨rfl,k4⟩|true=>rw[if_pos rfl]at k4;exact k4 _ _ _ λu6 k6=>Qp ⟨rfl,k6⟩
theorem uA{kx vx tg iter tg2 iter2:Qh}{ifs ifs2:List Qh}{scope:Qx}{pos:Pos}{it:Qd}{D:Qe}{env:Env}(J:Nat->Qf->Prop)(turn:∀n u,J n u->Qj (Ql prog w) A (RE it) (λr u1=>(r=none->R (.ok .next) u1)/\∀v,r=some v->EH prog w A kx vx tg2 ifs2 env it D (λu2=>∃m,m<n/\J m u2) v u1) pJ u){n0:Nat}{u0:Qf}(dJ:J n0 u0):Rh (Ql prog w) A (.compLoop (.DictComp kx vx [⟨tg,iter,ifs,0⟩,⟨tg2,iter2,ifs2,0⟩] scope pos) 1 it (.ref D) env) R u0:=by refine Uz rfl J (λn u ju=>?_) n0 dJ;show Qj _ A ((Te (.DictComp kx vx [⟨tg,iter,ifs,0⟩,⟨tg2,iter2,ifs2,0⟩] scope pos) 1 it (.ref D) env).onRaise _) _ _ u;refine wpAny_noted ?_;rw[uD];refine Qi (RL (Qi (Qw (turn n u ju) (λr u1 k1=>?_) λ_ _ z=>z.elim)));cases r with|none=>exact Qp (k1.1 rfl)|some v=>refine Qi (Qw (k1.2 v rfl) (λ_ u2 k2=>Qi (Qw k2 (λ_ u3 k3=>Qi (Qw k3 (λok u4 k4=>?_) λ_ _ z=>z.elim)) λ_ _ z=>z.elim)) λ_ _ z=>z.elim);cases ok with|false=>rw[if_neg RM]at k4;exact Qp ⟨rfl,k4⟩|true=>rw[if_pos rfl]at k4;exact Qi (Qi (Qw k4 (λkv u5 k5=>Qi (SL (Qw k5 (λvv u6 k6=>Qi (RL (SL (Qw k6 (λ_ u7 k7=>Qp ⟨rfl,k7⟩) λ_ _ z=>z.elim)))) λ_ _ z=>z.elim))) λ_ _ z=>z.elim))
theorem sA{kx vx tg iter tg2 iter2:Qh}{ifs ifs2:List Qh}{scope:Qx}{pos:Pos}{it acc:Qd}{env:Env}{s:Qf}(h0:Rh (Ql prog w) A (.compLoop (.DictComp kx vx [⟨tg,iter,ifs,0⟩,⟨tg2,iter2,ifs2,0⟩] scope pos) 1 it acc env) R s)(h:Qj (Ql prog w) A (pyIter it) (λit' s'=>Rh (Ql prog w) A (.compLoop (.DictComp kx vx [⟨tg,iter,ifs,0⟩,⟨tg2,iter2,ifs2,0⟩] scope pos) 1 it' acc env) R s') (notedBy (Ql prog w) A env λx s'=>R (.error x) s') s):Rh (Ql prog w) A (.compStart (.DictComp kx vx [⟨tg,iter,ifs,0⟩,⟨tg2,iter2,ifs2,0⟩] scope pos) 1 it acc env) R s:=by
 refine codeAny_of_tree ?_;show Qj _ _ ((compStart (.DictComp kx vx [⟨tg,iter,ifs,0⟩,⟨tg2,iter2,ifs2,0⟩] scope pos) 1 it acc env).onRaise (λx=>do noteFrame x env;RQ theWindowsPlace)) _ _ s;refine wpAny_notedAt ?_;unfold compStart;show Qj _ _ (ask>>=_) _ _ s;refine Qi (wpAny_askSetting (wpAny_ite ?_));split;·first|exact Qi (Qp (Qp (Ts rfl h0)))|exact Qp (Ts rfl h0)
 ·first|exact Qi (Ta (Qi (RL (Qi (Qw h (λit' s' h'=>Qp (Ts rfl h')) λ_ _ x=>x)))))|(refine Qi (Ta ?_);show Qj _ _ (RQ iter2.pos>>=_) _ _ s;exact Qi (RL (Qi (Qw h (λit' s' h'=>Qp (Ts rfl h')) λ_ _ x=>x))))
end
def Ac(l:Qe)(wi:TI)(g:TG)(tc:TT)(tk tv:TE)(σ:L2.St)(H:Hp)(N:L2.St->Hp->Prop):Prop:=wi σ H λJ H1=>∃W:Nat->Nat->L2.St->Hp->Prop,(∃m,W 0 m σ H1)/\∀i m σ' H',W i m σ' H'->(J.stop i H'/\N σ' H')\/(J.go i H'/\∃N2:L2.St->Hp->Prop,(∀σ2 H2,N2 σ2 H2->∃m',m'<m/\W (i+1) m' σ2 H2)/\∀x H2,J.yld i H' x H2->g x σ' H2 λσ2 H3=>tc σ2 H3 λb H4=>if b=true then tk σ2 H4 λy H5=>tv σ2 H5 λv H6=>∃(kk:gS) (kvs:List (gS×V)),y=kV kk/\H6 l=some (.dK kvs)/\kvs.length<Qv/\N2 σ2 (bz H6 l (.dK (vk kvs kk v))) else N2 σ2 H4)
theorem AM{Y:Cx}{kx vx tg iter tg2 iter2:Qh}{ifs ifs2:List Qh}{scope:Qx}{pos:Pos}{wi:TI}{g:TG}{tc:TT}{tk tv:TE}(hc:Y.calm=true)(hxe:Y.xe=pJ)(hi:PI Y tg2 iter2 wi)(hg:PG Y tg2 g)(ht:si Y ifs2 tc)(hkx:PE Y kx tk)(hvx:PE Y vx tv)(hs:∀x,Rl iter2 Y.env x=pure x){pins:List (Qe×Obj)}{s:Qf}{σ:L2.St}{H:Hp}{D:Qe}{N:L2.St->Hp->Prop}(I:aJ Y pins σ H s)(h:Ac D wi g tc tk tv σ H N)(k:Sem Sy)(Q:Sy->Qf->Prop)(E:Qd->Qf->Prop)(hk:∀s',(∃σ' H',aJ Y pins σ' H' s'/\N σ' H')->Qj (Ql Y.prog Y.w) Y.A k Q E s'):Qj (Ql Y.prog Y.w) Y.A (lE kx vx tg iter tg2 iter2 ifs ifs2 scope pos (.ref D) Y.env k) Q E s:=by
 unfold lE;have hi':=hi pins s σ H _ I h;rw[hxe]at hi';refine Qi (Qw hi' (λv s1 h1=>Qi (RL (Qi (wpAny_of_eq (hs v) (Qi (SL (Qw h1 (λitv s2 h2=>?_) λ_ _ z=>z.elim))))))) λ_ _ z=>z.elim);obtain⟨it,fp,tn,J,H2,rfl,I2,T,st2,f2,W,⟨m0,w0⟩,turn⟩:=h2;have stat:∀{H':Hp},(∀b∈fp,H' b=none)->∀b∈fp,gR Y pins H' b:=λhn b hb=>⟨hn b hb,(f2 b hb).2⟩;have loop:Rh (Ql Y.prog Y.w) Y.A (.compLoop (.DictComp kx vx [⟨tg,iter,ifs,0⟩,⟨tg2,iter2,ifs2,0⟩] scope pos) 1 (.ref it) (.ref D) Y.env) (λr s'=>match r with|.ok f=>Qj (Ql Y.prog Y.w) Y.A k Q E s'|.error e=>cameBackBy (Ql Y.prog Y.w) Y.A Y.env E e s') s2:=by
  refine uA (λn s'=>∃i σ' H',aJ Y pins σ' H' s'/\tn i s'.heap/\(∀b∈fp,H' b=none)/\W i n σ' H') ?_ (n0:=m0) ⟨0,σ,H2,I2,st2,λb hb=>(f2 b hb).1,w0⟩;rintro n s3⟨i,σ3,H3,I3,st3,fr3,w3⟩;rcases turn i n σ3 H3 w3 with⟨stop,qn⟩|⟨go,N2,hN,step⟩;·refine cj (T.done Y rfl rfl rfl hc i pins s3 σ3 H3 pJ I3 (stat fr3) st3 stop) λr s4⟨hr,I4⟩=>?_;subst hr;exact⟨λ_=>hk _ ⟨σ3,H3,I4,qn⟩,λv z=>by cases z⟩
  ·refine cj (T.item Y rfl rfl rfl hc i pins s3 σ3 H3 pJ I3 (stat fr3) st3 go) λr s4⟨u,hr,h4⟩=>?_;subst hr;refine⟨λz=>(by cases z),λv z=>?_⟩;cases z;refine cj h4 λ_ s5⟨x,H5,I5,r5,y5,st5,fr5⟩=>?_;have I5':=I5.pinned (stat fr5) (T.obj _ _ st5);have QT:∀{σ8:L2.St}{H8:Hp}{s8:Qf},aJ Y (pins++ka fp s5.heap) σ8 H8 s8->N2 σ8 H8->∃m,m<n/\∃i σ' H',aJ Y pins σ' H' s8/\tn i s8.heap/\(∀b∈fp,H' b=none)/\W i m σ' H':=fun{σ8 H8 s8}I8 n8=>by obtain⟨m',hm,w8⟩:=hN σ8 H8 n8;refine⟨m',hm,i+1,σ8,H8,I8.unpinned,T.keep _ _ _ st5 λb hb o e=>(I8.pin (b,o) (QL _ (QL _ (bQ hb e)))).1,λb hb=>?_,w8⟩;obtain⟨o,e,d⟩:=T.obj _ _ st5 b hb;exact(I8.pin (b,o) (QL _ (QL _ (bQ hb e)))).2.1
   have hg':=hg _ s5 σ3 H5 x u _ I5' r5 (step x H5 y5);rw[hxe]at hg';refine cj hg' λ_ s8⟨σ8,H8,I8,q8⟩=>?_;have ht':=ht _ s8 σ8 H8 _ I8 q8;rw[hxe]at ht';refine cj ht' λok s9⟨H9,I9,q9⟩=>?_;cases ok with|false=>rw[if_neg RM]at q9⊢;exact QT I9 q9|true=>
    rw[if_pos rfl]at q9⊢;have hk':=hkx _ s9 σ8 H9 _ I9 q9;rw[hxe]at hk';refine cj hk' λkv s10⟨xk,H10,I10,r10,q10⟩=>?_;have hv':=hvx _ s10 σ8 H10 _ I10 q10;rw[hxe]at hv';refine cj hv' λvv s11⟨xv,H11,I11,r11,kk,kvs,ek,hl,hz,n11⟩=>?_;subst ek;obtain⟨z,hd,vs,rel,dd⟩:=JU I11.hok hl;have hlen:(vk kvs kk xv).length<=Qv:=by have:=wK kvs kk xv;lia
    refine wpAny_dictSet_pairs (hsz:=by rw[<-rel.length];exact z) (Cp r10) dd λh' dd' hs'=>QT ?_ n11;have hex:∃q,h'.get? D=some q:=let⟨q,_,_,hq,_⟩:=dd';⟨q,hq⟩;exact EJ I11 (by rw[hl];exact True.intro) hs' hex (HL hlen hd (rel.put kk r11) dd')
 exact Qi (wpAny_runOwn (sA loop (T.self Y.A 0 _ _ _ st2 loop)))
structure Ab (cp:List (Nat×Str)) (nT:Nat) (wi:TI) (g:TG) (tc:TT) (wi2:TI) (g2:TG) (tc2:TT) (tk tv:TE) (σ:L2.St) (H:Hp) (Q:VK):Prop where go:wi σ H λJ H1=>∀l,H1 l=none->∃W:Nat->Nat->L2.St->Hp->Prop,(∃m,W 0 m (fB cp nT σ) (bz H1 l (.dK [])))/\∀i m σ' H',W i m σ' H'->(J.stop i H'/\Q (.ref l) H')\/(J.go i H'/\∃N:L2.St->Hp->Prop,(∀σ2 H2,N σ2 H2->∃m',m'<m/\W (i+1) m' σ2 H2)/\∀x H2,J.yld i H' x H2->g x σ' H2 λσ2 H3=>tc σ2 H3 λb H4=>if b=true then Ac l wi2 g2 tc2 tk tv σ2 H4 N else N σ2 H4)
def JQ:Qg->Option jp|.int k=>some (.vi k)|.bool b=>some (.vb b)|.none=>some .vn|_=>none
def BA(i:Nat):En->Option jp:=λe=>match e[i]? with|some (some (.d d))=>JQ d|_=>none
def JD(i:Nat):En->Option (List Qg):=λe=>match e[i]? with|some (some (.d (.tuple xs)))=>some xs|_=>none
def aK(p:Int×jp):gS×V:=(Sum.inl p.1,p.2.toV)
def aD(p:Int×jp):Qg×Qg:=(.int p.1,p.2.toD)
def HI(g2:FG)(ik iv:Nat):List Qg->En->List (Int×jp)->Option (List (Int×jp)×En)|[],e,acc=>some (acc,e)|x::r,e,acc=>(g2 x e).bind λe1=>(qU ik e1).bind λk=>(BA iv e1).bind λa=>if acc.length<1000000/\(acc.any λp=>p.1==k)=false then HI g2 ik iv r e1 (acc++[(k,a)]) else none
def HJ(g:FG)(ii:Nat)(g2:FG)(ik iv:Nat):List Qg->En->List (Int×jp)->Option (List (Int×jp)×En)|[],e,acc=>some (acc,e)|x::r,e,acc=>(g x e).bind λe1=>(JD ii e1).bind λits=>(HI g2 ik iv its e1 acc).bind λz=>HJ g ii g2 ik iv r z.2 z.1
def lQ(nT:Nat)(fi:FI)(g:FG)(ii:Nat)(g2:FG)(ik iv:Nat):FE:=λe=>(fi e).bind λp=>if p.2.1=[]then(HJ g ii g2 ik iv p.1 (mi [] nT p.2.2) []).bind λz=>some (.d (.dict (z.1.map aD)),mB (lU []) z.2 p.2.2) else none
section
variable{K:⇑0}{F H F' H':Hp}{σ σ':L2.St}{e e':En}{nT:Nat}
theorem bc.putO(R:bc K F H σ e){l:Qe}{o:HO}(h1:F l=none)(h2:¬cm σ e H l):bc K F (bz H l o) σ e/\∀a,cm σ e (bz H l o) a↔cm σ e H a:=R.keep (aG.refl F) (λb o q=>by
 have z:b≠l:=λz=>by rw[z,h1]at q;cases q
 rw[aA z];exact R.sm b o q) (λa⟨i,h⟩=>(R.fpAt h).1) λa o ha q=>by have z:a≠l:=λz=>h2 (z▸ha);rw[aA z];exact q
theorem Dn{acc:List (Int×jp)}{k:Int}{a:jp}(h:(acc.any λp=>p.1==k)=false):vk (acc.map aK) (Sum.inl k) a.toV=(acc++[(k,a)]).map aK:=by
 have e:((acc.map aK).any λkv=>decide (kv.1=(Sum.inl k:gS)))=false:=by rw[List.any_map,UC];intro p hp;have:=UC.mp h p hp;simp only[beq_iff_eq]at this;simp only[Function.comp,aK,decide_eq_true_eq];exactλz=>this (by simpa using z)
 unfold vk;rw[e,if_neg ↥1,TM];rfl
inductive CD (K:⇑0) (W:List Nat) (σ0:L2.St) (F1 H1:Hp) (e0:En) (l:Qe) (P:Hp->En->List (Int×jp)->Prop) (σ':L2.St) (H':Hp):Prop|mk{F':Hp}{ei:En}{acc:List (Int×jp)}(R:bc K F' H' σ' ei) (X:dr W σ0 F1 H1 e0 σ' F' H' ei) (fl:F' l=none) (hl:H' l=some (.dK (acc.map aK))) (pl:∀p∈acc,∀F,p.2.ok K F) (hc:P F' ei acc):CD K W σ0 F1 H1 e0 l P σ' H'
theorem ED{i:Nat}{a:jp}(h:BA i e=some a)(F:Hp):a.ok K F:=by
 unfold BA at h;split at h;·rename_i d heq;cases d<;>cases h<;>trivial
 ·cases h
theorem y0{Q:VK}{fi:FI}{g g2:FG}{W:List Nat}{ii ik iv:Nat}(h:fE K (lQ nT fi g ii g2 ik iv) σ H Q):Ab [] nT (fI K fi) (fG K g W) (λ_ H Q=>Q true H) (HU K (pN ii)) (fG K g2 W) (λ_ H Q=>Q true H) (pN ik) (pN iv) σ H Q:=by
 obtain⟨F0,e0,z,e',R0,hf,q⟩:=h;unfold lQ at hf;obtain⟨⟨items,own,e1⟩,h1,hf⟩:=P8 hf;dsimp only at hf;split at hf;case isFalse=>cases hf
 case isTrue hO=>
 subst hO;obtain⟨⟨out,eo⟩,h2,hf⟩:=P8 hf;cases hf;refine⟨⟨F0,e0,items,[],e1,R0,h1,λJ F1 H1 X1 R1 kp ok=>?_⟩⟩;intro l hl;obtain⟨Ri,sub⟩:=R1.inn (cp:=[]) (nT:=nT) List.nodup_nil;have hFl:F1 l=none:=R1.freeF hl;let Iv:Nat->L2.St->Hp->Prop:=λi=>CD K W (fB [] nT σ) F1 H1 (mi [] nT e1) l λ_ ei acc=>HJ g ii g2 ik iv (items.drop i) ei acc=some (out,eo);have nod:∀{F H:Hp}{σ:L2.St}{e:En}{m:List (gS×V)},bc K F H σ e->H l=some (.dK m)->¬cm σ e H l:=λR h=>R.notOwn h (λ_ z=>nomatch z);have ri:=Ri.putO (o:=.dK []) hFl (λz=>(Ri.ownH l z) hl);refine⟨λi m σ' H'=>m=items.length-i/\i<=items.length/\Iv i σ' H',⟨items.length,by simp,Ss _,.mk ri.1 (dr.refl.putT hl ri.2) hFl aw ↥1 h2⟩,?_⟩;rintro i m σ' H'⟨rfl,hi,⟨R',X',fl,hl',pl',hc⟩⟩;rename_i F' ei acc;obtain⟨go,stop,yld⟩:=ok F' H' X'.sf R'.sm (λp hp=>by cases hp);by_cases hlt:i<items.length
 ·have hd:items.drop i=items[i]::items.drop (i+1):=Ub hlt;rw[hd]at hc;unfold HJ at hc;obtain⟨e2,c2,hc⟩:=P8 hc;obtain⟨its2,c5,hc⟩:=P8 hc;obtain⟨⟨acc2,e6⟩,c6,hc⟩:=P8 hc;refine .inr ⟨go i hlt,Iv (i+1),λσ2 H2 r=>⟨items.length-(i+1),by lia,rfl,hlt,r⟩,λx H2 hy=>?_⟩;obtain⟨F2,sH,sF2,sm2,fz,hx⟩:=yld i items[i] x H2 (QR hlt) hy;obtain⟨R2,X2⟩:=R'.step sH sF2 sm2 fz;refine⟨F2,ei,items[i],e2,R2,hx,c2,λσ3 X3 R3=>yo ?_⟩;have hlH2:H2 l=some (.dK (acc.map aK)):=sH _ _ hl';have fl2:F2 l=none:=fz l fl (by rw[hl'];simp);have E3:dr W (fB [] nT σ) F1 H1 (mi [] nT e1) σ3 F2 H2 e2:=(X'.trans X2.s).trans X3;unfold JD at c5;split at c5;case h_2=>cases c5
  case h_1 xs heq=>
  cases c5;obtain⟨vt,t1,t2⟩:=R3.dat ii _ heq;obtain⟨pt,vs,rfl,s1,s2⟩:=cC.mp t2;refine⟨_,t1,pt,rfl,⟨vs,R3.sm.tup s1⟩,?_⟩;have ok2:=wA (σ:=σ3) (K:=K) (F0:=F2) (.tup s1 s2);let Iv2:Nat->L2.St->Hp->Prop:=λj=>CD K W (fB [] nT σ) F1 H1 (mi [] nT e1) l λF' ei acc=>aG F2 F'/\HI g2 ik iv (its2.drop j) ei acc=some (acc2,e6);refine⟨λj m σ' H'=>m=its2.length-j/\j<=its2.length/\Iv2 j σ' H',⟨its2.length,by simp,Ss _,.mk R3 E3 fl2 hlH2 pl' ⟨aG.refl _,c6⟩⟩,?_⟩;rintro j m σ6 H6⟨rfl,hj,⟨R6,X6,fl6,hl6,pl6,s6,hc6⟩⟩;rename_i F6 ei6 acc6;obtain⟨go2,stop2,yld2⟩:=ok2 F6 H6 s6 R6.sm (λp hp=>by cases hp);by_cases hjt:j<its2.length
  ·have hd2:its2.drop j=its2[j]::its2.drop (j+1):=Ub hjt;rw[hd2]at hc6;unfold HI at hc6;obtain⟨e7,c7,hc6⟩:=P8 hc6;obtain⟨kk,c8,hc6⟩:=P8 hc6;obtain⟨aa,c9,hc6⟩:=P8 hc6;split at hc6;case isFalse=>cases hc6
   case isTrue hlen=>
   refine .inr ⟨go2 j hjt,Iv2 (j+1),λσ2 H2 r=>⟨its2.length-(j+1),by lia,rfl,hjt,r⟩,λx7 H7 hy7=>?_⟩;obtain⟨F7,sH7,sF7,sm7,fz7,hx7⟩:=yld2 j its2[j] x7 H7 (QR hjt) hy7;obtain⟨R7,X7⟩:=R6.step sH7 sF7 sm7 fz7;refine⟨F7,ei6,its2[j],e7,R7,hx7,c7,λσ8 X8 R8=>yo ?_⟩;have hlH7:H7 l=some (.dK (acc6.map aK)):=sH7 _ _ hl6;have fl7:F7 l=none:=fz7 l fl6 (by rw[hl6];simp);have E8:dr W (fB [] nT σ) F1 H1 (mi [] nT e1) σ8 F7 H7 e7:=(X6.trans X7.s).trans X8;have kv:σ8[ik]?=some (some (.int kk)):=by
    unfold qU at c8;split at c8;·rename_i heq;cases c8;obtain⟨v,g1,g2⟩:=R8.dat ik _ heq;rw[g1,bT.mp g2]
    ·cases c8
   have pla:∀F,aa.ok K F:=ED c9;have vv:σ8[iv]?=some (some aa.toV):=by
    unfold BA at c9;split at c9;·rename_i d heq;obtain⟨v,g1,g2⟩:=R8.dat iv _ heq;rw[g1];cases d with|int n=>cases c9;rw[bT.mp g2];rfl|bool n=>cases c9;rw[eV.mp g2];rfl|none=>cases c9;rw[mL.mp g2];rfl|_=>cases c9
    ·cases c9
   have sl:Qv=16777216:=Rm;refine⟨_,kv,_,vv,Sum.inl kk,_,rfl,hlH7,by rw[Qz];lia,?_⟩;rw[Dn hlen.2];have rc:=R8.putO (o:=.dK ((acc6++[(kk,aa)]).map aK)) fl7 (nod R8 hlH7);exact .mk rc.1 (E8.putT hl rc.2) fl7 aw (λp hp=>by
    rcases P' hp with hp|hp;·exact pl6 p hp
    ·rw[VG.mp hp];exact pla) ⟨s6.trans sF7,hc6⟩
  ·have hd2:its2.drop j=[]:=Uc ↥0;rw[hd2]at hc6;cases hc6;exact .inl ⟨stop2 j ↥0,.mk R6 X6 fl6 hl6 pl6 hc⟩
 ·have hd:items.drop i=[]:=Uc ↥0;rw[hd]at hc;cases hc;refine .inl ⟨stop i ↥0,?_⟩;obtain⟨R9,X9,o9⟩:=nI R1 sub i9 X'.sf X'.dom X'.fr X'.lst X'.tmp X'.fd R' (λi k xs g1 g2=>by obtain⟨s,g⟩:=dc g2;simp at g) λi k xs g1 g2=>by obtain⟨s,g⟩:=dc g2;simp at g
  obtain⟨Ra,sa⟩:=R9.freeze fl hl' (nod R9 hl');have hHl:H l=none:=X1.dom l hl;refine q _ H' (.ref l) ((X1.trans X9).frz sa λa ha hn=>?_) Ra ?_;·have z:a≠l:=λz=>hn (by rw[z];exact hHl);rw[aA z];exact ha
  ·simp only[cw,DA];exact⟨l,out,rfl,aw,rfl,λp hp=>pl' p hp _⟩
end
section
variable{X:Cx}{K:⇑0}{pos:Pos}
def tJ:En->Rv->Rv->Option Rv:=λ_ x y=>match x,y with|.d (.dict kvs),.d (.int k)=>(kvs.find? λp=>match p.1 with|.int i=>i==k|_=>false).map λp=>.d p.2|_,_=>none
theorem qz(k:Int):∀(m:List (Int×jp)),(m.map λp=>(PyData.int p.1,p.2.toD)).find? (λp=>match p.1 with|.int i=>i==k|_=>false)=(m.find? λp=>p.1==k).map λp=>(PyData.int p.1,p.2.toD)|[]=>rfl|p::r=>by rw[QB,SW,SW];dsimp only;cases c:p.1==k with|true=>rfl|false=>exact qz k r
theorem we(k:Int):∀(m:List (Int×jp)),r_ (m.map λp=>((Sum.inl p.1:gS),p.2.toV)) (Sum.inl k)=(m.find? λp=>p.1==k).map λp=>p.2.toV|[]=>rfl|p::r=>by rw[QB,SW];cases c:p.1==k with|true=>rw[se (by rw[beq_iff_eq]at c;rw[c])];rfl|false=>rw[sd (λz=>by rw[beq_eq_false_iff_ne]at c;exact c (Sum.inl.inj z))];exact we k r
theorem HE{F:Hp}{a:jp}(h:a.ok K F):DA K F a.toD a.toV:=by cases a with|vp a p q=>exact cC.mpr ⟨a,_,rfl,h,aR.ints (ns:=[p,q]).mpr rfl⟩|_=>simp[jp.toD,jp.toV,DA]
theorem HK:kz K (λx y H Q=>∃a v,x=.ref a/\x4 H a y (some v)/\Q v H) tJ:=by
 intro σ H0 F H e x y z v u Q R A B hg q;unfold tJ at hg;split at hg;case h_2=>cases hg
 case h_1 kvs k=>obtain⟨p,hp,hg⟩:=P9 hg;cases hg;have A':DA K F (.dict kvs) v:=A;simp only[DA]at A';obtain⟨a,m,rfl,hF,rfl,ok⟩:=A';have B':u=.int k:=bT.mp (show DA K F (.int k) u from B);subst B';rw[qz]at hp;obtain⟨pm,h1,rfl⟩:=P9 hp;have hv:=we k m;rw[h1]at hv;have g:=x4.k (k:=Sum.inl k) (R.sm _ _ hF);rw[hv]at g;exact⟨a,pm.2.toV,rfl,g,q F H _ (fm.refl _ _ _ _) R (HE (ok pm (List.mem_of_find?_eq_some h1)))⟩
theorem IV{a b:Qh}{fa fb:FE}{k:Nat}(hr:dt k X.A)(ha:PE X a (fE K fa))(hb:PE X b (fE K fb))(hs:HA b):PE X (.Subscript a b pos) (fE K (ax tJ fa fb)):=(FR (by have:=hr.units;lia) ha hb hs).mono λσ H Q h=>r9 HK h
end
section
variable{K:⇑0}{F H F' H' F1 H1 F2 H2:Hp}{σ σ' σ1 σ2:L2.St}{e e' e1 e2:En}{i:Nat}{W W1 W2:List Nat}
structure Lr (K:⇑0) (i:Nat) (F H:Hp) (σ:L2.St) (e:En):Prop where rel:bc K F H σ (e.set i none)dct:∃(l:Qe) (m:List (Int×jp)),e[i]?=some (some (.d (.dict (m.map aD))))/\σ[i]?=some (some (.ref l))/\F l=none/\H l=some (.dK (m.map aK))/\∀p∈m,∀F,p.2.ok K F
structure Mx (i:Nat) (W:List Nat) (σ:L2.St) (F H:Hp) (e:En) (σ':L2.St) (F' H':Hp) (e':En):Prop where
 sf:aG F F'
 dom:∀a,H' a=none->H a=none
 fr:∀a vs,F a=none->H a=some (.lst vs)->¬cm σ (e.set i none) H a->F' a=none
 lst:∀a vs,H a=some (.lst vs)->∃vs',H' a=some (.lst vs')tmp:∀a o,H a=some o->¬cm σ (e.set i none) H a->σ[i]?≠some (some (.ref a))->H' a=some o
 own:∀a,cm σ' (e'.set i none) H' a->cm σ (e.set i none) H a\/H a=none
 wr:∀j,j∉W->σ'[j]?=σ[j]?
 dd:σ'[i]?=σ[i]?
 fd:∀a m,F a=none->H a=some (.dK m)->¬cm σ (e.set i none) H a->σ[i]?≠some (some (.ref a))->F' a=none
end
section
variable{X:Cx}{K:⇑0}{i:Nat}{W W1 W2:List Nat}{st:Qo}{ic:List Qo}{f g:FS}{ft:FT}{pos:Pos}
inductive Ll (K:⇑0) (i:Nat) (F1:Hp) (P:En->Prop) (G:L2.St->Hp->Hp->En->Prop) (σ:L2.St) (H:Hp):Prop|mk{F:Hp}{e:En}(R:Lr K i F H σ e) (sF:aG F1 F) (hf:P e) (q:G σ F H e):Ll K i F1 P G σ H
end
abbrev Br:List Qd:=[.type "ValueError",.type "Exception",.type "BaseException",.type "object"]
def Lj(h:Qm)(C:Qe):Prop:=∃(bm:List Qd) (N:Qe) (nm q:Str) (bs:List Qd) (hd:Bool) (sn:List Str) (sub:List Qd) (ab:Bool) (col:Option Bool) (dd:Option Qe) (k0 k1 k2 k3 k5:Option Qd) (m:Str->Option Qd),h.get? C=some (excClassObj nm q C N bs bm hd sn sub ab col dd k0 k1 k2 k3 k5 "ValueError.__new__")/\h.Ns N m/\m "__init__"=none/\OwnTail h Br bm
theorem EM{K:⇑0}{h:Qm}{C:Qe}(X:K.In h)(q:Uh K C Br "ValueError.__new__"=true):Lj h C:=by
 unfold Uh at q;split at q;case h_2=>cases q
 case h_1 dd cd sl ho=>
 split at q;case h_2=>cases q
 case h_1 C' bm k0 k1 k2 k3 n k5 hm hs=>simp only[QU,beq_iff_eq,Bool.not_eq_true']at q;obtain⟨⟨⟨⟨⟨e1,e2⟩,e3⟩,e4⟩,e5⟩,e6⟩:=q;subst e1 e2;cases cd with|mk nm bs mro ns qn hd sn sub ab col del=>have e7:mro=.ref C'::bm:=hm;have e8:del=false:=e3;subst e7 e8;cases sl with|mk l=>have e9:l=[k0,k1,k2,k3,some (.builtin "ValueError.__new__"),k5]:=hs;subst e9;exact⟨bm,ns,nm,qn,bs,hd,sn,sub,ab,col,dd,k0,k1,k2,k3,k5,_,X _ _ ho,.of_isNs (PySem.W.isNs_of_in X e5),PySem.W.nsMap_none_of_in X e5 e6,PySem.W.tail_of_in X e4⟩
section
variable{X:Cx}{C:Qe}{x:Str}{p pos rp:Pos}{e:Qh}{t:TA}
def Kp(H H':Hp):Prop:=∀a o,H a=some o->H' a=some o
def uq(X:Cx)(C:Qe):Prop:=∀(pins:List (Qe×Obj)) (σ:St) (H:Hp) (s:Qf) (h':Qm) (a:Qe) (vs:List Qd),aJ X pins σ H s->Kp X.H₀ H->Heap.MadeExcOf s.heap h' a (.ref C) vs->X.xe (.ref a) {s with heap:=h'}
theorem Dl(hcalm:X.calm=true)(hg:Gl X x)(hm:X.mg x=some (.ref C))(hC:Uh X.K C Br "ValueError.__new__"=true)(hx:uq X C)(ha:PA X [e] t)(hdb:(x==("__debug__":Str))=false:=by decide)(he:Qq [e] X.env=[(false,Qs e X.env)]:=by rfl):PS X (.Raise (some (.Call (.Name x p) [e] [] pos)) none rp) (λ_ σ H=>t σ H λvs H1=>vs.length<=Qv/\Kp X.H₀ H1):=by intro pins s σ H D I h;obtain⟨bm,N,nm,q,bs,hd,sn,sub,ab,col,dd,k0,k1,k2,k3,k5,m,c1,c2,c3,c4⟩:=EM I.mod.kin hC;refine wpAny_Raise_call_subU (C:=C) (N:=N) (nm:=nm) (q:=q) (bs:=bs) (bm:=bm) (hdct:=hd) (sn:=sn) (sub:=sub) (ab:=ab) (col:=col) (dd:=dd) (k0:=k0) (k1:=k1) (k2:=k2) (k3:=k3) (k5:=k5) (mN:=m) F.excBase_ValueError ↥2 F.excBase_ValueError (c4.hasType ↥2) (I.ok.hd hcalm) (by rw[he];rfl) c3 (lF I hg hm ⟨rfl,?_⟩ hdb);have hA:=ha pos pins s σ H _ I h;rw[he]at hA⊢;refine Calls.evalArgs_plain (cj hA λus s1⟨vs,H1,I1,r,q,kq⟩=>⟨rfl,?_,I1.bk _ _ c1,c2.keeps I1.bk,c4.keeps I1.bk,λh' a hx'=>hx pins σ H1 s1 h' a us I1 kq hx'⟩);rw[<-r.length];exact q
end
theorem dg.some{P:Qn}{w:Qk}{H:Hp}{h:Qm}{a:Qe}{o:HO}(x:dg P w H h a o):∃u,h.get? a=.some u:=by cases o with|lst xs=>obtain⟨_,_,_,_,e⟩:=x;exact⟨_,e⟩|tup xs=>obtain⟨_,_,_,p⟩:=x;obtain⟨o,e,_⟩:=p;exact⟨o,e⟩|dK kvs=>obtain⟨_,_,_,_,o,_,_,e,_⟩:=x;exact⟨_,e⟩|dT kvs=>obtain⟨_,_,_,_,o,_,_,e,_⟩:=x;exact⟨_,e⟩|set S n=>obtain⟨o,_,_,_,e,_⟩:=x;exact⟨_,e⟩|ins C dx fs=>obtain⟨_,_,_,e,_⟩:=x;exact⟨_,e⟩|own y=>obtain⟨o,e⟩:=x;exact⟨o,e⟩|xd fs=>obtain⟨_,⟨_,_,_,e,_⟩,_⟩:=x;exact⟨_,e⟩|rng lo hi=>obtain⟨_,_,_,e⟩:=x;exact⟨_,e⟩|frz ob u=>obtain⟨e,_⟩:=x;exact⟨_,e⟩|tbl ps=>exact⟨_,show h.get? a=.some _ from x⟩|met f y=>exact⟨_,show h.get? a=.some _ from x⟩|ext φ=>obtain⟨_,⟨o,e⟩,_⟩:=x;exact⟨o,e⟩
def Ao(l:List Env)(h h':Qm):Prop:=∀b∈jA l,∀o,h.get? b=some o->∃sl,h'.get? b=some {o with slots:=sl}
structure GY (P:Qn) (w:Qk) (fs:List Qe) (H H':Hp) (h b0:Qm):Prop where
 keep:∀b o,h.get? b=some o->H b=none->b∉fs->b0.get? b=some o
 there:∀b o,h.get? b=some o->b∉fs->∃o',b0.get? b=some o'
 free:∀b o,h.get? b=some o->H b=none->H' b=none
 tups:∀b xs,H b=some (.tup xs)->H' b=some (.tup xs)frzs:∀b o u,H b=some (.frz o u)->H' b=some (.frz o u)tbls:∀b ps,H b=some (.tbl ps)->∃more,H' b=some (.tbl (ps++more))hok:mC P w H' b0
theorem GY.un{P:Qn}{w:Qk}{l:List Env}{H H':Hp}{h b0 h2:Qm}(x:GY P w (jA l) H H' h b0)(st:b0.StaysIn h2)(sl:Ao l h h2):Un (jA l) [] H H' h h2/\mC P w H' h2:=⟨⟨λb o e n hb _=>st b o (x.keep b o e n hb),λb o e n hb _=>sl b hb o e,λb o e n _=>x.free b o e n,λb o e _=>by
 by_cases hb:b∈jA l;·obtain⟨s2,e2⟩:=sl b hb o e;exact⟨_,e2⟩
 ·obtain⟨o',e'⟩:=x.there b o e hb;exact⟨o',st b o' e'⟩,x.tups,x.frzs,x.tbls⟩,x.hok.kept st⟩
def p9(P:Qn)(w:Qk)(C:Qe):sr:=λouter H s _ e s'=>∃(a:Qe) (t:Qd) (b0:Qm) (H':Hp),e=.ref a/\s'.os=s.os/\SC s'.gens/\Heap.FlyingW b0 outer a (.ref C) t s'.heap/\Ao outer s.heap s'.heap/\H' a=none/\s.heap.get? a=none/\Kp H H'/\GY P w (jA outer) H H' s.heap b0
theorem tI{h base b0:Qm}:∀{l:List Env},(∀b∈jA l,b0.get? b=none)->h.FunFrames base l->h.FunFrames b0 l
 |[],_,_=>trivial|env::r,hn,hl=>by
  obtain⟨hk,⟨L,o,hf,_,ho,hd⟩,hr⟩:=hl;have e:jA (env::r)=L::jA r:=by unfold jA;rw[TQ,hf]
  rw[e]at hn;exact⟨hk,⟨L,o,hf,hn L ↥1,ho,hd⟩,tI (λb hb=>hn b (by simp[hb])) hr⟩
section
variable{P:Qn}{w:Qk}{K:⇑0}{mg:Str->Option Qd}{base:Qm}{N:List Str}{qual:Str}{scope:Qx}{f:Qe}{cd:Qd}{A:Qr}{outer:List Env}{s:Qf}{H:Hp}{E:XK}{C:Qe}{pins:List (Qe×Obj)}{σ:L2.St}{H1:Hp}{s1:Qf}
theorem og{CX:sr}(I:aJ (fK CX P w K mg base N qual scope f cd A outer s H E) pins σ H1 s1):(QF qual scope ↑s f cd).frame=some (QF qual scope ↑s f cd).locals/\∀b o,s.heap.get? b=some o->b∉jA outer->b∉jA (QF qual scope ↑s f cd::outer):=by
 have hf:(QF qual scope ↑s f cd).frame=some (QF qual scope ↑s f cd).locals:=by
  rcases I.ok.stk with e|e;·exact absurd (congrArg List.length (show QF qual scope ↑s f cd::outer=outer from e)) ↥1
  ·exact e.2
 refine⟨hf,λb o e hb z=>?_⟩;have frc:jA (QF qual scope ↑s f cd::outer)=(QF qual scope ↑s f cd).locals::jA outer:=by unfold jA;rw[TQ,hf]
 rw[frc]at z;have lt:=QA e;rcases Qb z with z|z;·have ab:↑s<=(QF qual scope ↑s f cd).locals:=I.ok.above;rw[z]at lt;exact absurd lt (Nat.not_lt.mpr ab)
 ·exact hb z
theorem GC{env:Env}{b:Qe}(h:b∈jA outer):b∈jA (env::outer):=by
 unfold jA at h⊢;rw[TQ];split;·exact h
 ·exact Sm _ h
theorem GY.up{CX:sr}{H':Hp}{b0:Qm}(I:aJ (fK CX P w K mg base N qual scope f cd A outer s H E) pins σ H1 s1)(x:GY P w (jA (QF qual scope ↑s f cd::outer)) H1 H' s1.heap b0):GY P w (jA outer) H H' s.heap b0:=by have ib:Un (jA outer) [] H H1 s.heap s1.heap:=I.base;have nf:=(og I).2;exact⟨λb o e n hb=>x.keep b o (ib.keep b o e n hb ↥1) (ib.free b o e n ↥1) (nf b o e hb),λb o e hb=>by obtain⟨o',e'⟩:=ib.there b o e ↥1;exact x.there b o' e' (nf b o e hb),λb o e n=>by obtain⟨o',e'⟩:=ib.there b o e ↥1;exact x.free b o' e' (ib.free b o e n ↥1),λb xs q=>x.tups b xs (ib.tups b xs q),λb o u q=>x.frzs b o u (ib.frzs b o u q),λb ps q=>by obtain⟨m1,e1⟩:=ib.tbls b ps q;obtain⟨m2,e2⟩:=x.tbls b _ e1;exact⟨m1++m2,by rw[e2,Array.append_assoc]⟩,x.hok⟩
theorem lm{l:List Env}{h h1 h2 b0:Qm}(x:Ao l h h1)(f:h1.FunFrames b0 l)(u:h1.UpToSlots h2):Ao l h h2:=λb hb o e=>by obtain⟨sl,q⟩:=x b hb o e;obtain⟨_,o',q',nf⟩:=f.mem hb;rw[q]at q';cases q';obtain⟨s2,q2⟩:=u b _ q nf;exact⟨s2,q2⟩
theorem xb{CX:sr}{a:Qe}(I:aJ (fK CX P w K mg base N qual scope f cd A outer s H E) pins σ H1 s1)(h:s1.heap.get? a=none):s.heap.get? a=none:=by have ib:Un (jA outer) [] H H1 s.heap s1.heap:=I.base;cases q:s.heap.get? a with|none=>rfl|some o=>obtain⟨o',e⟩:=ib.there a o q ↥1;rw[e]at h;cases h
theorem tU{CX:sr}(I:aJ (fK CX P w K mg base N qual scope f cd A outer s H E) pins σ H1 s1):Ao outer s.heap s1.heap:=λb hb o e=>(show Un (jA outer) [] H H1 s.heap s1.heap from I.base).slot b o e (I.ok.frf b hb) hb ↥1
theorem DB:uq (fK (p9 P w C) P w K mg base N qual scope f cd A outer s H E) C:=by
 intro pins σ H1 s1 h' a vs I hkp hx;have hst:(fK (p9 P w C) P w K mg base N qual scope f cd A outer s H E).stack=QF qual scope ↑s f cd::outer:=rfl;have sfr:=I.stkFree;have sfun:=I.stack;rw[hst]at sfr sfun;have hf:=(og I).1;have hid:∀b o,s1.heap.get? b=some o->b∉jA (QF qual scope ↑s f cd::outer)->(TN s1.heap (jA (QF qual scope ↑s f cd::outer))).get? b=some o:=λb o e hn=>PySem.W.hideAll_get _ e hn;have hx0:GY P w (jA (QF qual scope ↑s f cd::outer)) H1 H1 s1.heap (TN s1.heap (jA (QF qual scope ↑s f cd::outer))):=⟨λb o e _ hb=>hid b o e hb,λb o e hb=>⟨o,hid b o e hb⟩,λ_ _ _ n=>n,λ_ _ q=>q,λ_ _ _ q=>q,λb ps q=>⟨#[],by rw[q];simp⟩,λb u e=>(I.hok b u e).stay (λc v hc q=>hid c v q λz=>by
  have zn:=sfr c z;rcases hc with rfl|hc;·rw[e]at zn;cases zn
  ·rw[hc]at zn;cases zn) (λ_ q=>q) (λ_ _ q=>q)⟩;have kb:s1.heap.FunFrames (TN s1.heap (jA (QF qual scope ↑s f cd::outer))) (QF qual scope ↑s f cd::outer):=tI (λb hb=>PySem.W.hideAll_none _ hb) sfun;refine wpAny_leaves_madeW (base:=TN s1.heap (jA (QF qual scope ↑s f cd::outer))) (h:=s1.heap) (I.ok.frames.trans (by rw[hst])) hf (λb o e=>PySem.W.of_hideAll _ e) kb hx λh2 t fl _ _ up=>?_;refine⟨a,.ref t,_,H1,rfl,I.os,I.bare,fl,?_,?_,xb I hx.new,hkp,hx0.up I⟩;·refine lm (b0:=TN s1.heap (jA (QF qual scope ↑s f cd::outer))) (h1:=h') (λb hb o e=>?_) (kb.of_keeps λb o hb _=>⟨o,hx.keeps b o hb,rfl⟩).2.2 up;obtain⟨sl,q⟩:=tU I b hb o e;exact⟨sl,hx.keeps b _ q⟩
 ·cases q:H1 a with|none=>rfl|some u=>obtain⟨o,e⟩:=(I.hok a u q).some;have:=hx.new;rw[e]at this;cases this
theorem FQ{x:Qd}{s2:Qf}(I:aJ (fK (p9 P w C) P w K mg base N qual scope f cd A outer s H E) pins σ H1 s1)(kp:Kp H H1)(h:p9 P w C (QF qual scope ↑s f cd::outer) H1 s1 E0 x s2):(fK (p9 P w C) P w K mg base N qual scope f cd A outer s H E).xe x s2:=by obtain⟨a,t,b0,H',rfl,os,bare,fl,sl,hn,na,kp2,ex⟩:=h;have hst:(fK (p9 P w C) P w K mg base N qual scope f cd A outer s H E).stack=QF qual scope ↑s f cd::outer:=rfl;refine wpAny_leaves_onW (I.ok.frames.trans (by rw[hst])) (og I).1 fl λh2 fl2 up=>?_;refine⟨a,t,b0,H',rfl,os.trans I.os,bare,fl2,?_,hn,xb I na,λc o q=>kp2 c o (kp c o q),ex.up I⟩;refine lm (h1:=s2.heap) (b0:=b0) (λb hb o e=>?_) fl.2.2.1.2.2 up;obtain⟨s3,q3⟩:=tU I b hb o e;obtain⟨s4,q4⟩:=sl b (GC hb) _ q3;exact⟨s4,q4⟩
end
theorem G0.okX{P:Qn}{w:Qk}{K:⇑0}{mg:Str->Option Qd}{base:Qm}{CX:sr}{x qual:Str}{st:Qo}{f:Qe}{fd:QJ}{N ps:List Str}{k:Nat}{sp:Sp}(F:G0 K x qual st f fd)(S:aH N ps (au st))(len:∀vs H Q E,sp vs H Q E->vs.length=ps.length)(hb:∀(cdv:Qd) (A:Qr) (outer:List Env) (s:Qf) (H:Hp) (vs:List V) (Q:VK) (E:XK),dt k (A.deeper (QF qual (au st) ↑s f cdv))->sp vs H Q E->∃t,mD (fK CX P w K mg base N qual (au st) f cdv A outer s H E) (cI st) t/\t {nx:=λ_ H'=>Q .non H',rt:=Q} (dJ N vs) H):bu P w K mg base CX (k+1) f fd ps sp:=by obtain⟨oc,od,kV,doc,pm,an,cdv,ct,osl,e1,lk,hcd⟩:=F.ex;rw[e1]at lk⊢;exact Hb lk hcd S len λA outer s H vs Q E hr hsp=>hb cdv A outer s H vs Q E hr hsp
def nZ(e:En):Bool:=e.all λs=>match s with|none=>true|some (.d _)=>true|_=>false
theorem lK{e:En}(h:nZ e=true){σ:L2.St}{H:Hp}{a:Qe}(o:cm σ e H a):False:=by
 obtain⟨i,⟨xs,q,_⟩|⟨xss,_,_,q,_⟩⟩:=o;·have:=Rp.mp h _ (Qc q);cases this
 ·have:=Rp.mp h _ (Qc q);cases this
def fR(H0:Hp)(K:⇑0)(g:En->Prop):TS:=λ_ σ H=>∃F e,bc K F H σ e/\nZ e=true/\Kp H0 H/\g e
section
variable{X:Cx}{K:⇑0}{st r:Qo}{ic:List Qo}{c:Qh}{pos:Pos}{f1:FS}{ft:FT}{W1:List Nat}{g:En->Prop}
theorem PA.nox{es:List Qh}{t:TA}(h:PA X.nox es t):PA X es t:=λpp pins s σ H Q I hw=>Qw (h pp pins s σ H Q (I.wish _) hw) (λ_ _⟨vs,H',I',r,q⟩=>⟨vs,H',I'.unwish,r,q⟩) λ_ _ z=>Ry z
theorem KJ(hc:PT X c (fT K ft))(hr:PS X r (fR X.H₀ K g)):mD X (.If c [r] [] pos::ic) (fR X.H₀ K λe=>∃e',ft e=some (true,e')/\nZ e'=true/\g e'):=by
 intro pins s σ H D I⟨F,e,R,no,kp,e',he,no',hg⟩;have hi:=Hh (pos:=pos) hc (ng hr) (zL (X:=X));refine Uk (cj (hi pins s σ H {nx:=λ_ _=>False,rt:=λ_ _=>False} I ⟨F,e,true,e',R,he,λF' H' x R'=>?_⟩) λf s1 q=>?_);·exact yo ⟨F',e',R',no',λa o h=>x.tmp a o (kp a o h) (lK no),hg⟩
 ·cases f with|next=>obtain⟨_,_,_,z⟩:=q;exact z.elim|brk=>obtain⟨_,_,_,z⟩:=q;exact z.elim|cont=>obtain⟨_,_,_,z⟩:=q;exact z.elim|ret u=>obtain⟨_,_,_,_,_,z⟩:=q;exact z.elim
theorem Jh(hr:PS X r (fR X.H₀ K g)):mD X (r::ic) (fR X.H₀ K g):=by intro pins s σ H D I h;refine Uk (cj (hr pins s σ H {nx:=λ_ _=>False,rt:=λ_ _=>False} I h) λf s1 q=>?_);cases f with|next=>obtain⟨_,_,_,z⟩:=q;exact z.elim|brk=>obtain⟨_,_,_,z⟩:=q;exact z.elim|cont=>obtain⟨_,_,_,z⟩:=q;exact z.elim|ret u=>obtain⟨_,_,_,_,_,z⟩:=q;exact z.elim
end
def Et(K:⇑0)(n k0:Nat)(g:En->Prop):Sp:=λvs H _ _=>vs.length=n/\∃(F:Hp) (as:List Sv),bc K F H (vs.map some) (as.map some)/\nZ (as.map some)=true/\g (as.map some++Qu k0 none)
theorem CO{e:En}{k:Nat}(h:nZ e=true):nZ (e++Qu k none)=true:=by unfold nZ at h⊢;rw[List.all_append,h,Bool.true_and,Rp];intro s hs;rw[(List.mem_replicate.mp hs).2]
theorem eN.fnR{P:Qn}{w:Qk}{K:⇑0}{mg:Str->Option Qd}{base:Qm}{x:Str}{st:Qo}{f C:Qe}{fd:QJ}{N ps:List Str}{k n k0:Nat}{g:En->Prop}(h:eN K mg x st f fd ps)(S:aH N ps (au st))(hn:ps.length=n)(hN:N.length=n+k0)(hb:∀(cdv:Qd) (A:Qr) (outer:List Env) (s:Qf) (H:Hp) (E:XK),dt k (A.deeper (QF x (au st) ↑s f cdv))->mD (fK (p9 P w C) P w K mg base N x (au st) f cdv A outer s H E) (cI st) (fR H K g)):bu P w K mg base (p9 P w C) (k+1) f fd ps (Et K n k0 g):=by
 refine h.F.okX S (λvs H Q E q=>by rw[hn];exact q.1) λcdv A outer s H vs Q E hr hsp=>⟨_,hb cdv A outer s H E hr,?_⟩;obtain⟨hl,F,as,R,no,hg⟩:=hsp;have hst:dJ N vs=vs.map some++Qu k0 none:=by unfold dJ;rw[hN,hl];congr 2;lia
 rw[hst];exact⟨F,_,R.pad,CO no,λ_ _ z=>z,hg⟩
open PySem PySem.Spec PyProof.Rows PySem.W
section
variable{prog:Qn}{w:Qk}{A:Qr}{E:Qd->Qf->Prop}{h:Qm}{g:Array GenState}{d:Drawn}{t:Nat}{os:OsState}{a D:Qe}{o:Obj}{K:Frag}
structure vK (K:Frag) (D:Qe):Prop where
 ga:findIn K (.ref D) "__getattribute__"=some (some (.builtin "BaseException.__getattribute__"))gt:findIn K (.ref D) "__getattr__"=some none
 cl:findIn K (.ref D) "__class__"=some (some (.builtin "object.__class__"))mo:mroIn K D (.type "object")=some true
 mb:mroIn K D (.type "BaseException")=some true
 cs:(clsIn K D).isSome=true
theorem qu(hx:h.get? a=some o)(hc:o.cls=.ref D)(M:Model):Looks M h (typeOf (.ref a)) (.ref D):=hc▸(Looks.ld hx).andThen .now
theorem AI{tk:Tok}{Q:Fin->Qf->Prop}(X:K.In h)(Z:vK K D)(hx:h.get? a=some o)(hc:o.cls=.ref D)(hq:Q (.done (.ret (.ref D))) ⟨h,g,d,t,os⟩):Qj (Ql prog w) A (Sk.«object.__getattribute__» ⟨[.ref a,.str "__class__" tk],[]⟩) Q E ⟨h,g,d,t,os⟩:=by
 have T:=qu hx hc (Ql prog w);have L1:=looks_findIn (M:=Ql prog w) X Z.cl;have hT5:(⟨h,g,d,t,os⟩:Qf).TypeIs (.builtin "object.__class__") "getset_descriptor":=F.typeOf_object_class;have f5:=F.typeOf_object_class;have f6:=F.slot_gs_get.lookup;have f7:=F.slot_gs_set.lookup;repeat (any_goals (first|assumption|(with_reducible refine UH hx ?_;rw[hc])|with_reducible refine L1.at ?_|wp_step))
 have L2:=looks_mroIn (M:=Ql prog w) X Z.mo;refine codeAny_call_builtin F.slot_gs_get.plain F.entry_gs_get (F.slot_gs_get.check _ _ _ _ _ _ _ _ hT5 (F.args_gs_get _ _ _) ?_);unfold Sk.«getset_descriptor.__get__»Builtin.Getset_descriptor.descrGet;rw[dga_obj];refine Qi (Qp ?_);unfold Builtin.Getset_descriptor.descrGetter Builtin.Getset_descriptor.descrCheckInstance Builtin.Getset_descriptor.descrNameAndClass isInstance;simp only[KF.owner_class];repeat (any_goals (first|assumption|(with_reducible refine UH hx ?_;rw[hc])|with_reducible refine L2.at ?_|wp_step))
 refine⟨Code.quiet_builtin _ ↥2,UA KF.entry_class ?_⟩;unfold Sk.«object.__class__»shownTypeOf;repeat (any_goals (first|assumption|(with_reducible refine UH hx ?_;rw[hc])|wp_step))
theorem AH{nv:Qd}{Q:Unit->Qf->Prop}(X:K.In h)(Z:vK K D)(hx:h.get? a=some o)(hc:o.cls=.ref D)(hq:Q () ⟨h,g,d,t,os⟩):Qj (Ql prog w) A (checkBuiltinCall "BaseException.__getattribute__" ⟨[.ref a,nv],[]⟩) Q E ⟨h,g,d,t,os⟩:=by
 have L3:=looks_mroIn (M:=Ql prog w) X Z.mb;have hk:builtinKind "BaseException.__getattribute__"=some .slot:=by decide+kernel
 have hs:splitId "BaseException.__getattribute__"=some ("BaseException","__getattribute__"):=by decide+kernel
 have ha:=F.args_bexc_ga (.ref a) nv;simp only[checkBuiltinCall,hk,hs];refine Qi ?_;unfold isInstance;repeat (first|(with_reducible refine UH hx ?_;rw[hc])|with_reducible refine L3.at ?_|wp_step)
 exact hq
theorem HN{tk:Tok}{Q:Qd->Qf->Prop}(X:K.In h)(Z:vK K D)(hx:h.get? a=some o)(hc:o.cls=.ref D)(hq:Q (.ref D) ⟨h,g,d,t,os⟩):Qj (Ql prog w) A (getAttrBy (.ref a) (.str "__class__" tk) false) Q E ⟨h,g,d,t,os⟩:=by
 have L1:=looks_findIn (M:=Ql prog w) X Z.ga;have L2:=looks_findIn (M:=Ql prog w) X Z.gt;have L3:=looks_mroIn (M:=Ql prog w) X Z.mb;have f3:=F.excAttr_ValueError.ga.bind (.ref a);have hx2:(Vj "BaseException.__getattribute__"==Vj "object.__getattribute__")=false:=by decide+kernel
 have hx1:(onTheHeap (Value.ref D)&&Vj "BaseException.__getattribute__"==Vj "object.__getattribute__")=false:=by rw[hx2,Bool.and_false]
 repeat (any_goals (first|assumption|(with_reducible refine UH hx ?_;rw[hc])|with_reducible refine L1.at ?_|with_reducible refine L2.at ?_|wp_step))
 exact codeAny_call_builtin F.attr_ValueError.ga.plain F.entry_bexc_ga (AH X Z hx hc (AI X Z hx hc (handed_on rfl hq)))
theorem Cy(Z:vK K D):KitX K (.ref a) (.ref D) (λh=>∃o,h.get? a=some o/\o.cls=.ref D) where
 ty:=λM h _⟨o,h1,h2⟩=>qu h1 h2 M;it:=λM h X _=>by
  obtain⟨cd,hc⟩:=Vt.mp Z.cs;unfold clsIn at hc;split at hc;case h_2=>cases hc
  case h_1 ho=>intro A' Q' E' s' k q;unfold isType loadHead;exact Qi (wpAny_loadPart (k _ _ (X _ _ ho)) (Qp q))
 ne:=λh tp dd its n sl X htp=>by
  obtain⟨cd,hc⟩:=Vt.mp Z.cs;refine Bool.eq_false_iff.mpr λq=>?_;have e:D=tp:=Value.ref.inj (beq_iff_eq.mp q);subst e;unfold clsIn at hc;split at hc;case h_2=>cases hc
  case h_1 ho=>cases (X _ _ ho).symm.trans htp
 ca:=fun{_ _ _ _ _ s}X⟨o,h1,h2⟩k=>by obtain⟨hh,g,d,t,os⟩:=s;unfold getAttr? getAttrBy?;exact Qi (wpAny_mkText (Qi (wpAny_attempt (HN X Z h1 h2 (Qp k)))))
end
def LM(C a:Qe)(h:Qm):Prop:=∃o,h.get? a=some o/\o.cls=.ref C
def EL(C a:Qe):HO:=.ext (LM C a)
section
variable{X:Cx}{pins:List (Qe×Obj)}{σ:L2.St}{H H':Hp}{s:Qf}{n:Str}{j:Nat}
theorem EY{M:Model}{A:Qr}{E:Qd->Qf->Prop}{pos:Pos}{Q:Unit->Qf->Prop}(I:aJ X pins σ H s)(hN:X.N.Nodup)(hj:X.N[j]?=some n)(lj:X.env.scope.names.lookup n=some .local)(h:∀s',aJ X pins (σ.set j none) H s'->Q () s'):Qj M A (do bindName X.env n .none;unbindBehindTheSuite X.env n pos) Q E s:=by
 obtain⟨m,hn,hl⟩:=id I.loc;have hp:(X.env.scope.kind==.class||(X.env.scope.kind==.module&&X.env.locals !=X.env.globals))=false:=by rw[I.ok.kind];rfl
 refine wpAny_nameGoes_keeps lj hn hp λh' v hn' hs=>h _ ?_;obtain⟨oL,_,_,hoL,_⟩:=id hn;have old:∀b o,X.s₀.heap.get? b=some o->h'.get? b=s.heap.get? b:=λb o e=>hs.2 b (Rg (Rr (QA e) I.ok.above));refine⟨I.ok,I.os,I.bare,⟨λb o e k hb hx=>(old b o e).trans (I.base.keep b o e k hb hx),λb o e k hb hx=>?_,I.base.free,λb o e hx=>?_,I.base.tups,I.base.frzs,I.base.tbls⟩,⟨_,hn',λi y w e1 e2 e3=>?_⟩,λy c e=>?_,I.free,I.freeC,λp hp'=>?_,λb ob e=>?_,by rw[RY];exact I.len⟩;·obtain⟨sl,q⟩:=I.base.slot b o e k hb hx;exact⟨sl,(old b o e).trans q⟩
 ·obtain⟨o',q⟩:=I.base.there b o e hx;exact⟨o',(old b o e).trans q⟩
 ·have ij:i≠j:=λz=>by
   subst z;by_cases z2:i<σ.length;·rw[Rt z2]at e2;cases e2
   ·rw[UI (by rw[RY];lia)]at e2;cases e2
  rw[QQ (QK ij)]at e2;obtain⟨u,r,q⟩:=hl i y w e1 e2 e3;refine⟨u,r,?_⟩;have yn:y≠n:=λz=>ij (qW hN e1 (z▸hj));rcases q with⟨k,q⟩|⟨k,c,q,z⟩;·exact .inl ⟨k,(if_neg yn).trans q⟩
  ·exact .inr ⟨k,c,q,z.sameBut hs (I.cne y c q)⟩
 ·obtain⟨w,z⟩:=I.cell y c e;exact⟨w,z.sameBut hs (I.cne y c e)⟩
 ·obtain⟨e,k,ne,nf,d⟩:=I.pin p hp';exact⟨(hs.2 p.1 ne).trans e,k,ne,nf,d⟩
 ·refine(I.hok b ob e).stay (λc w hc q=>(hs.2 c ?_).trans q) (λ_ q=>q) λ_ _ q=>q;rintro rfl;have fr:=I.free;rcases hc with rfl|hc;·rw[fr]at e;cases e
  ·rw[fr]at hc;cases hc
abbrev Cx.inX(X:Cx)(a:Qe):Cx:={X with A:=X.A.mark (some (.ref a)),calm:=false,xe:=λ_ _=>False}
theorem aJ.inX(I:aJ X pins σ H s)(a:Qe):aJ (X.inX a) pins σ H s:=⟨⟨I.ok.mod,I.ok.kind,I.ok.glob,I.ok.blt,I.ok.above,I.ok.inj,I.ok.has,I.ok.cab,λz=>(by cases z),I.ok.frames,I.ok.stk,I.ok.exf,I.ok.bs,I.ok.bsz,I.ok.noex,I.ok.exfs,I.ok.funs,I.ok.frf⟩,I.os,I.bare,I.base,I.loc,I.cell,I.free,I.freeC,I.pin,I.hok,I.len⟩
theorem aJ.outX{a:Qe}(I:aJ (X.inX a) pins σ H s)(hd:X.calm=true->X.A.handled=none):aJ X pins σ H s:=⟨⟨I.ok.mod,I.ok.kind,I.ok.glob,I.ok.blt,I.ok.above,I.ok.inj,I.ok.has,I.ok.cab,hd,I.ok.frames,I.ok.stk,I.ok.exf,I.ok.bs,I.ok.bsz,I.ok.noex,I.ok.exfs,I.ok.funs,I.ok.frf⟩,I.os,I.bare,I.base,I.loc,I.cell,I.free,I.freeC,I.pin,I.hok,I.len⟩
theorem aJ.raised{C a:Qe}{t:Qd}{b0 h2:Qm}{g':Array GenState}{d':Drawn}{t':Nat}(I:aJ X pins σ H s)(hf:Heap.FlyingW b0 X.stack a (.ref C) t h2)(sl:Ao X.stack s.heap h2)(hn:H' a=none)(na:s.heap.get? a=none)(bare:SC g')(un:GY X.prog X.w (jA X.stack) H H' s.heap b0):aJ X pins σ (bz H' a (EL C a)) {s with heap:=h2,gens:=g',drawn:=d',toks:=t'}:=by
 obtain⟨u,ok⟩:=un.un hf.1 sl;obtain⟨oe,vs,he,hc,hd,_⟩:=hf.first;have nb:∀b o,H' b=some o->b≠a:=λb o q z=>by subst z;rw[hn]at q;cases q
 refine I.call (ch:=[]) ⟨u.keep,u.slot,λb o e k hx=>?_,u.there,λb xs q=>?_,λb o v q=>?_,λb ps q=>?_⟩ (λb o e=>?_) bare (λb z=>by cases z);·rw[aA λz=>by subst z;rw[na]at e;cases e];exact u.free b o e k hx
 ·have:=u.tups b xs q;rw[aA (nb b _ this)];exact this
 ·have:=u.frzs b o v q;rw[aA (nb b _ this)];exact this
 ·obtain⟨mo,q⟩:=u.tbls b ps q;exact⟨mo,by rw[aA (nb b _ q)];exact q⟩
 ·by_cases z:b=a;·subst z;rw[aw]at e;cases e;exact⟨⟨oe,he,hc⟩,⟨oe,he⟩,λh1 h3⟨o,q1,q2⟩k=>⟨o,k o q1,q2⟩⟩
  ·rw[aA z]at e;exact(ok b o e).stay (λ_ _ _ q=>q) (λc q=>by rw[aA (nb c _ q)];exact q) λc xs q=>by rw[aA (nb c _ q)];exact q
end
section
variable{X:Cx}{C Cb f:Qe}{fd:QJ}{ps:List Str}{k n k0 i j:Nat}{g:En->Prop}{fn B kx nx:Str}{p pos ep bp kp np ap hp tp:Pos}{e:Qh}{es:List Qh}{t:TA}
theorem Dj(hcalm:X.calm=true)(hst:X.stack=X.env::X.outer)(F:bu X.prog X.w X.K X.mg X.base (p9 X.prog X.w C) k f fd ps (Et X.K n k0 g))(hr:dt k X.A)(hg:Gl X fn)(hm:X.mg fn=some (.ref f))(hk:Tn X.K (.ref f)=true)(hb:p8 X.K fd ps [])(ha:PA X.nox (e::es) t)(hB:Gl X B)(hmB:X.mg B=some (.ref Cb))(hex:PySem.W.exmOne X.K (.ref C) (.ref Cb)=some true)(nd:X.N.Nodup)(hi:X.N[i]?=some kx)(hj:X.N[j]?=some nx)(li:X.env.scope.names.lookup kx=some .local)(lj:X.env.scope.names.lookup nx=some .local)(ij:i≠j)(hs:So (.Call (.Name fn p) (e::es) [] pos) none ep.line X.env=pure false:=by rfl)(hs2:So (.Name nx np) (some (.Name kx kp)) ap.line X.env=pure false:=by rfl)(hdb:(fn==("__debug__":Str))=false:=by decide)(hdB:(B==("__debug__":Str))=false:=by decide)(hdn:(nx==("__debug__":Str))=false:=by decide)(hdc:(nx==("__classdict__":Str))=false:=by decide)(he:Qq (e::es) X.env=(false,Qs e X.env)::Qq es X.env:=by rfl)(hpl:(QH pos (Qq es X.env)).any (·.1)=false:=by rfl):PS X (.Try [.Expr (.Call (.Name fn p) (e::es) [] pos) ep] [.ExceptHandler (some (.Name B bp)) (some nx) [.Assign [.Name kx kp] (.Name nx np) ap] hp] [] [] tp) (λD σ H=>t σ H λvs H1=>Et X.K n k0 g vs H1 (λ_ _=>False) E0/\∀a H',Kp H1 H'->H' a=none->D.nx (((σ.set j (some (.ref a))).set i (some (.ref a))).set j none) (bz H' a (EL C a))):=by
 intro pins s σ H D I h;refine wpAny_Try_except (Uk (wpAny_Expr_any ?_ I.quiet hs));refine Ur (lF I hg hm ?_ hdb);refine Vs (h₀:=X.base) I.ok.mod.kin hk (Qw (ha pos pins s σ H _ (I.wish _) h) (λus s1⟨vs,H1,I1,r,q,qD⟩=>⟨I1.kIn,?_⟩) λ_ _ z=>z.elim) he hpl;have I1:aJ X pins σ H1 s1:=I1.unwish;have hl:us.length=ps.length:=by rw[<-r.length];exact F.len _ _ _ _ q
 refine wpAny_call (Uq (F.run X.A X.stack s1 H1 ⟨us,[]⟩ us vs (λ_ _=>False) E0 hr I1.env0 (by have:=hb s1 us I1.kIn (by rw[RF];exact hl);rw[RF]at this;exact this) r q) λr s' hq=>?_);cases r with
 |ok fl=>cases fl with|ret u=>obtain⟨_,_,_,_,_,_,_,z⟩:=hq;exact z.elim|next=>exact Ry hq|brk=>exact Ry hq|cont=>exact Ry hq
 |error x=>
  obtain⟨a,ta,b0,H',rfl,os,bare,fl,sl,hn,na,kpp,un⟩:=hq;have hfr:X.A.frames=some (X.env::X.outer):=by rw[I.ok.frames,hst]
  have hf:X.env.frame=some X.env.locals:=by
   rcases I.ok.stk with z|z;·rw[hst]at z;exact absurd (congrArg List.length z) ↥1
   ·exact z.2
  have fl':=fl;rw[hst]at fl;refine wpAny_looks_onW hfr hf fl λh2 held up2=>?_;have sl2:=lm sl fl'.2.2.1 up2;refine wpAny_landsW (s:={s' with heap:=h2}) held λh3 fl3 up3=>?_;rw[<-hst]at fl3 held;have sl3:=lm sl2 held.2.2.1 up3;obtain⟨hh,g',d',t',o'⟩:=s';have eo:o'=s1.os:=os;subst eo;have I3:=I1.raised (h2:=h3) (g':=g') (d':=d') (t':=t') fl3 sl3 hn na bare un;obtain⟨oe,vs0,e3,c3,_,_⟩:=fl3.first;refine wpAny_handleBy_cons (codeAny_handlers_test (lF (I3.inX a) hB hmB ?_ hdB)) (by intro z;cases z);refine(PySem.W.exm_one (M:=Ql X.prog X.w) I3.kIn (qu e3 c3 _) hex).at ?_;show Rh _ _ _ _ _;refine codeAny_handlers_suite_as ?_;refine lands_againW (s:={heap:=h3,gens:=g',drawn:=d',toks:=t',os:=s1.os}) fl3 λh4 fl4 up4=>?_;have sl4:=lm sl3 fl3.2.2.1 up4;have I4:=(I1.raised (h2:=h4) (g':=g') (d':=d') (t':=t') fl4 sl4 hn na bare un);refine lr I4 nd hj (.inl lj) (v:=.ref a) rfl (λs5 I5=>?_) (.inr lj);have hjl:j<σ.length:=by rw[I.len];exact(P_ hj).1
  have as:=ng (rC (X:=X.inX a) (pos:=ap) (pos':=kp) nd hi (.inl li) (hJ (X:=X.inX a) (pos:=np) hj (.inl lj) hdn hdc) hs2 (.inr li));refine Qw (as pins s5 _ _ {nx:=λσ' H''=>σ'=(σ.set j (some (.ref a))).set i (some (.ref a))/\H''=bz H' a (EL C a),rt:=λ_ _=>False} (I5.inX a) ⟨.ref a,by rw[Rt hjl],rfl,rfl⟩) (λfl s6 q6=>?_) λ_ _ z=>z.elim;cases fl with|next=>obtain⟨σ6,H6,I6,e6,e7⟩:=q6;subst e6 e7;exact EY (I6.outX I.ok.hd) nd hj lj λs7 I7=>⟨_,_,I7,qD a _ kpp hn⟩|brk=>obtain⟨_,_,_,z⟩:=q6;exact z.elim|cont=>obtain⟨_,_,_,z⟩:=q6;exact z.elim|ret u=>obtain⟨_,_,_,_,_,z⟩:=q6;exact z.elim
end
section
variable{X:Cx}{C:Qe}{i:Nat}{x c:Str}{p p1 p2 pos:Pos}{v:V}{u:Qd}{b:Bool}
theorem BS(Z:vK X.K C):eA X (.builtin "isinstance") (λxs H Q=>∃a v u b,xs=[.ref a,v]/\H a=some (EL C a)/\(∀u',bC v u'->u'=u)/\Sa X.K (.ref C) u=some b/\Q (.bl b) H):=by
 intro pins s σ H xs us Q I r h;obtain⟨a,v,u,b,rfl,ha,hu,hk,q⟩:=h;obtain⟨u1,u2,rfl,r1,r2⟩:∃u1 u2,us=[u1,u2]/\bC (.ref a) u1/\bC v u2:=by cases r with|cons p q=>cases q with|cons p' q'=>cases q';exact⟨_,_,rfl,p,p'⟩
 cases (show u1=Value.ref a from r1);cases hu u2 r2;obtain⟨o,h1,h2⟩:=(show dg X.prog X.w H s.heap a (EL C a) from I.hok a _ ha).1;exact PySem.W.kia_one (Cy Z) I.kIn ⟨o,h1,h2⟩ hk (λz=>nomatch z) λtk=>⟨.bl b,H,I.tok _,rfl,q⟩
def Lg(i:Nat)(C:Qe)(b:Bool):TE:=λσ H Q=>∃a,σ[i]?=some (some (.ref a))/\H a=some (EL C a)/\Q (.bl b) H
theorem oi(Z:vK X.K C)(hg:Gl X "isinstance")(hm:X.mg "isinstance"=none)(hv:Sb "isinstance"=some (.builtin "isinstance"))(hx:PE X (.Name x p1) (pN i))(hc:PE X (.Name c p2) (tC v))(hu:∀u',bC v u'->u'=u)(hk:Sa X.K (.ref C) u=some b)(he:Qq [.Name x p1,.Name c p2] X.env=(false,Qs (.Name x p1) X.env)::Qq [.Name c p2] X.env:=by rfl)(he2:Qq [.Name c p2] X.env=(false,Qs (.Name c p2) X.env)::Qq [] X.env:=by rfl)(hpl:(QH pos (Qq [.Name c p2] X.env)).any (·.1)=false:=by rfl):PE X (.Call (.Name "isinstance" p) [.Name x p1,.Name c p2] [] pos) (Lg i C b):=(rq (BS Z) hg hm hv (bO hx (bO hc g_ he2) he) ⋯ ⋯ he hpl).mono λσ H Q⟨a,h1,h2,q⟩=>⟨.ref a,h1,a,v,u,b,rfl,h2,hu,hk,q⟩
end
def L4(C:Qe)(bs:List Bool):Sp:=λvs H Q _=>∃a,vs=[.ref a]/\H a=some (EL C a)/\∀l H',H' l=some (.lst (bs.map V.bl))->Kp H H'->Q (.ref l) H'
abbrev t3(C:Qe)(b1 b2 b3:Bool):TE:=Jn (nJ (Lg 0 C b1) (nJ (Lg 0 C b2) (nJ (Lg 0 C b3) D8)))
theorem qM{H:Hp}{l:Qe}{o:HO}(h:H l=none):Kp H (bz H l o):=λa u e=>by rw[aA λz=>by subst z;rw[h]at e;cases e];exact e
theorem Gp{C a:Qe}{b1 b2 b3 b4 b5 b6:Bool}{D:su}{H:Hp}(ha:H a=some (EL C a))(q:∀l H',H' l=some (.lst ([b1,b2,b3,b4,b5,b6].map V.bl))->Kp H H'->D.rt (.ref l) H'):K0 (D4 (t3 C b1 b2 b3) (wu 1)) (Jp (Jo Gk (pN 1) (t3 C b4 b5 b6))) D [some (.ref a),none] H:=by refine⟨a,rfl,ha,a,rfl,ha,a,rfl,ha,(show 3<=Qv by decide),λl hl=>?_⟩;have k1:Kp H (bz H l (.lst [.bl b1,.bl b2,.bl b3])):=qM hl;refine⟨.ref l,rfl,a,rfl,k1 _ _ ha,a,rfl,k1 _ _ ha,a,rfl,k1 _ _ ha,(show 3<=Qv by decide),λp hp=>?_⟩;have k2:=qM (o:=.lst [.bl b4,.bl b5,.bl b6]) hp;refine⟨l,p,_,_,rfl,rfl,k2 _ _ aw,aw,(show 6<=Qv by decide),λz hz=>?_⟩;exact q z _ aw λc o e=>qM hz c o (k2 c o (k1 c o e))
open Classical in
def JH(n k0:Nat)(g:En->Prop):FM:=λas=>if as.length=n/\nZ (as.map some)=true/\g (as.map some++Qu k0 none) then some (.d (.bool true),as) else none
theorem Im{n k0:Nat}{g:En->Prop}{as:List Sv}(h1:as.length=n)(h2:nZ (as.map some)=true)(h3:g (as.map some++Qu k0 none)):JH n k0 g as=some (.d (.bool true),as):=if_pos ⟨h1,h2,h3⟩
section
variable{K:⇑0}
theorem xZ{F:Hp}:∀bs:List Bool,aR K F (bs.map PyData.bool) (bs.map V.bl)|[]=>aR.nil|b::r=>by rw[QB,QB];simp only[aR];exact⟨_,_,rfl,eV.mpr rfl,xZ r⟩
theorem HM{n k0:Nat}{g:En->Prop}{vs:List V}{H H':Hp}{Q:VK}{E:XK}(h:fX K n (JH n k0 g) vs H Q E)(kp:Kp H H'):Q (.bl true) H':=by
 obtain⟨hl,F,as,r,as',R,nN,hm,nr,q⟩:=h;unfold JH at hm;split at hm;case isFalse=>cases hm
 case isTrue hc=>
 cases hm;have no:∀{a:Qe}{Z:Hp},¬cm (vs.map some) (as.map some) Z a:=λz=>lK hc.2.1 z;have nol:∀(i:Nat) (xs:List Qg),(as.map some)[i]?≠some (some (.l xs)):=λi xs z=>by have:=Rp.mp hc.2.1 _ (Qc z);cases this
 have non:∀(i:Nat) (xs:List (List Qg)),(as.map some)[i]?≠some (some (.n xs)):=λi xs z=>by have:=Rp.mp hc.2.1 _ (Qc z);cases this
 refine q F H' (.bl true) ⟨aG.refl _,λa z=>?_,λ_ _ z _ _=>z,λa vs z=>⟨vs,kp a _ z⟩,λa o z _=>kp a o z,λ_=>Iff.rfl,λa z=>(no z).elim,λ_ _ z _ _=>z⟩ ⟨λa o z=>kp a o (R.sm a o z),R.len,R.dat,λi xs z=>(nol i xs z).elim,λi xs z=>(non i xs z).elim,λi j a z=>(no ⟨i,z⟩).elim⟩ (show DA K F (.bool true) (.bl true) from eV.mpr rfl);cases e:H a with|none=>rfl|some o=>rw[kp a o e]at z;cases z
theorem D1{n k0:Nat}{g:En->Prop}{vs:List V}{H:Hp}{Q Q':VK}{E E':XK}(h:fX K n (JH n k0 g) vs H Q E):Et K n k0 g vs H Q' E':=by
 obtain⟨hl,F,as,r,as',R,nN,hm,nr,q⟩:=h;unfold JH at hm;split at hm;case isFalse=>cases hm
 case isTrue hc=>exact⟨hl,F,as,R,hc.2.1,hc.2.2⟩
theorem vo(bs:List Bool):Ru (.list (bs.map PyData.bool))=true:=by
 have h1:RZ (bs.map PyData.bool)=true:=by induction bs with|nil=>rfl|cons n r ih=>simp[RZ,RB,ih]
 have h2:RT (bs.map PyData.bool)=0:=by clear h1;induction bs with|nil=>rfl|cons n r ih=>simp[RT,Ro,ih]
 simp[Ru,RB,Ro,h1,h2]
theorem AG(bs:List Bool):RU (.list (bs.map PyData.bool)) (.list (bs.map PyData.bool))=true:=by
 have h:UD (bs.map PyData.bool) (bs.map PyData.bool)=true:=by induction bs with|nil=>simp[UD]|cons b r ih=>cases b<;>simp[UD,RU,ih]
 simp[RU,h]
theorem Gn{C a:Qe}{i:Nat}{bs:List Bool}{D:su}{H:Hp}{σ:L2.St}{tl:TA}(h0:σ[i]?=some (some (.ref a)))(ha:H a=some (EL C a))(hl:bs.length<=60)(ht:∀H Q,Q (bs.map V.bl) H->tl σ H Q)(q:∀H',Kp H H'->D.rt (.bl true) H'):Jp (Jo (Gm K false) (z9 (L4 C bs) [] E0 (nJ (pN i) D8)) (Jn tl)) D σ H:=by refine⟨.ref a,h0,a,rfl,ha,λl H1 e1 k1=>?_⟩;refine ht _ _ ⟨by rw[Qz];exact QP hl ⋯,λp hp=>?_⟩;have k2:=qM (o:=.lst (bs.map V.bl)) hp;have sh:Ru (.list (bs.map PyData.bool))=true:=vo bs;refine⟨.list (bs.map .bool),.list (bs.map .bool),cB.mpr ⟨l,_,rfl,jR.of (k2 _ _ e1),xZ bs⟩,cB.mpr ⟨p,_,rfl,jR.of aw,xZ bs⟩,sh,sh,?_⟩;have e:RU (.list (bs.map .bool)) (.list (bs.map .bool))=true:=AG bs;rw[if_neg ⋯,e];exact q _ λc o z=>k2 c o (k1 c o z)
end
theorem cz.len{K:⇑0}{σ:L2.St}{H0 F H:Hp}{e:En}:∀{rs:List Rv}{vs:List V},cz K σ H0 F H e rs vs->vs.length=rs.length|[],vs,h=>by rw[show vs=[]from h];rfl|r::rs,vs,h=>by obtain⟨v,ws,rfl,_,h2⟩:=h;rw[Rk,Rk,cz.len h2]
theorem zS{K:⇑0}{σ:L2.St}{H0 F H:Hp}{e:En}:∀{ds:List Qg}{vs:List V},cz K σ H0 F H e (ds.map Rv.d) vs->∀(i:Nat) (x:Qg),ds[i]?=some x->∃v,vs[i]?=some v/\DA K F x v|[],vs,_,i,x,h=>by simp at h|d::ds,vs,h,i,x,hi=>by obtain⟨v,ws,rfl,h1,h2⟩:=h;cases i with|zero=>simp at hi;subst hi;exact⟨v,rfl,h1⟩|succ i=>exact zS h2 i x (by simpa using hi)
theorem Jb{K:⇑0}{σ:L2.St}{H0 F H:Hp}{e:En}{ds:List Qg}{vs:List V}(sm:aG F H)(h:cz K σ H0 F H e (ds.map Rv.d) vs):bc K F H (vs.map some) ((ds.map Sv.d).map some)/\nZ ((ds.map Sv.d).map some)=true:=by
 have no:nZ ((ds.map Sv.d).map some)=true:=by unfold nZ;rw[Rp];intro s hs;obtain⟨y,hy,rfl⟩:=Qa hs;obtain⟨x,_,rfl⟩:=Qa hy;rfl
 refine⟨⟨sm,by have:=h.len;simp at this⊢;exact this,λi x q=>?_,λi xs q=>(lK (σ:=(ds.map λ_=>some (V.ref 0))) (H:=H) (a:=0) no ?_).elim,λi xs q=>?_,λi j a z=>(lK no ⟨i,z⟩).elim⟩,no⟩;·rw[QD,QD]at q;obtain⟨y,hy,e1⟩:=P9 q;obtain⟨z,hz,e2⟩:=P9 hy;cases e2;cases e1;obtain⟨v,hv,hd⟩:=zS h i x hz;exact⟨v,by rw[QD,hv];rfl,hd⟩
 ·have:=Rp.mp no _ (Qc q);cases this
 ·have:=Rp.mp no _ (Qc q);cases this
section
variable{X:Cx}{K:⇑0}{C:Qe}{x:Str}{p pos rp:Pos}{e:Qh}{fs:FA}
theorem DL(hcalm:X.calm=true)(hg:Gl X x)(hm:X.mg x=some (.ref C))(hC:Uh X.K C Br "ValueError.__new__"=true)(hx:uq X C)(ha:PA X.nox [e] (fA K fs))(hdb:(x==("__debug__":Str))=false:=by decide)(he:Qq [e] X.env=[(false,Qs e X.env)]:=by rfl):PS X (.Raise (some (.Call (.Name x p) [e] [] pos)) none rp) (fR X.H₀ K λe=>∃(rs:List Rv) (e':En),fs e=some (rs,e')/\rs.length=1):=PS.mono (Dl hcalm hg hm hC hx (PA.nox ha) hdb he) λD σ H⟨F,e,R,no,kp,rs,e',he,hl⟩=>⟨F,e,rs,e',R,he,λF' H' vs x R' A=>⟨by rw[A.len,hl];decide,λa o h=>x.tmp a o (kp a o h) (lK no)⟩⟩
end
section
variable{P:Qn}{w:Qk}{K:⇑0}{mg:Str->Option Qd}{base:Qm}{N ps:List Str}{qual fn:Str}{scope:Qx}{fa f:Qe}{cd:Qd}{A:Qr}{outer:List Env}{s:Qf}{H:Hp}{E:XK}{C:Qe}{st:Qo}{fd:QJ}{k n k0:Nat}{g:En->Prop}{p pos ep:Pos}{e:Qh}{es:List Qh}{fs:FA}
theorem Gu(h:eN K mg fn st f fd ps)(F:bu P w K mg base (p9 P w C) k f fd ps (Et K n k0 g))(hr:dt k (fK (p9 P w C) P w K mg base N qual scope fa cd A outer s H E).A)(hg:Gl (fK (p9 P w C) P w K mg base N qual scope fa cd A outer s H E) fn)(ha:PA (fK (p9 P w C) P w K mg base N qual scope fa cd A outer s H E).nox (e::es) (fA K fs))(hs:So (.Call (.Name fn p) (e::es) [] pos) none ep.line (fK (p9 P w C) P w K mg base N qual scope fa cd A outer s H E).env=pure false:=by rfl)(hdb:(fn==("__debug__":Str))=false:=by decide)(he:Qq (e::es) (fK (p9 P w C) P w K mg base N qual scope fa cd A outer s H E).env=(false,Qs e (fK (p9 P w C) P w K mg base N qual scope fa cd A outer s H E).env)::Qq es (fK (p9 P w C) P w K mg base N qual scope fa cd A outer s H E).env:=by rfl)(hpl:(QH pos (Qq es (fK (p9 P w C) P w K mg base N qual scope fa cd A outer s H E).env)).any (·.1)=false:=by rfl):PS (fK (p9 P w C) P w K mg base N qual scope fa cd A outer s H E) (.Expr (.Call (.Name fn p) (e::es) [] pos) ep) (fR H K λe=>∃(ds:List Qg) (e':En),fs e=some (ds.map Rv.d,e')/\ds.length=n/\g ((ds.map Sv.d).map some++Qu k0 none)):=by
 intro pins s0 σ H0 D I⟨F0,en,R,no,kp,ds,e',hfs,hl,hg'⟩;refine wpAny_Expr_any ?_ I.quiet hs;refine Ur (lF I hg h.m ?_ hdb);refine Vs (h₀:=base) I.ok.mod.kin h.F.kp (Qw (ha pos pins s0 σ H0 (λvs H1=>Et K n k0 g vs H1 (λ_ _=>False) E0/\Kp H H1) (I.wish _) ⟨F0,en,_,e',R,hfs,λF' H' vs x R' A'=>?_⟩) (λus s1⟨vs,H1,I1,r,q,kq⟩=>⟨I1.kIn,?_⟩) λ_ _ z=>z.elim) he hpl;·obtain⟨rr,nn⟩:=Jb R'.sm A';exact⟨⟨by rw[A'.len,Qz];exact hl,F',ds.map Sv.d,rr,nn,hg'⟩,λa o z=>x.tmp a o (kp a o z) (lK no)⟩
 ·have I1:=I1.unwish;have hl':us.length=ps.length:=by rw[<-r.length];exact F.len _ _ _ _ q
  refine wpAny_call (Uq (F.run _ _ s1 H1 ⟨us,[]⟩ us vs (λ_ _=>False) E0 hr I1.env0 (by have:=h.b s1 us I1.kIn (by rw[RF];exact hl');rw[RF]at this;exact this) r q) λr s' hq=>?_);cases r with
  |ok fl=>cases fl with|ret u=>obtain⟨_,_,_,_,_,_,_,z⟩:=hq;exact z.elim|next=>exact Ry hq|brk=>exact Ry hq|cont=>exact Ry hq
  |error y=>exact FQ I1 kq hq
end
section
variable{X:Cx}{C:Qe}{i:Nat}{x:Str}{p p1 p2 pos:Pos}{vs:List V}{us:List Qd}{b:Bool}{cs:List Qh}{ctx:Nat}
end
abbrev Lu(l:List Nat):Prop:=l.Pairwise (·<·)
section
variable{prog:Qn}{w:Qk}{A:Qr}{E:Qd->Qf->Prop}{s:Qf}
end
section
variable{prog:Qn}{w:Qk}{A:Qr}{E:Qd->Qf->Prop}{s:Qf}
end
def MK(t:SetTable):Nat->Nat|0=>0|i+1=>t.place.getD i 0+1
inductive Lw (w:Qk) (a:Qe) (es:Array (Int×Qd)) (ep:Nat) (t:SetTable) (h:Qm):List Qd->Qe->Nat->Qd->Prop where|text (hb:w.params.followText "set-order"=true) (p:Qe) (i:Nat) (hp:p=a):Lw w a es ep t h ((pickOrder (w.params.setOrder a ep) es).toList.map (·.2)) p i (Se 0)|led (hb:w.params.followText "set-order"=false) (hd:(!t.plain&&es.size>1)=false) (hl:t.led=true) (hr:Lu t.place.toList) (p:Qe) (i:Nat) (hp:p=a):Lw w a es ep t h (es.toList.map (·.2)) p i (Se (MK t i))|drawn (hb:w.params.followText "set-order"=false) (p:Qe) (i:Nat) (ys:List Nat) (hy:ys.Perm (RV es.size)) (hp:IsTup h p (ys.map fun(i:Nat)=>Se i).toArray):Lw w a es ep t h (ys.filterMap λi=>es[i]?.map (·.2)) p i (.ref p)
section
variable{prog:Qn}{w:Qk}{A:Qr}{E:Qd->Qf->Prop}{s:Qf}
end
section
variable{prog:Qn}{w:Qk}{A:Qr}{E:Qd->Qf->Prop}{s:Qf}{I a p:Qe}{es:Array (Int×Qd)}{ep:Nat}{t:SetTable}{L:List Qd}{i:Nat}
end
section
variable{prog:Qn}{w:Qk}{A:Qr}{E:Qd->Qf->Prop}{s:Qf}{a:Qe}{es:Array (Int×Qd)}{ep:Nat}{t:SetTable}
end
section
variable{prog:Qn}{w:Qk}{A:Qr}{E:Qd->Qf->Prop}{s:Qf}
end
section
variable{prog:Qn}{w:Qk}{A:Qr}{E:Qd->Qf->Prop}{s:Qf}
end
section
variable{X:Cx}{K:⇑0}{a:Qh}{fa:FE}{pos p pos2 p2:Pos}
end
def KI(a b c:Int)(t u v:Tok):Obj:={cls:=.type "range",data:=.fields #[.int a t,.int b u,.int c v]}
section
variable{X:Cx}{K:⇑0}{a b1 b2 b3:Qh}{fa:FE}{fs:FA}{pos p pos2 p2:Pos}
def K9(q:Qe)(i j k:Int)(h:Qm):Prop:=∃t u v,h.get? q=some (KI i j k t u v)
def LX:List V->Hp->VK->Prop:=λxs H Q=>∃i j k,xs=[.int i,.int j,.int k]/\0<k/\k<2^30/\-2^60<i/\i<2^60/\-2^60<j/\j<2^60/\∀q,H q=none->Q (.ref q) (bz H q (.ext (K9 q i j k)))
theorem BU:eA X (.type "range") LX:=by intro pins s σ H xs us Q I r h;obtain⟨i,j,k,rfl,k0,k1,i0,i1,j0,j1,q⟩:=h;cases r with|cons r1 r=>cases r with|cons r2 r=>cases r with|cons r3 r=>cases r;obtain⟨t,rfl⟩:=r1;obtain⟨u,rfl⟩:=r2;obtain⟨v,rfl⟩:=r3;have hf:H ↑s=none:=I.hok.fresh ↥8;refine call_range_3 ↥0 ?_ (.inl (PyProof.noPylong_small ↥0));refine⟨.ref ↑s,_,I.laid (o:=.ext (K9 ↑s i j k)) (t':=s.toks) (λb o e=>QG _ e) ↥8 ⟨⟨t,u,v,Rf _ rfl⟩,⟨_,Rf _ rfl⟩,λh1 h2⟨t,u,v,e⟩k=>⟨t,u,v,k _ e⟩⟩,rfl,q _ hf⟩
end
section
variable{prog:Qn}{w:Qk}{A:Qr}{E:Qd->Qf->Prop}{s:Qf}
theorem DF{r:Qe}{a b c:Int}{t u v:Tok}{n:Nat}{R:Result->Qf->Prop}(hh:A.handled=none)(hr:IsRange s.heap r a b c t u v)(hsmall:SX a b c=true)(hn:QW a b c=n)(hlen:n<=2^24)(h:∀g tk acc c',(∀b o,s.heap.get? b=some o->g.get? b=some o)->g.get? ↑s=some {cls:=.type "list",dict:=none,data:=.seq acc c',slots:=#[]}->ItemsOf (λi v=>∃t,v=.int (a+i*c) t) acc n->R (.ok (.ret (.ref ↑s))) {s with heap:=g,toks:=tk}):Rh (Ql prog w) A (.builtin "proto.collect" ⟨[.ref r],[]⟩) R s:=by refine UA F.entry_proto_collect ?_;rw[Around.under_plainId F.plain_proto_collect _];show Qj _ A.in1 (newList []>>=λl=>QT (.builtin "list.__iadd__" ⟨[l,.ref r],[]⟩)) _ _ s;refine Qi (Sd ?_);refine Qp ⟨plainId_quiet F.plain_list_iadd _,UA F.entry_list_iadd ?_⟩;rw[Around.under_plainId F.plain_list_iadd _];have hS₁:(s.heap.push {cls:=.type "list",data:=.seq ([]:List Qd).toArray}).get? ↑s=some {cls:=.type "list",data:=.seq ([]:List Qd).toArray}:=Rf _ rfl;show Qj _ A.in1 (VB (.ref ↑s) (.ref r) (.ref ↑s)) _ _ _;exact wpAny_extend_range (R:=R) (s:={s with heap:=s.heap.push {cls:=.type "list",data:=.seq ([]:List Qd).toArray}}) hh (QG _ hr) hsmall hn hlen ↑s (.ref ↑s) 0 hS₁ λh' tk acc' c'' hk hS' hacc=>h h' tk acc' c'' (λb o e=>hk b o (Rg (QA e)) (QG _ e)) hS' hacc
theorem xn{r:Qe}{a b c:Int}{t u v:Tok}{n:Nat}{Q:List Qd->Qf->Prop}(hh:A.handled=none)(hr:IsRange s.heap r a b c t u v)(hsmall:SX a b c=true)(hn:QW a b c=n)(hlen:n<=2^24)(h:∀g tk acc,(∀b o,s.heap.get? b=some o->g.get? b=some o)->ItemsOf (λi v=>∃t,v=.int (a+i*c) t) acc n->Q acc.toList {s with heap:=g,toks:=tk}):Qj (Ql prog w) A (collect (.ref r)) Q E s:=by unfold collect;refine Qi (wpAny_runValue (DF hh hr hsmall hn hlen λg tk acc c' hk hS' hacc=>?_));show Qj _ A (load ↑s>>=_) _ _ _;refine Qi (wpAny_load hS' ?_);exact Qp (h g tk acc hk hacc)
theorem GM(r:Qe)(a b c:Int)(t u v:Tok)(n:Nat)(hsmall:SX a b c=true)(hn:QW a b c=n)(hlen:n<=100000):Meets (Sk.«tuple.__new__» ⟨[.type "tuple",.ref r],[]⟩) (λA R s=>A.handled=none/\IsRange s.heap r a b c t u v/\∀(g:Qm) (tk:Nat) (acc:Array Qd),(∀b o,s.heap.get? b=some o->g.get? b=some o)->ItemsOf (λi v=>∃t,v=.int (a+i*c) t) acc n->R (.ok (.ret (.ref g.objs.size))) {s with heap:=g.push {cls:=.type "tuple",data:=.seq acc},toks:=tk}):=.of_wp λprog w A R s h=>by
 obtain⟨hh,hI,h⟩:=h;have q1:=sub_tuple_self;have q2:=init_tuple_lookup;have q3:=madeHere_tuple;have hT:s.TypeIs (.ref r) "range":=⟨_,hI,rfl⟩;have hh1:A.in1.handled=none:=hh;have hl2:n<=2^24:=QP hlen ⋯;wp_walk using Uu hT,xn hh1 hI hsmall hn hl2;intro g tk acc hm hacc;show Qj _ _ (To acc.toList.toArray>>=λv=>ret v) _ _ _;unfold To;refine Qi (Sd ?_ (show acc.toList.toArray.size<=Qv by simp only[Array.toArray_toList];rw[hacc.1,Rm];lia));refine Qp ⟨_,rfl,?_⟩;have e:acc.toList.toArray=acc:=by simp
 rw[e];exact h g tk acc hm hacc
theorem vD{r:Qe}{a b c:Int}{t u v:Tok}{n:Nat}{Q:Qd->Qf->Prop}(hh:A.handled=none)(hr:IsRange s.heap r a b c t u v)(hsmall:SX a b c=true)(hn:QW a b c=n)(hlen:n<=100000)(h:∀(g:Qm) (tk:Nat) (acc:Array Qd),(∀b o,s.heap.get? b=some o->g.get? b=some o)->ItemsOf (λi v=>∃t,v=.int (a+i*c) t) acc n->Q (.ref g.objs.size) {s with heap:=g.push {cls:=.type "tuple",data:=.seq acc},toks:=tk}):Qj (Ql prog w) A (call (.type "tuple") [.ref r]) Q E s:=by refine callType_new F.called_tuple ⋯ (F.typeCall_tuple_1 _) (F.newCall_tuple_1 _) (λobj=>F.args_object_init_2 obj _) F.entry_tuple_new (GM r a b c t u v n hsmall hn hlen) ⟨hh,hr,λg tk acc hm hacc=>⟨⟨_,Rf _ rfl,rfl⟩,?_⟩⟩;exact h g tk acc hm hacc
end
section
variable{X:Cx}{K:⇑0}{b1 b2 b3:Qh}{fs:FA}{pos p pos2 p2:Pos}
def Bg(i k:Int)(n:Nat):List Int:=(RV n).map λm:Nat=>i+(m:Int)*k
def LZ:List V->Hp->VK->Prop:=λxs H Q=>∃(q:Qe) (i j k:Int) (n:Nat),xs=[.ref q]/\H q=some (.ext (K9 q i j k))/\SX i j k=true/\QW i j k=n/\n<=100000/\∀l,H l=none->Q (.ref l) (bz H l (.tup ((Bg i k n).map V.int)))
theorem BW(hc:X.calm=true):eA X (.type "tuple") LZ:=by
 intro pins s σ H xs us Q I r h;obtain⟨q,i,j,k,n,rfl,hq,hsm,hsz,hn,h⟩:=h;obtain⟨u,rfl,ru⟩:=rh r;cases ru;obtain⟨⟨t1,t2,t3,e⟩,_⟩:=(I.hok q _ hq);refine vD (n:=n) (I.ok.hd hc) e hsm hsz hn λg tk acc hk hacc=>?_;have I2:aJ X pins σ H {s with heap:=g,toks:=tk}:=I.kept hk;have hf:H g.objs.size=none:=I2.hok.fresh ↥8;have vv:a' ((Bg i k n).map V.int) acc.toList:=by have z:=An acc.toList (λm=>i+(m:Int)*k) λm v e=>hacc.2 m v (by simpa using e);rw[UM,hacc.1]at z;rw[Bg,QE];exact z
 refine⟨.ref g.objs.size,_,I2.laid (t':=tk) (o:=.tup ((Bg i k n).map V.int)) (λb u e=>QG _ e) ↥8 ⟨?_,acc.toList,vv,⟨_,Rf _ rfl,rfl,0,by simp⟩⟩,rfl,h _ hf⟩;rw[Qz,Bg,Qz,List.length_range,Rm];lia
def GR(fs:FA):FE:=λe=>(fs e).bind λp=>match p.1 with|[r1,r2,r3]=>(bL r1).bind λi=>(bL r2).bind λj=>(bL r3).bind λk=>if 0<k/\k<2^30/\-2^60<i/\i<2^60/\-2^60<j/\j<2^60/\SX i j k=true/\0<=QW i j k/\QW i j k<=100000 then some (.d (.tuple ((Bg i k (QW i j k).toNat).map .int)),p.2) else none|_=>none
theorem Kv(hc:X.calm=true)(hK:X.K=K)(hgl:Gl X "tuple")(hml:X.mg "tuple"=none)(hg:Gl X "range")(hm:X.mg "range"=none)(ha:PA X [b1,b2,b3] (fA K fs))(hs:Qq [b1,b2,b3] X.env=(false,Qs b1 X.env)::Qq [b2,b3] X.env)(hpl:(QH pos2 (Qq [b2,b3] X.env)).any (·.1)=false)(hs2:Qq [.Call (.Name "range" p2) [b1,b2,b3] [] pos2] X.env=(false,Qs (.Call (.Name "range" p2) [b1,b2,b3] [] pos2) X.env)::Qq [] X.env)(hpl2:(QH pos (Qq [] X.env)).any (·.1)=false):PE X (.Call (.Name "tuple" p) [.Call (.Name "range" p2) [b1,b2,b3] [] pos2] [] pos) (fE K (GR fs)):=(oh (BW hc) hgl hml PyProof.Rows.boot_tuple (bO (oh BU hg hm PyProof.Rows.boot_range ha ⋯ ⋯ hs hpl) g_ hs2) ⋯ ⋯ hs2 hpl2).mono λσ H Q h=>by subst hK;obtain⟨F,e,z,e2,R,hf,q⟩:=h;unfold GR at hf;obtain⟨⟨ys,e1⟩,h2,hf⟩:=P8 hf;match ys,h2,hf with
 |[r1,r2,r3],h2,hf=>
 obtain⟨i,k1,hf⟩:=P8 hf;obtain⟨j,k2,hf⟩:=P8 hf;obtain⟨k,k3,hf⟩:=P8 hf;split at hf;case isFalse=>cases hf
 case isTrue hc=>obtain⟨c0,c1,c2,c3,c4,c5,c6,c7,c8⟩:=hc;cases hf;refine⟨F,e,_,e1,R,h2,λF1 H1 us X1 R1 A1=>?_⟩;obtain⟨u1,u2,u3,rfl,a1,a2,a3⟩:=Bc A1;obtain rfl:=bS a1 k1;obtain rfl:=bS a2 k2;obtain rfl:=bS a3 k3;refine⟨i,j,k,rfl,c0,c1,c2,c3,c4,c5,λl hl=>⟨l,i,j,k,_,rfl,aw,c6,(Int.toNat_of_nonneg c7).symm,by lia,λl2 hl2=>?_⟩⟩;obtain⟨R3,X3⟩:=R1.same (aG.new hl (o:=.ext (K9 l i j k)));obtain⟨R4,X4⟩:=R3.newT (vs:=(Bg i k (QW i j k).toNat).map V.int) hl2;exact q _ _ _ ((X1.trans X3).trans X4) R4 (cC.mpr ⟨l2,_,rfl,.inl (.inl aw),aR.ints.mpr rfl⟩)
end
section
variable{X:Cx}{K:⇑0}{es:List Qh}{k0:Nat}{tp:Pos}{a b:Qh}{fs:FA}{p pos:Pos}
end
def sj:Bool->⇑0->Hp->Qe->List V->Prop|true=>jR|false=>eO
def J6(b:Bool)(it l:Qe)(i:Nat)(h:Qm):Prop:=match b with|true=>h.IsListIter it l i|false=>h.IsTupleIter it l i
def Bx(b:Bool)(h:Qm)(l:Qe)(xs:Array Qd):Prop:=match b with|true=>h.IsList l xs|false=>h.IsTuple l xs
def oB(b:Bool)(l:Qe):Obj:={cls:=.type (match b with|true=>"list_iterator"|false=>"tuple_iterator"),data:=.fields #[.ref l,.int 0 0]}
theorem kr{prog:Qn}{w:Qk}:∀(b:Bool) (it l:Qe),Sc prog w it l (J6 b it l) λh xs=>Bx b h l xs|true,it,l=>Gv it l|false,it,l=>Jk it l
theorem zx{b:Bool}{it l:Qe}{h:Qm}(e:h.get? it=some (oB b l)):J6 b it l 0 h:=match b,e with|true,e=>⟨_,e,rfl,rfl⟩|false,e=>⟨_,e,rfl,rfl⟩
theorem BG{b:Bool}{h:Qm}{l:Qe}{xs:Array Qd}(o:Obj)(t:Bx b h l xs):Bx b (h.push o) l xs:=match b,t with|true,t=>Heap.IsList.push t o|false,t=>Heap.IsTuple.push t o
theorem Co{prog:Qn}{w:Qk}{A:Qr}{E:Qd->Qf->Prop}{s:Qf}{l:Qe}{xs:Array Qd}{Q:Qd->Qf->Prop}{b:Bool}(t:Bx b s.heap l xs)(h:Q (.ref ↑s) {s with heap:=s.heap.push (oB b l)}):Qj (Ql prog w) A (pyIter (.ref l)) Q E s:=match b,t,h with|true,t,h=>wpAny_pyIter_list t h|false,t,h=>Uo t h
section
variable{X:Cx}{pins:List (Qe×Obj)}{σ:L2.St}{H:Hp}{s:Qf}
theorem vI(I:aJ X pins σ H s){c:Bool}{b l:Qe}{xs:List V}(f:gR X pins H b)(q:sj c X.K H l xs):l≠b:=match c,q with|true,q=>As I f q|false,q=>BE I f q
theorem uU(I:aJ X pins σ H s){c:Bool}{l:Qe}{xs:List V}(q:sj c X.K H l xs):∃its,a' xs its/\Bx c s.heap l its.toArray:=match c,q with|true,q=>let⟨its,v,p,_⟩:=I.list q;⟨its,v,p.isList⟩|false,q=>let⟨its,v,p,_⟩:=I.tuple q;⟨its,v,p⟩
theorem HV(I:aJ X pins σ H s){c:Bool}{l:Qe}{xs ys:List V}(p:sj c X.K H l xs)(q:sj c X.K H l ys):xs=ys:=match c,p,q with|true,p,q=>I.list_inj p q|false,p,q=>I.tuple_inj p q
end
def JJ(b1 b2:Bool)(K:⇑0)(l1 l2:Qe):It:=⟨λi H=>∃xs ys x y,sj b1 K H l1 xs/\sj b2 K H l2 ys/\xs[i]?=some x/\ys[i]?=some y,λi H v H'=>∃p x y,v=.ref p/\H p=none/\H'=bz H p (.tup [x,y])/\∀xs ys,sj b1 K H l1 xs->sj b2 K H l2 ys->xs[i]?=some x/\ys[i]?=some y,λi H=>∃xs ys,sj b1 K H l1 xs/\sj b2 K H l2 ys/\(xs.length<=i\/ys.length<=i)⟩
def Ei(b1 b2:Bool)(z TI TO i1 i2 l1 l2:Qe)(i:Nat)(h:Qm):Prop:=IsZip h z TI TO .none/\QZ h TI (.ref i1) (.ref i2)/\(∃a b,QZ h TO a b)/\J6 b1 i1 l1 i h/\J6 b2 i2 l2 i h
theorem Bo{b1 b2:Bool}{P:Qn}{w:Qk}{K:⇑0}{es:List Qh}{k0:Nat}{pos:Pos}{z TI TO i1 i2:Qe}(l1 l2:Qe)(n1:TO≠z)(n2:i1≠z)(n3:i2≠z)(n4:TO≠i1)(n5:TO≠i2)(n6:i1≠i2)(n7:TI≠z)(n8:TI≠TO)(n9:TI≠i1)(n10:TI≠i2):Ar P w K (.Tuple es k0 pos) (JJ b1 b2 K l1 l2) [z,TI,TO,i1,i2] z (Ei b1 b2 z TI TO i1 i2 l1 l2) where
 mem:=by simp
 obj:=λi h st b hb=>by
  obtain⟨hz,hI,⟨a,c,hO⟩,u1,u2⟩:=st;simp only[QV,Rq,or_false]at hb;rcases hb with rfl|rfl|rfl|rfl|rfl;·exact⟨_,hz,λv z=>by cases z⟩
  ·exact⟨_,hI,λv z=>by cases z⟩
  ·exact⟨_,hO,λv z=>by cases z⟩
  ·exact(kr (prog:=P) (w:=w) b1 _ _).live u1
  ·exact(kr (prog:=P) (w:=w) b2 _ _).live u2
 keep:=λi h h' st k=>by obtain⟨hz,hI,⟨a,c,hO⟩,u1,u2⟩:=st;exact⟨k _ ↥1 _ hz,k _ ↥1 _ hI,⟨a,c,k _ ↥1 _ hO⟩,(kr (prog:=P) (w:=w) b1 _ _).stay u1 λo e=>k _ ↥1 o e,(kr (prog:=P) (w:=w) b2 _ _).stay u2 λo e=>k _ ↥1 o e⟩
 item:=by
  intro X hP hw hK hc i pins s σ H E I hf st hg;subst hP hw hK;obtain⟨xs,ys,x,y,q1,q2,hx,hy⟩:=hg;obtain⟨hz,hI,⟨a,b,hO⟩,u1,u2⟩:=id st;obtain⟨its1,rv1,p1⟩:=uU I q1;obtain⟨its2,rv2,p2⟩:=uU I q2;obtain⟨ux,hux,rux⟩:=rv1.get hx;obtain⟨uy,huy,ruy⟩:=rv2.get hy;have fz:=hf z ↥1;have fO:=hf TO ↥1;have f1:=hf i1 ↥1;have f2:=hf i2 ↥1;have D:sR z TI TO i1 i2 l1 l2:=⟨n1,n2,n3,n4,n5,n6,vI I fz q1,vI I fO q1,vI I f1 q1,vI I f2 q1,vI I fz q2,vI I fO q2,vI I f1 q2,vI I f2 q2⟩;refine Ek (xs:=its1.toArray) (ys:=its2.toArray) (kr b1 i1 l1) (kr b2 i2 l2) D hz hI hO u1 u2 p1 p2 (by simpa using hux) (by simpa using huy) λg gz gO g1 g2 gT gs gk=>?_;refine⟨_,rfl,wpAny_letOwnedTupleGo_zip gz λg' gz' ge=>?_⟩;have lt:∀b∈[z,TI,TO,i1,i2],b<↑s:=λb hb=>by
   simp only[QV,Rq,or_false]at hb;rcases hb with rfl|rfl|rfl|rfl|rfl;·exact QA hz
   ·exact QA hI
   ·exact QA hO
   ·obtain⟨o,e,_⟩:=(kr (prog:=X.prog) (w:=X.w) b1 _ _).live u1;exact QA e
   ·obtain⟨o,e,_⟩:=(kr (prog:=X.prog) (w:=X.w) b2 _ _).live u2;exact QA e
  have hT:H ↑s=none:=I.hok.fresh ↥8;have vv:a' [x,y] [ux,uy]:=.cons rux (.cons ruy .nil);have I1:aJ X pins σ (bz H ↑s (.tup [x,y])) {s with heap:=s.heap.push {cls:=.type "tuple",data:=.seq #[ux,uy]},toks:=s.toks}:=I.laid (t':=s.toks) (λb u e=>QG _ e) ↥8 ⟨(by show 2<=Qv;decide),[ux,uy],vv,p_.new _ _⟩;have hf1:∀b∈[z,TI,TO,i1,i2],gR X pins (bz H ↑s (.tup [x,y])) b:=λb hb=>by obtain⟨f0,fr⟩:=hf b hb;exact⟨by rw[aA (Rg (lt b hb))];exact f0,fr⟩
  have nzT:↑s≠z:=Nat.ne_of_gt (lt z ↥1);have I2:aJ X pins σ (bz H ↑s (.tup [x,y])) {s with heap:=g',toks:=s.toks}:=by
   refine I1.turnedL (t':=s.toks) hf1 λb o nb e=>?_;have nb':b≠z/\b≠TI/\b≠TO/\b≠i1/\b≠i2:=by simpa using nb
   refine ge.extBut _ _ nb'.1 ?_;rcases Heap.get?_push_cases e with⟨rfl,rfl⟩|e;·exact gT
   ·exact gk b o nb'.1 nb'.2.2.1 nb'.2.2.2.1 nb'.2.2.2.2 e
  refine⟨.ref ↑s,_,I2,rfl,⟨_,x,y,rfl,hT,rfl,λxs' ys' w1 w2=>?_⟩,⟨gz',ge.extBut _ _ n7 (gk _ _ n7 n8 n9 n10 hI),⟨ux,uy,ge.extBut _ _ n1 gO⟩,(kr (prog:=X.prog) (w:=X.w) b1 _ _).stay g1 λo e=>ge.extBut _ _ n2 e,(kr (prog:=X.prog) (w:=X.w) b2 _ _).stay g2 λo e=>ge.extBut _ _ n3 e⟩,λb hb=>(hf1 b hb).1⟩;rw[HV I w1 q1,HV I w2 q2];exact⟨hx,hy⟩
 done:=by
  intro X hP hw hK hc i pins s σ H E I hf st hg;subst hP hw hK;obtain⟨xs,ys,q1,q2,hn⟩:=hg;obtain⟨hz,hI,⟨a,b,hO⟩,u1,u2⟩:=id st;obtain⟨its1,rv1,p1⟩:=uU I q1;obtain⟨its2,rv2,p2⟩:=uU I q2;have fz:=hf z ↥1;have fO:=hf TO ↥1;have f1:=hf i1 ↥1;have f2:=hf i2 ↥1;have D:sR z TI TO i1 i2 l1 l2:=⟨n1,n2,n3,n4,n5,n6,vI I fz q1,vI I fO q1,vI I f1 q1,vI I f2 q1,vI I fz q2,vI I fO q2,vI I f1 q2,vI I f2 q2⟩;have e1:=rv1.length;have e2:=rv2.length;refine El (xs:=its1.toArray) (ys:=its2.toArray) (I.ok.hd hc) (kr b1 i1 l1) (kr b2 i2 l2) D hz hI hO u1 u2 p1 p2 ?_ λg gk=>⟨rfl,I.turnedL (t':=s.toks) hf λb o nb e=>?_⟩
  ·rcases hn with hn|hn;·exact .inl ↥7
   ·exact .inr ↥7
  ·have nb':b≠z/\b≠TI/\b≠TO/\b≠i1/\b≠i2:=by simpa using nb
   exact gk b o nb'.1 nb'.2.2.1 nb'.2.2.2.1 nb'.2.2.2.2 e
 self:=λA i s Q E st h=>wpAny_pyIter_zip st.1 h
theorem Ej(b1 b2:Bool)(l1 l2:Qe)(xs ys:Array Qd):Meets (Sk.«zip.__new__» ⟨[.type "zip",.ref l1,.ref l2],[]⟩) (λ_ R s=>Bx b1 s.heap l1 xs/\Bx b2 s.heap l2 ys/\R (.ok (.ret (.ref (↑s+4)))) {s with heap:=((((s.heap.push (oB b1 l1)).push (oB b2 l2)).push {cls:=.type "tuple",data:=.seq #[.ref ↑s,.ref (↑s+1)]}).push {cls:=.type "tuple",data:=.seq #[.none,.none]}).push {cls:=.type "zip",data:=.fields #[.none,.bool false,.bool false,.ref (↑s+2),.ref (↑s+3)]}}):=.of_wp λprog w A R s h=>by obtain⟨hp,g,d,tk,os⟩:=s;obtain⟨t1,t2,h⟩:=h;have sz:=PySem.sub_zip;have T1:Bx b1 (Shared.heap ⟨hp,g,d,tk,os⟩) l1 xs:=t1;have T2:Bx b2 (Shared.heap ⟨hp.push (oB b1 l1),g,d,tk,os⟩) l2 ys:=BG _ t2;wp_walk using Co T1,Co T2;refine⟨_,rfl,?_⟩;simp only[Sl];exact h
section
variable{prog:Qn}{w:Qk}{A:Qr}{E:Qd->Qf->Prop}{s:Qf}
theorem Bu{b1 b2:Bool}{l1 l2:Qe}{xs ys:Array Qd}{Q:Qd->Qf->Prop}(t1:Bx b1 s.heap l1 xs)(t2:Bx b2 s.heap l2 ys)(h:∀g,Ei b1 b2 (↑s+4) (↑s+2) (↑s+3) ↑s (↑s+1) l1 l2 0 g->(∀c o,s.heap.get? c=some o->g.get? c=some o)->Q (.ref (↑s+4)) {s with heap:=g}):Qj (Ql prog w) A (call (.type "zip") [.ref l1,.ref l2]) Q E s:=by
 refine callType_new F.called_zip ⋯ (F.typeCall_zip_2 _ _) (F.newCall_zip_2 _ _) (λobj=>F.args_object_init_3 obj _ _) F.entry_zip_new (Ej b1 b2 l1 l2 xs ys) ⟨t1,t2,?_⟩;have at5:∀(g:Qm) (o:Obj) (a:Qe),o.isFreed=false->a=g.objs.size->(g.push o).get? a=some o:=λg o a hf e=>by rw[e];exact Rf _ hf
 have g5:=at5 ((((s.heap.push (oB b1 l1)).push (oB b2 l2)).push {cls:=.type "tuple",data:=.seq #[.ref ↑s,.ref (↑s+1)]}).push {cls:=.type "tuple",data:=.seq #[.none,.none]}) {cls:=.type "zip",data:=.fields #[.none,.bool false,.bool false,.ref (↑s+2),.ref (↑s+3)]} (↑s+4) rfl (by simp only[Sl]);have g4:=at5 (((s.heap.push (oB b1 l1)).push (oB b2 l2)).push {cls:=.type "tuple",data:=.seq #[.ref ↑s,.ref (↑s+1)]}) {cls:=.type "tuple",data:=.seq #[.none,.none]} (↑s+3) rfl (by simp only[Sl]);have g3:=at5 ((s.heap.push (oB b1 l1)).push (oB b2 l2)) {cls:=.type "tuple",data:=.seq #[.ref ↑s,.ref (↑s+1)]} (↑s+2) rfl (by simp only[Sl]);have g2:=at5 (s.heap.push (oB b1 l1)) (oB b2 l2) (↑s+1) rfl (by simp only[Sl]);have g1:=at5 s.heap (oB b1 l1) ↑s rfl rfl;have up:∀{g:Qm}{a:Qe}{u:Obj}(o:Obj),g.get? a=some u->(g.push o).get? a=some u:=λo e=>QG o e;refine⟨⟨_,g5,rfl⟩,h _ ⟨g5,up _ (up _ g3),⟨_,_,up _ g4⟩,zx (up _ (up _ (up _ (up _ g1)))),zx (up _ (up _ (up _ g2)))⟩ λc o x=>up _ (up _ (up _ (up _ (up _ x))))⟩
end
def J3(b1 b2:Bool)(K:⇑0)(ta:TA):TI:=λσ H R=>ta σ H λvs H1=>∃a b,vs=[.ref a,.ref b]/\(∃xs,sj b1 K H1 a xs)/\(∃ys,sj b2 K H1 b ys)/\R (JJ b1 b2 K a b) H1
theorem zI{b1 b2:Bool}{X:Cx}{K:⇑0}{es:List Qh}{k0:Nat}{tp:Pos}{a b:Qh}{ta:TA}{p pos:Pos}(hK:X.K=K)(hg:Gl X "zip")(hm:X.mg "zip"=none)(ha:PA X [a,b] ta)(hs:Qq [a,b] X.env=[(false,Qs a X.env),(false,Qs b X.env)]:=by rfl)(hs2:Qq [b] X.env=[(false,Qs b X.env)]:=by rfl):PI X (.Tuple es k0 tp) (.Call (.Name "zip" p) [a,b] [] pos) (J3 b1 b2 K ta):=by intro pins s σ H R I h;subst hK;refine Call_ (nX I hg hm BQ (UO (cj (ha pos pins s σ H _ I h) λus s1⟨vs,H1,I1,r1,q1⟩=>?_) (by rw[hs,hs2]) (by rw[hs2];rfl)));obtain⟨a,b,e,⟨xs,qx⟩,⟨ys,qy⟩,q⟩:=q1;subst e;cases r1 with|cons r rr=>cases rr with|cons r' rr=>
 cases rr;cases r;cases r';obtain⟨i1,v1,p1⟩:=uU I1 qx;obtain⟨i2,v2,p2⟩:=uU I1 qy;refine Bu p1 p2 λg st hk=>wpAny_pyIter_zip st.1 ?_;have I2:aJ X pins σ H1 {s1 with heap:=g,toks:=s1.toks}:=I1.kept (t':=s1.toks) λb o e=>hk b o e;have nn:∀i j:Nat,i≠j->(↑s1+i:Nat)≠↑s1+j:=λi j h=>by lia
 refine⟨↑s1+4,[↑s1+4,↑s1+2,↑s1+3,↑s1,↑s1+1],_,_,H1,rfl,I2,Bo a b (nn 3 4 ⋯) (nn 0 4 ⋯) (nn 1 4 ⋯) (nn 3 0 ⋯) (nn 3 1 ⋯) (nn 0 1 ⋯) (nn 2 4 ⋯) (nn 2 3 ⋯) (nn 2 0 ⋯) (nn 2 1 ⋯),st,λc hc=>?_,q⟩;have le:↑s1<=c:=by
  simp only[QV,Rq,or_false]at hc;rcases hc with rfl|rfl|rfl|rfl|rfl;·exact UJ _ 4
  ·exact UJ _ 2
  ·exact UJ _ 3
  ·exact RJ _
  ·exact UJ _ 1
 have f:=I1.fpOk (H':=H1) le (I1.hok.fresh le);exact f
section
variable{X:Cx}{K:⇑0}{es:List Qh}{k0:Nat}{tp:Pos}{a b:Qh}{fs:FA}{p pos:Pos}
theorem oz{H:Hp}{l:Qe}{vs:List V}{b:Bool}(h:if b=true then jR K H l vs else eO K H l vs):sj b K H l vs:=match b,h with|true,h=>h|false,h=>h
theorem rG(hK:X.K=K)(hg:Gl X "zip")(hm:X.mg "zip"=none)(ha:PA X [a,b] (fA K fs))(hs:Qq [a,b] X.env=[(false,Qs a X.env),(false,Qs b X.env)])(hs2:Qq [b] X.env=[(false,Qs b X.env)]):PI X (.Tuple es k0 tp) (.Call (.Name "zip" p) [a,b] [] pos) (fI K (tM fs)):=(zI (b1:=false) (b2:=false) (es:=es) (k0:=k0) (tp:=tp) hK hg hm ha hs hs2).mono λσ H R hh=>by obtain⟨F,e,items,own,e',R0,hf,q⟩:=hh;unfold tM at hf;obtain⟨⟨rs,e1⟩,h1,hf⟩:=P8 hf;match rs,h1,hf with|[.d (.tuple xs),.d (.tuple ys)],h1,hf=>cases hf;refine⟨F,e,_,e1,R0,h1,λF1 H1 vs X1 R1 A1=>?_⟩;obtain⟨v,u,rfl,a1,a2⟩:=ni A1;obtain⟨p1,vs,rfl,s1,d1⟩:=cC.mp (show DA K F1 (.tuple xs) v from a1);obtain⟨p2,us,rfl,s2,d2⟩:=cC.mp (show DA K F1 (.tuple ys) u from a2);exact⟨p1,p2,rfl,⟨vs,R1.sm.tup s1⟩,⟨us,R1.sm.tup s2⟩,q _ F1 H1 X1 R1 (λz hz=>by cases hz) (wB (own1:=[]) (own2:=[]) (P:=eO K) (Q:=eO K) (.tup s1 d1) (.tup s2 d2) (λ_ _ h=>h) (λ_ _ h=>h) (λi H vs us x y h1 h2 h3 h4=>⟨vs,us,x,y,h1,h2,h3,h4⟩) (λi H vs us h1 h2 h3=>⟨vs,us,h1,h2,h3⟩) λi H v H' h=>h)⟩
theorem Gg(hK:X.K=K)(hg:Gl X "zip")(hm:X.mg "zip"=none)(ha:PA X [a,b] (fA K fs))(hs:Qq [a,b] X.env=[(false,Qs a X.env),(false,Qs b X.env)])(hs2:Qq [b] X.env=[(false,Qs b X.env)]):PI X (.Tuple es k0 tp) (.Call (.Name "zip" p) [a,b] [] pos) (fI K (Cm fs)):=by intro pins s σ H R I hh;obtain⟨F,e,items,own,e',R0,hf,q⟩:=hh;unfold Cm at hf;obtain⟨⟨rs,e1⟩,h1,hf⟩:=P8 hf;match rs,h1,hf with
 |[r,t],h1,hf=>
 obtain⟨⟨b,xs,ow⟩,h2,hf⟩:=P8 hf;obtain⟨⟨b',ys,ow'⟩,h3,hf⟩:=P9 hf;cases hf;have key:∀F1 H1 vs,fm σ F H e F1 H1 e1->bc K F1 H1 σ e1->cz K σ H F1 H1 e1 [r,t] vs->∃p p' F2,vs=[.ref p,.ref p']/\fm σ F H e F2 H1 e1/\bc K F2 H1 σ e1/\vH K σ F2 p b xs ow/\vH K σ F2 p' b' ys ow'/\keeps (ow++ow') e1:=by
  intro F1 H1 vs X1 R1 A1;obtain⟨v,u,rfl,a1,a2⟩:=ni A1;obtain⟨F2,p,R2,s2,f2,rfl,sc,kp⟩:=nH R1 a1 h2;have X2:=X1.frz s2 f2;have a2':cw K σ H F2 H1 e1 t u\/∃zs,t=.l zs/\DA K F2 (.list zs) u:=by cases t with|d x=>exact .inl (DA.mono s2 a2)|s i=>exact .inl a2|l zs=>obtain⟨l,ws,rfl,g1,g2,g3,g4,g5⟩:=a2;cases hl:F2 l with|none=>exact .inl ⟨l,ws,rfl,g1,hl,g3,aR.mono s2 g4,g5⟩|some o=>have:=R2.sm _ _ hl;rw[g3]at this;cases this;exact .inr ⟨zs,rfl,cB.mpr ⟨l,ws,rfl,.inl (.inl hl),aR.mono s2 g4⟩⟩
  rcases a2' with a2'|⟨zs,rfl,d2⟩;·obtain⟨F3,p',R3,s3,f3,rfl,sc',kp'⟩:=nH R2 a2' h3;exact⟨p,p',F3,rfl,X2.frz s3 f3,R3,sc.mono s3,sc',λz hz=>(P' hz).elim (kp z) (kp' z)⟩
  ·cases h3;obtain⟨p',ws,rfl,g1,g2⟩:=cB.mp d2;exact⟨p,p',F2,rfl,X2,R2,sc,.lst g1 g2,λz hz=>(P' hz).elim (kp z) λh=>by cases h⟩
 have fin:∀{F2 H1:Hp}{p p':Qe},bc K F2 H1 σ e1->vH K σ F2 p b xs ow->vH K σ F2 p' b' ys ow'->keeps (ow++ow') e1->(∃vs,sj b K H1 p vs)/\(∃vs,sj b' K H1 p' vs):=by intro F2 H1 p p' R2 s1 s2 kp;obtain⟨vs,_,c⟩:=s1.at (aG.refl _) R2.sm (R2.held kp) λ_ h=>RK.mpr (.inl h);obtain⟨us,_,c'⟩:=s2.at (aG.refl _) R2.sm (R2.held kp) λ_ h=>RK.mpr (.inr h);exact⟨⟨vs,oz c⟩,⟨us,oz c'⟩⟩
 refine zI (b1:=b) (b2:=b') (es:=es) (k0:=k0) (tp:=tp) hK hg hm ha hs hs2 pins s σ H R I ⟨F,e,_,e1,R0,h1,λF1 H1 vs X1 R1 A1=>?_⟩;obtain⟨p,p',F2,rfl,X2,R2,s1,s2,kp⟩:=key F1 H1 vs X1 R1 A1;obtain⟨c1,c2⟩:=fin R2 s1 s2 kp;exact⟨p,p',rfl,c1,c2,q _ F2 H1 X2 R2 kp (wB (P:=sj b K) (Q:=sj b' K) s1 s2 (λ_ _ h=>oz h) (λ_ _ h=>oz h) (λi H vs us x y h1 h2 h3 h4=>⟨vs,us,x,y,h1,h2,h3,h4⟩) (λi H vs us h1 h2 h3=>⟨vs,us,h1,h2,h3⟩) λi H v H' h=>h)⟩
end
section
variable{X:Cx}{K:⇑0}{es:List Qh}{k0:Nat}{tp:Pos}{a b:Qh}{fs:FA}{p pos:Pos}
end
def Hx(bb:Bool)(K:⇑0)(l:Qe):It:=⟨λi H=>∃xs x,sj bb K H l xs/\xs[i]?=some x,λi H v H'=>∃p x,v=.ref p/\H p=none/\H'=bz H p (.tup [.int i,x])/\∀xs,sj bb K H l xs->xs[i]?=some x,λi H=>∃xs,sj bb K H l xs/\xs.length<=i⟩
def zo(bb:Bool)(e it l:Qe)(i:Nat)(h:Qm):Prop:=(∃old,IsEnum h e it i old)/\J6 bb it l i h
theorem yX{bb:Bool}{P:Qn}{w:Qk}{K:⇑0}{es:List Qh}{k0:Nat}{pos:Pos}{e it:Qe}(l:Qe)(ne:e≠it):Ar P w K (.Tuple es k0 pos) (Hx bb K l) [e,it] e (zo bb e it l) where
 mem:=by simp
 obj:=λi h st c hb=>by
  obtain⟨⟨old,he⟩,u⟩:=st;simp only[QV,Rq,or_false]at hb;rcases hb with rfl|rfl;·exact⟨_,he,λv z=>by cases z⟩
  ·exact(kr (prog:=P) (w:=w) bb _ _).live u
 keep:=λi h h' st k=>by obtain⟨⟨old,he⟩,u⟩:=st;exact⟨⟨old,k _ ↥1 _ he⟩,(kr (prog:=P) (w:=w) bb _ _).stay u λo e=>k _ ↥1 o e⟩
 item:=by
  intro X hP hw hK hc i pins s σ H E I hf st hg;subst hP hw hK;obtain⟨xs,x,q1,hx⟩:=hg;obtain⟨⟨old,he⟩,u⟩:=id st;obtain⟨its,rv,p⟩:=uU I q1;obtain⟨ux,hux,rux⟩:=rv.get hx;have fe:=hf e ↥1;have ft:=hf it ↥1;have n1:l≠e:=vI I fe q1;have n2:l≠it:=vI I ft q1;have hi:i<its.toArray.size:=by have:=(P_ hux).1;simpa using this
  refine wpAny_pyNext_enum_itemD (DU (A:=X.A.in1) (kr bb it l) (show X.A.in1.handled=none from I.ok.hd hc) n2 its.toArray) he ⟨u,p⟩ hi ne (by simpa using⟨ne,λz=>n1 z.symm⟩) λx' g tk hP ho hs hT hsz hk=>?_;have ex:x'=ux:=by
   have:its[i]?=some x':=by simpa using hP
   rw[hux]at this;exact(QY this).symm
  subst ex;refine⟨_,rfl,wpAny_letOwnedTupleGo_enum ho λg' he' ge=>?_⟩;have lt:∀b∈[e,it],b<↑s:=λb hb=>by
   simp only[QV,Rq,or_false]at hb;rcases hb with rfl|rfl;·exact QA he
   ·obtain⟨o,e,_⟩:=(kr (prog:=X.prog) (w:=X.w) bb _ _).live u;exact QA e
  have hTn:H ↑s=none:=I.hok.fresh ↥8;have vv:a' [.int i,x] [.int i tk,x']:=.cons ⟨tk,rfl⟩ (.cons rux .nil);have I1:aJ X pins σ (bz H ↑s (.tup [.int i,x])) {s with heap:=s.heap.push {cls:=.type "tuple",data:=.seq #[.int i tk,x']},toks:=s.toks}:=I.laid (t':=s.toks) (λb u e=>QG _ e) ↥8 ⟨(by show 2<=Qv;decide),[.int i tk,x'],vv,p_.new _ _⟩;have hf1:∀b∈[e,it],gR X pins (bz H ↑s (.tup [.int i,x])) b:=λb hb=>by obtain⟨f0,fr⟩:=hf b hb;exact⟨by rw[aA (Rg (lt b hb))];exact f0,fr⟩
  have I2:aJ X pins σ (bz H ↑s (.tup [.int i,x])) {s with heap:=g',toks:=tk+1}:=by
   refine I1.turnedL (t':=tk+1) hf1 λb o nb eb=>?_;have nb':b≠e/\b≠it:=by simpa using nb
   refine ge.extBut _ _ nb'.1 ?_;rcases Heap.get?_push_cases eb with⟨rfl,rfl⟩|eb;·exact hT
   ·exact hk b o nb'.1 nb'.2 eb
  refine⟨.ref ↑s,_,I2,rfl,⟨_,x,rfl,hTn,rfl,λxs' w1=>by rw[HV I w1 q1];exact hx⟩,⟨⟨_,by simpa using he'⟩,(kr (prog:=X.prog) (w:=X.w) bb _ _).stay hs.1 λo e=>ge.extBut _ _ (λz=>ne z.symm) e⟩,λb hb=>(hf1 b hb).1⟩
 done:=by
  intro X hP hw hK hc i pins s σ H E I hf st hg;subst hP hw hK;obtain⟨xs,q1,hn⟩:=hg;obtain⟨⟨old,he⟩,u⟩:=id st;obtain⟨its,rv,p⟩:=uU I q1;have e1:=rv.length;refine AF (xs:=its.toArray) (kr bb it l) (I.ok.hd hc) he u p ↥7 λg gk=>⟨rfl,I.turnedL (t':=s.toks) hf λb o nb eb=>?_⟩;have nb':b≠e/\b≠it:=by simpa using nb
  exact gk b o nb'.2 eb
 self:=λA i s Q E st h=>by obtain⟨⟨old,he⟩,u⟩:=st;exact tG he h
theorem yh{prog:Qn}{w:Qk}{A:Qr}{E:Qd->Qf->Prop}{s:Qf}{b:Bool}{l:Qe}{xs:Array Qd}{Q:Qd->Qf->Prop}(t1:Bx b s.heap l xs)(h:∀g,zo b (↑s+1) ↑s l 0 g->(∀c o,s.heap.get? c=some o->g.get? c=some o)->Q (.ref (↑s+1)) {s with heap:=g}):Qj (Ql prog w) A (call (.type "enumerate") [.ref l]) Q E s:=match b,t1,h with|true,t1,h=>call_enumerate_list t1 λg he hit hsz hk=>h g ⟨⟨_,he⟩,hit⟩ hk|false,t1,h=>yi t1 h
def LG(b:Bool)(K:⇑0)(ta:TA):TI:=λσ H R=>ta σ H λvs H1=>∃a,vs=[.ref a]/\(∃xs,sj b K H1 a xs)/\R (Hx b K a) H1
section
variable{X:Cx}{K:⇑0}{es:List Qh}{k0:Nat}{tp:Pos}{a:Qh}{ta:TA}{p pos:Pos}
theorem Dc{b:Bool}(hK:X.K=K)(hg:Gl X "enumerate")(hm:X.mg "enumerate"=none)(ha:PA X [a] ta)(hs:Qq [a] X.env=[(false,Qs a X.env)]:=by rfl):PI X (.Tuple es k0 tp) (.Call (.Name "enumerate" p) [a] [] pos) (LG b K ta):=by
 intro pins s σ H R I h;subst hK;refine Call_ (nX I hg hm qk (UO (cj (ha pos pins s σ H _ I h) λus s1⟨vs,H1,I1,r1,q1⟩=>?_) hs rfl));obtain⟨a,e,⟨xs,qx⟩,q⟩:=q1;subst e;obtain⟨u,rfl,ru⟩:=rh r1;cases ru;obtain⟨i1,v1,p1⟩:=uU I1 qx;refine yh p1 λg st hk=>?_;obtain⟨⟨old,he⟩,hit⟩:=id st;refine tG he ?_;have I2:aJ X pins σ H1 {s1 with heap:=g,toks:=s1.toks}:=I1.kept (t':=s1.toks) λb o e=>hk b o e;refine⟨↑s1+1,[↑s1+1,↑s1],_,_,H1,rfl,I2,yX a (show((↑s1+1:Nat)≠↑s1) by lia),st,λc hc=>?_,q⟩;have le:↑s1<=c:=by
  simp only[QV,Rq,or_false]at hc;rcases hc with rfl|rfl;·exact UJ _ 1
  ·exact RJ _
 exact I1.fpOk (H':=H1) le (I1.hok.fresh le)
end
section
variable{X:Cx}{K:⇑0}{es:List Qh}{k0:Nat}{tp:Pos}{a:Qh}{fs:FA}{p pos:Pos}
theorem yl{σ:L2.St}{b:Bool}{p:Qe}{xs:List Qg}{own:jq}{F0:Hp}(h:vH K σ F0 p b xs own):Aq K σ (Hx b K p) (di 0 xs) own F0:=by intro F H s0 s1 hh;obtain⟨vs,d,q⟩:=h.at s0 s1 hh λ_ h=>h;have q:sj b K H p vs:=oz q;rw[ip];refine⟨λi hi=>⟨vs,vs[i]'(by rw[<-d.len];exact hi),q,QR _⟩,λi hi=>⟨vs,q,by rw[<-d.len];exact hi⟩,λi x v H' hx hy=>?_⟩;obtain⟨t,y,rfl,ht,rfl,hy⟩:=hy;rw[io]at hx;obtain⟨x',hx2,rfl⟩:=P9 hx;obtain⟨w,g1,g2⟩:=d.get hx2;have e:=hy vs q;rw[g1]at e;cases e;exact wV s1 ht (bT.mpr ↥1) g2
theorem rF(hK:X.K=K)(hg:Gl X "enumerate")(hm:X.mg "enumerate"=none)(ha:PA X [a] (fA K fs))(hs:Qq [a] X.env=[(false,Qs a X.env)]):PI X (.Tuple es k0 tp) (.Call (.Name "enumerate" p) [a] [] pos) (fI K (oZ fs)):=by intro pins s σ H R I hh;obtain⟨F,e,items,own,e',R0,hf,q⟩:=hh;unfold oZ at hf;obtain⟨⟨rs,e1⟩,h1,hf⟩:=P8 hf;match rs,h1,hf with|[r],h1,hf=>obtain⟨⟨b,xs,ow⟩,h2,hf⟩:=P9 hf;cases hf;refine Dc (b:=b) (es:=es) (k0:=k0) (tp:=tp) hK hg hm ha hs pins s σ H R I ⟨F,e,_,e1,R0,h1,λF1 H1 vs X1 R1 A1=>?_⟩;obtain⟨v,rfl,A2⟩:=pY A1;obtain⟨F2,p,R2,s2,f2,rfl,sc,kp⟩:=nH R1 A2 h2;obtain⟨vs,_,c⟩:=sc.at (aG.refl _) R2.sm (R2.held kp) λ_ h=>h;exact⟨p,rfl,⟨vs,oz c⟩,q _ F2 H1 (X1.frz s2 f2) R2 kp (yl sc)⟩
end
section
variable(P:Qn)(w:Qk)
end
section
variable{P:Qn}{w:Qk}{H H':Hp}{h h':Qm}{a:Qe}{o:HO}
end
section
variable{P:Qn}{w:Qk}{H:Hp}{h h':Qm}{x e:Qe}{o':HO}
end
section
variable{fs fs' ex ex':List Qe}{H H1 H2:Hp}{h h1 h2 h':Qm}{a x e:Qe}{o:HO}
end
section
variable{X:Cx}{pins:List (Qe×Obj)}{σ:List (Option V)}{H H':Hp}{s:Qf}{h':Qm}
end
section
variable{X:Cx}
variable{a b:Qh}{ta tb:TE}{pos:Pos}
variable{tA tB':TT}{ic:List Qh}
end
section
variable{X:Cx}{pins:List (Qe×Obj)}{σ:St}{H:Hp}{s:Qf}{a:Qe}{xs ys:List V}
end
section
variable{X:Cx}{pins:List (Qe×Obj)}{σ:St}{H:Hp}{s:Qf}{E:Qd->Qf->Prop}
end
section
variable{X:Cx}{st:Qo}{ic:List Qo}{t u:TS}{e:Qh}{te:TE}{pos:Pos}
end
section
variable{X:Cx}{pos:Pos}
end
section
variable{X:Cx}{pos:Pos}
end
section
variable{X:Cx}{tg:Qh}
end
section
variable{X:Cx}{a b c:Qh}{ta tb tc:TE}{pos:Pos}
end
section
variable{X:Cx}{a b c:Qh}{ta tb tc:TE}{pos:Pos}
end
section
variable{prog:Qn}{w:Qk}{A:Qr}{E:Qd->Qf->Prop}{s:Qf}{K:⇑0}{x dx C f:Qe}{mA:Str->Option Qd}{name:Str}{v:Qd}
end
section
variable{P:Qn}{w:Qk}{H H':Hp}{h h':Qm}{a C dx:Qe}{fs fs':List (Str×V)}
end
section
variable{X:Cx}{pins:List (Qe×Obj)}{σ:St}{H:Hp}{s:Qf}{a C dx:Qe}{fs:List (Str×V)}{f:Str}{v:V}{A:Qr}{E:Qd->Qf->Prop}
end
section
variable{X:Cx}{o e value:Qh}{f:Str}{pos pos' tpos:Pos}{ta tv:TE}
end
section
variable{X:Cx}{pins:List (Qe×Obj)}{σ:St}{H:Hp}{s:Qf}{A:Qr}{E:Qd->Qf->Prop}{Q:Qd->Qf->Prop}{c:Qd}{b:Bool}
end
section
variable{X:Cx}{e:Qh}{es:List Qh}{te:TE}{t:TA}{pos:Pos}
end
section
variable{X:Cx}{pins:List (Qe×Obj)}{σ:St}{H:Hp}{s s':Qf}
end
section
variable{X:Cx}{CX:sr}{k:Nat}{f C:Qe}{fd:QJ}{ps:List Str}{sp:Sp}{dvs:List V}{ds:List Qd}{E:XK}{x m:Str}{p pos apos:Pos}{e o:Qh}{es:List Qh}{ta:TE}{t:TA}
end
section
variable{X:Cx}{CX:sr}{k:Nat}{f C:Qe}{fd:QJ}{ps ks:List Str}{sp:Sp}{E:XK}{x m:Str}{p pos apos kpos:Pos}{e o:Qh}{es:List Qh}{kws:List RG}{te ta:TE}{t tk:TA}{nm:Option Str}
variable{g:List Qd->List Qd->List Qd}{gV:List V->List V->List V}
end
section
variable{X:Cx}{x:Str}{p pos:Pos}{e:Qh}{es:List Qh}{t:TA}{id T:String}{r:List V->Hp->VK->Prop}
end
section
variable{κ:Type}[DecidableEq κ]
end
section
variable{P:Qn}{w:Qk}{H:Hp}{h:Qm}{a:Qe}
end
section
variable{X:Cx}{pins:List (Qe×Obj)}{σ:St}{H:Hp}{s:Qf}{a:Qe}{y v:V}{u r:Qd}{o:Option V}{A:Qr}{E:Qd->Qf->Prop}
end
section
variable{X:Cx}{pins:List (Qe×Obj)}{σ:St}{H:Hp}{s:Qf}{a:Qe}{kvs:List (gS×V)}{k:gS}{u:Qd}{A:Qr}{E:Qd->Qf->Prop}
end
section
variable{X:Cx}{o i e value:Qh}{pos pos' tpos:Pos}{td ty tv:TE}
end
section
variable{X:Cx}{pos:Pos}
end
structure M2 (X:Cx) (o:Qh) (m:Str) (apos:Pos) (e f:Qh) (cpos:Pos):Prop where
 base:TH o m X.env (Qs o X.env)=Qs o X.env
 few:((QH cpos (Qq [e,f] X.env)).all (λx=>!x.1)&&(backToKw cpos (TJ [] X.env)).all (λx=>x.1.isSome)&&decide (([e,f]:List Qh).length+([]:List RG).length+(if ([]:List RG).isEmpty then 0 else 1)<30))=true
 line:(apos.endLine==cpos.line)=true
 trees:QH cpos (Qq [e,f] X.env)=[(false,Qs e X.env),(false,Qs f X.env)]
section
variable{X:Cx}{pins:List (Qe×Obj)}{σ:St}{H:Hp}{s:Qf}{a:Qe}{y d:V}{u r:Qd}{o:Option V}{A:Qr}{E:Qd->Qf->Prop}
end
section
variable{X:Cx}{o e f:Qh}{apos cpos:Pos}{td ty tx:TE}
end
section
variable{X:Cx}{pins:List (Qe×Obj)}{σ:St}{H:Hp}{s:Qf}{a:Qe}{kvs:List (gS×V)}{A:Qr}{E:Qd->Qf->Prop}
end
section
variable{X:Cx}{pins:List (Qe×Obj)}{σ:St}{H:Hp}{s:Qf}{a:Qe}{y:V}{u:Qd}{A:Qr}{E:Qd->Qf->Prop}
end
end L2
namespace Att
open PySem PySem.W PySem.Calls PyProof.Rows
section
variable{prog:Qn}{w:Qk}{A:Qr}{E:Qd->Qf->Prop}{s:Qf}{K:Frag}
end
end Att
namespace L2
open PySem PySem.Spec PyProof.Rows
section
variable{P:Qn}{w:Qk}{K:⇑0}{mg:Str->Option Qd}{base:Qm}
end
section
variable{X:Cx}
end
section
variable{κ:Type}[DecidableEq κ]
end
section
variable{prog:Qn}{w:Qk}{A:Qr}{R:Result->Qf->Prop}
end
structure Lf (cp:List (Nat×Str)) (nT:Nat) (wi:TI) (g:TG) (tk tv:TE) (σ:L2.St) (H:Hp) (Q:VK):Prop where go:wi σ H λJ H1=>∀l,H1 l=none->∃W:Nat->Nat->L2.St->Hp->Prop,(∃m,W 0 m (fB cp nT σ) (bz H1 l (.dK [])))/\∀i m σ' H',W i m σ' H'->(J.stop i H'/\Q (.ref l) H')\/(J.go i H'/\∃N:L2.St->Hp->Prop,(∀σ2 H2,N σ2 H2->∃m',m'<m/\W (i+1) m' σ2 H2)/\∀x H2,J.yld i H' x H2->g x σ' H2 λσ2 H4=>tk σ2 H4 λy H5=>tv σ2 H5 λv H6=>∃(kk:gS) (kvs:List (gS×V)),y=kV kk/\H6 l=some (.dK kvs)/\kvs.length<Qv/\N σ2 (bz H6 l (.dK (vk kvs kk v))))
abbrev K8:=Int×Int×Int
def pD(p:K8):Qg×Qg:=(.int p.1,.tuple [.int p.2.1,.int p.2.2])
section
variable{K:⇑0}{F H F' H':Hp}{σ σ':L2.St}{e e':En}{cp:List (Nat×Str)}{nT:Nat}
def MF(m:List (Int×jp))(acc:List K8):Prop:=m.map aD=acc.map pD
inductive Mv (K:⇑0) (W:List Nat) (σ0:L2.St) (F1 H1:Hp) (e0:En) (l:Qe) (P:Hp->En->List K8->Prop) (σ':L2.St) (H':Hp):Prop|mk{F':Hp}{ei:En}{acc:List K8}{m:List (Int×jp)}(R:bc K F' H' σ' ei) (X:dr W σ0 F1 H1 e0 σ' F' H' ei) (fl:F' l=none) (hl:H' l=some (.dK (m.map aK))) (ok:∀p∈m,p.2.ok K F') (ha:MF m acc) (hc:P F' ei acc):Mv K W σ0 F1 H1 e0 l P σ' H'
end
section
variable{X:Cx}{K:⇑0}{pos:Pos}
end
theorem AC{X:Cx}{use:Option (Qd->Sem Unit)}{RR:Qd->Qf->Prop}{pins:List (Qe×Obj)}{s:Qf}{σ:L2.St}{H:Hp}{Q:VK}{elt iter tg iter2 tg2:Qh}{ifs ifs2:List Qh}{scope:Qx}{pos:Pos}{wi wi2:TI}{g g2:TG}{tc tc2:TT}{te:TE}(sc0:Qx)(N0:List Str)(cp:List (Nat×Str))(tgN:List Str)(hc:X.calm=true)(hsc:X.env.scope=sc0)(hN0:X.N=N0)(hi:PI X tg iter wi)(hg:∀C s0 H0 fp,PG (ar X scope cp tgN C s0 H0 fp) tg g)(ht:∀C s0 H0 fp,si (ar X scope cp tgN C s0 H0 fp) ifs tc)(hi2:∀C s0 H0 fp,PI (ar X scope cp tgN C s0 H0 fp) tg2 iter2 wi2)(hg2:∀C s0 H0 fp,PG (ar X scope cp tgN C s0 H0 fp) tg2 g2)(ht2:∀C s0 H0 fp,si (ar X scope cp tgN C s0 H0 fp) ifs2 tc2)(he:∀C s0 H0 fp,PE (ar X scope cp tgN C s0 H0 fp) elt te)(hk:scope.kind=.function)(hown:∀y∈scope.names,y.2=.cell->scope.names.lookup y.1=some .cell)(hnames:∀y∈scope.names,y.2=.local->scope.names.lookup y.1=some .local)(hfr:∀y∈scope.names,y.2=.free->scope.names.lookup y.1=some .free/\sc0.names.lookup y.1=some .cell)(hcp:∀p∈cp,N0[p.1]?=some p.2)(hcq:∀p∈cp,sc0.names.lookup p.2=some .cell/\scope.names.lookup p.2=some .free)(hs2:∀C s0 H0 fp x,Rl iter2 (ar X scope cp tgN C s0 H0 fp).env x=pure x)(hs:∀x,Rl iter X.env x=pure x)(I:aJ X pins σ H s)(h:yS cp tgN.length wi g tc wi2 g2 tc2 te σ H Q)(fin:∀(C D:Qe) (H5:Hp) (s6:Qf),(∃m,s6.heap.Ns C m)->Q (.ref D) H5->gR X pins H5 C->(∀h',SZ C s6.heap h'->aJ X pins σ H5 {s6 with heap:=h'})->compPost (Ql X.prog X.w) X.A X.xe use RR (.ref D) C (.ok .next) s6):Qj (Ql X.prog X.w) X.A (comprehension (.ListComp elt [⟨tg,iter,ifs,0⟩,⟨tg2,iter2,ifs2,0⟩] scope pos) scope X.env (firstIterPos [⟨tg,iter,ifs,0⟩,⟨tg2,iter2,ifs2,0⟩] pos) (newList []) (firstAsync [⟨tg,iter,ifs,0⟩,⟨tg2,iter2,ifs2,0⟩]) (firstIter [⟨tg,iter,ifs,0⟩,⟨tg2,iter2,ifs2,0⟩] X.env) use) RR X.xe s:=by
 have hkind:∀x,X.env.kindOf x=sc0.names.lookup x:=λx=>by unfold Env.kindOf;rw[hsc]
 have hfree:∀y∈scope.names,y.2=.free->∃c,X.env.cells.lookup y.1=some c:=λy hy e=>I.ok.has y.1 (.inl (by rw[hkind];exact(hfr y hy e).2));refine VM (use:=use) rfl hs (mf hfree) hk hnames (Qw (hi pins s σ H _ I h.go) (λxv s₁ h₁=>Qw h₁ (λitv s₂ h₂=>?_) λ_ _ e=>e) λ_ _ e=>e);obtain⟨it,fp,tn,J,H2,rfl,I2,T,st2,f2,hq⟩:=h₂;refine Sd ?_;have hlF:H2 ↑s₂=none:=I2.hok.fresh ↥8;have I3:aJ X pins σ (bz H2 ↑s₂ (.lst [])) {s₂ with heap:=s₂.heap.push {cls:=.type "list",data:=.seq ([]:List Qd).toArray}}:=I2.lnew (t':=s₂.toks) .nil (Ss _);obtain⟨W,⟨m0,w0⟩,turn⟩:=hq _ hlF;have f3:∀b∈fp,gR X pins (bz H2 ↑s₂ (.lst [])) b:=λb hb=>by obtain⟨f0,fr⟩:=f2 b hb;obtain⟨o,ho,_⟩:=T.obj _ _ st2 b hb;exact⟨by rw[aA (Rg (QA ho))];exact f0,fr⟩
 have st3:tn 0 (s₂.heap.push {cls:=.type "list",data:=.seq ([]:List Qd).toArray}):=T.keep _ _ _ st2 λb _ o e=>QG _ e;generalize hD:↑s₂=D at*;generalize hs3:({s₂ with heap:=s₂.heap.push {cls:=.type "list",data:=.seq ([]:List Qd).toArray}}:Qf)=s₃ at*;have hst3:tn 0 s₃.heap:=by rw[<-hs3];exact st3
 refine vc (λh₁ hns₁ old hownC apC=>?_);generalize hC:↑s₃=C at*;have nC:∀b o,s₃.heap.get? b=some o->b≠C:=λb o e=>by rw[<-hC];exact Rg (QA e)
 obtain⟨ok',I4⟩:=nP (cp:=cp) (tgN:=tgN) hsc hN0 hk hown hfr hcp hcq I3 f3 (λb hb=>let⟨o,e,_⟩:=T.obj _ _ hst3 b hb;⟨o,e⟩) hC hns₁ old hownC apC;have hst4:tn 0 h₁:=T.keep _ _ _ hst3 λb _ o e=>old b o e;have loop:Rh (Ql X.prog X.w) X.A (.compLoop (.ListComp elt [⟨tg,iter,ifs,0⟩,⟨tg2,iter2,ifs2,0⟩] scope pos) 0 (.ref it) (.ref D) (compEnvC scope (QM (C+1) scope.names (jh X.env scope.names [])) C X.env)) (compPost (Ql X.prog X.w) X.A X.xe use RR (.ref D) C) {s₃ with heap:=h₁}:=by
  refine uB (λn s'=>∃i σ' H',aJ (ar X scope cp tgN C s₃ (bz H2 D (.lst [])) fp) [] σ' H' s'/\tn i s'.heap/\(∀b∈fp,H' b=none)/\W i n σ' H') ?_ (n0:=m0) ⟨0,_,_,I4,hst4,λb hb=>(f3 b hb).1,w0⟩;rintro n s5⟨i,σ5,H5,I5,st5,fr5,w5⟩;have stat:∀{H':Hp},(∀b∈fp,H' b=none)->∀b∈fp,gR (ar X scope cp tgN C s₃ (bz H2 D (.lst [])) fp) [] H' b:=λhn b hb=>⟨hn b hb,(ok'.exf b hb).1,ok'.exfs b hb,.inl hb,(ok'.exf b hb).2,λp hp=>by simp[ar]at hp⟩;rcases turn i n σ5 H5 w5 with⟨stop,qn⟩|⟨go,N,hN,step⟩;·refine cj (T.done (ar X scope cp tgN C s₃ (bz H2 D (.lst [])) fp) rfl rfl rfl hc i [] s5 σ5 H5 (λ_ _=>False) I5 (stat fr5) st5 stop) λr s6⟨hr,I6⟩=>?_;subst hr;refine⟨λ_=>?_,λv z=>by cases z⟩;obtain⟨m,hn,_⟩:=I6.loc;exact fin C D H5 s6 ⟨m,hn⟩ qn (I3.fpOk (by rw[hC];exact RJ _) I6.free) (nQ I3 f3 nC I6)
  ·refine cj (T.item (ar X scope cp tgN C s₃ (bz H2 D (.lst [])) fp) rfl rfl rfl hc i [] s5 σ5 H5 (λ_ _=>False) I5 (stat fr5) st5 go) λr s6⟨u,hr,h6⟩=>?_;subst hr;refine⟨λz=>(by cases z),λv z=>?_⟩;cases z;refine cj h6 λ_ s7⟨x,H7,I7,r7,y7,st7,fr7⟩=>?_;have I7':=I7.pinned (stat fr7) (T.obj _ _ st7);have QT:∀{σ8:L2.St}{H8:Hp}{s8:Qf},aJ (ar X scope cp tgN C s₃ (bz H2 D (.lst [])) fp) ([]++ka fp s7.heap) σ8 H8 s8->N σ8 H8->∃m,m<n/\∃i σ' H',aJ (ar X scope cp tgN C s₃ (bz H2 D (.lst [])) fp) [] σ' H' s8/\tn i s8.heap/\(∀b∈fp,H' b=none)/\W i m σ' H':=fun{σ8 H8 s8}I8 n8=>by obtain⟨m',hm,w8⟩:=hN σ8 H8 n8;refine⟨m',hm,i+1,σ8,H8,I8.unpinned,T.keep _ _ _ st7 λb hb o e=>(I8.pin (b,o) (QL _ (QL _ (bQ hb e)))).1,λb hb=>?_,w8⟩;obtain⟨o,e,d⟩:=T.obj _ _ st7 b hb;exact(I8.pin (b,o) (QL _ (QL _ (bQ hb e)))).2.1
   refine cj (hg C s₃ (bz H2 D (.lst [])) fp _ s7 σ5 H7 x u _ I7' r7 (step x H7 y7)) λ_ s8⟨σ8,H8,I8,q8⟩=>?_;refine cj (ht C s₃ (bz H2 D (.lst [])) fp _ s8 σ8 H8 _ I8 q8) λok s9⟨H9,I9,q9⟩=>?_;cases ok with|false=>rw[if_neg RM]at q9⊢;exact QT I9 q9|true=>rw[if_pos rfl]at q9⊢;exactλk Q' E' hk=>Cn (Y:=ar X scope cp tgN C s₃ (bz H2 D (.lst [])) fp) hc rfl (hi2 C s₃ _ fp) (hg2 C s₃ _ fp) (ht2 C s₃ _ fp) (he C s₃ _ fp) (hs2 C s₃ _ fp) I9 q9 k Q' E' λs'⟨σ11,H11,I11,q11⟩=>hk s' (QT I11 q11)
 exact codeAny_compStart_list loop (T.self X.A 0 _ _ _ hst4 loop)
theorem vh{X:Cx}{ix:Nat}{nm:Str}{posn poss:Pos}{elt iter tg iter2 tg2:Qh}{ifs ifs2:List Qh}{scope:Qx}{pos:Pos}{wi wi2:TI}{g g2:TG}{tc tc2:TT}{te:TE}(sc0:Qx)(N0:List Str)(cp:List (Nat×Str))(tgN:List Str)(hc:X.calm=true)(hsc:X.env.scope=sc0)(hN0:X.N=N0)(hi:PI X tg iter wi)(hg:∀C s0 H0 fp,PG (ar X scope cp tgN C s0 H0 fp) tg g)(ht:∀C s0 H0 fp,si (ar X scope cp tgN C s0 H0 fp) ifs tc)(hi2:∀C s0 H0 fp,PI (ar X scope cp tgN C s0 H0 fp) tg2 iter2 wi2)(hg2:∀C s0 H0 fp,PG (ar X scope cp tgN C s0 H0 fp) tg2 g2)(ht2:∀C s0 H0 fp,si (ar X scope cp tgN C s0 H0 fp) ifs2 tc2)(he:∀C s0 H0 fp,PE (ar X scope cp tgN C s0 H0 fp) elt te)(hk:scope.kind=.function)(hown:∀y∈scope.names,y.2=.cell->scope.names.lookup y.1=some .cell)(hnames:∀y∈scope.names,y.2=.local->scope.names.lookup y.1=some .local)(hfr:∀y∈scope.names,y.2=.free->scope.names.lookup y.1=some .free/\sc0.names.lookup y.1=some .cell)(hcp:∀p∈cp,N0[p.1]?=some p.2)(hcq:∀p∈cp,sc0.names.lookup p.2=some .cell/\scope.names.lookup p.2=some .free)(hNd:X.N.Nodup)(hix:X.N[ix]?=some nm)(hlc:X.env.scope.names.lookup nm=some .local)(hsw:So (.ListComp elt [⟨tg,iter,ifs,0⟩,⟨tg2,iter2,ifs2,0⟩] scope pos) (some (.Name nm posn)) poss.line X.env=pure true)(hs2:∀C s0 H0 fp x,Rl iter2 (ar X scope cp tgN C s0 H0 fp).env x=pure x)(hs:∀x,Rl iter X.env x=pure x:=by intro _;rfl):PS X (.Assign [.Name nm posn] (.ListComp elt [⟨tg,iter,ifs,0⟩,⟨tg2,iter2,ifs2,0⟩] scope pos) poss) (D4 (yS cp tgN.length wi g tc wi2 g2 tc2 te) (wu ix)):=by intro pins s σ H D0 I h;rw[exec_Assign_Name_used _ _ _ _ hsw];refine Qi (RL (Qi ?_));unfold evalThenUse;exact Qi (AC sc0 N0 cp tgN hc hsc hN0 hi hg ht hi2 hg2 ht2 he hk hown hnames hfr hcp hcq hs2 hs I h (wa hNd hix hlc))
theorem yH{X:Cx}{kx vx iter tg iter2 tg2:Qh}{ifs ifs2:List Qh}{scope:Qx}{pos:Pos}{wi wi2:TI}{g g2:TG}{tc tc2:TT}{tk tv:TE}(sc0:Qx)(N0:List Str)(cp:List (Nat×Str))(tgN:List Str)(hc:X.calm=true)(hsc:X.env.scope=sc0)(hN0:X.N=N0)(hi:PI X tg iter wi)(hg:∀C s0 H0 fp,PG (ar X scope cp tgN C s0 H0 fp) tg g)(ht:∀C s0 H0 fp,si (ar X scope cp tgN C s0 H0 fp) ifs tc)(hi2:∀C s0 H0 fp,PI (ar X scope cp tgN C s0 H0 fp) tg2 iter2 wi2)(hg2:∀C s0 H0 fp,PG (ar X scope cp tgN C s0 H0 fp) tg2 g2)(ht2:∀C s0 H0 fp,si (ar X scope cp tgN C s0 H0 fp) ifs2 tc2)(hkx:∀C s0 H0 fp,PE (ar X scope cp tgN C s0 H0 fp) kx tk)(hvx:∀C s0 H0 fp,PE (ar X scope cp tgN C s0 H0 fp) vx tv)(hk:scope.kind=.function)(hown:∀y∈scope.names,y.2=.cell->scope.names.lookup y.1=some .cell)(hnames:∀y∈scope.names,y.2=.local->scope.names.lookup y.1=some .local)(hfr:∀y∈scope.names,y.2=.free->scope.names.lookup y.1=some .free/\sc0.names.lookup y.1=some .cell)(hcp:∀p∈cp,N0[p.1]?=some p.2)(hcq:∀p∈cp,sc0.names.lookup p.2=some .cell/\scope.names.lookup p.2=some .free)(hs2:∀C s0 H0 fp x,Rl iter2 (ar X scope cp tgN C s0 H0 fp).env x=pure x)(hs:∀x,Rl iter X.env x=pure x:=by intro _;rfl):PE X (.DictComp kx vx [⟨tg,iter,ifs,0⟩,⟨tg2,iter2,ifs2,0⟩] scope pos) (Ab cp tgN.length wi g tc wi2 g2 tc2 tk tv):=by
 intro pins s σ H Q I h;have hkind:∀x,X.env.kindOf x=sc0.names.lookup x:=λx=>by unfold Env.kindOf;rw[hsc]
 have hfree:∀y∈scope.names,y.2=.free->∃c,X.env.cells.lookup y.1=some c:=λy hy e=>I.ok.has y.1 (.inl (by rw[hkind];exact(hfr y hy e).2));rw[arm_eval_DictComp];refine VM (use:=none) rfl hs (mf hfree) hk hnames (Qw (hi pins s σ H _ I h.go) (λxv s₁ h₁=>Qw h₁ (λitv s₂ h₂=>?_) λ_ _ e=>e) λ_ _ e=>e);obtain⟨it,fp,tn,J,H2,rfl,I2,T,st2,f2,hq⟩:=h₂;refine Sd ?_;have hlF:H2 ↑s₂=none:=I2.hok.fresh ↥8;have I3:aJ X pins σ (bz H2 ↑s₂ (.dK [])) {s₂ with heap:=s₂.heap.push {cls:=.type "dict",data:=.dict #[]}}:=I2.laid (a:=↑s₂) (o:=.dK []) (t':=s₂.toks) (λ_ _ q=>QG _ q) ↥8 (B2 s₂.heap I2.big);obtain⟨W,⟨m0,w0⟩,turn⟩:=hq _ hlF;have f3:∀b∈fp,gR X pins (bz H2 ↑s₂ (.dK [])) b:=λb hb=>by obtain⟨f0,fr⟩:=f2 b hb;obtain⟨o,ho,_⟩:=T.obj _ _ st2 b hb;exact⟨by rw[aA (Rg (QA ho))];exact f0,fr⟩
 have st3:tn 0 (s₂.heap.push {cls:=.type "dict",data:=.dict #[]}):=T.keep _ _ _ st2 λb _ o e=>QG _ e;generalize hD:↑s₂=D at*;generalize hs3:({s₂ with heap:=s₂.heap.push {cls:=.type "dict",data:=.dict #[]}}:Qf)=s₃ at*;have hst3:tn 0 s₃.heap:=by rw[<-hs3];exact st3
 refine vc (λh₁ hns₁ old hownC apC=>?_);generalize hC:↑s₃=C at*;have nC:∀b o,s₃.heap.get? b=some o->b≠C:=λb o e=>by rw[<-hC];exact Rg (QA e)
 obtain⟨ok',I4⟩:=nP (cp:=cp) (tgN:=tgN) hsc hN0 hk hown hfr hcp hcq I3 f3 (λb hb=>let⟨o,e,_⟩:=T.obj _ _ hst3 b hb;⟨o,e⟩) hC hns₁ old hownC apC;have hst4:tn 0 h₁:=T.keep _ _ _ hst3 λb _ o e=>old b o e;have loop:Rh (Ql X.prog X.w) X.A (.compLoop (.DictComp kx vx [⟨tg,iter,ifs,0⟩,⟨tg2,iter2,ifs2,0⟩] scope pos) 0 (.ref it) (.ref D) (compEnvC scope (QM (C+1) scope.names (jh X.env scope.names [])) C X.env)) (compPost (Ql X.prog X.w) X.A X.xe none (EP X pins σ Q) (.ref D) C) {s₃ with heap:=h₁}:=by
  refine sy (λn s'=>∃i σ' H',aJ (ar X scope cp tgN C s₃ (bz H2 D (.dK [])) fp) [] σ' H' s'/\tn i s'.heap/\(∀b∈fp,H' b=none)/\W i n σ' H') ?_ (n0:=m0) ⟨0,_,_,I4,hst4,λb hb=>(f3 b hb).1,w0⟩;rintro n s5⟨i,σ5,H5,I5,st5,fr5,w5⟩;have stat:∀{H':Hp},(∀b∈fp,H' b=none)->∀b∈fp,gR (ar X scope cp tgN C s₃ (bz H2 D (.dK [])) fp) [] H' b:=λhn b hb=>⟨hn b hb,(ok'.exf b hb).1,ok'.exfs b hb,.inl hb,(ok'.exf b hb).2,λp hp=>by simp[ar]at hp⟩;rcases turn i n σ5 H5 w5 with⟨stop,qn⟩|⟨go,N,hN,step⟩;·refine cj (T.done (ar X scope cp tgN C s₃ (bz H2 D (.dK [])) fp) rfl rfl rfl hc i [] s5 σ5 H5 (λ_ _=>False) I5 (stat fr5) st5 stop) λr s6⟨hr,I6⟩=>?_;subst hr;refine⟨λ_=>?_,λv z=>by cases z⟩;obtain⟨m,hn,_⟩:=I6.loc;exact⟨m,hn,λh' sb=>⟨.ref D,H5,nQ I3 f3 nC I6 h' sb,rfl,qn⟩⟩
  ·refine cj (T.item (ar X scope cp tgN C s₃ (bz H2 D (.dK [])) fp) rfl rfl rfl hc i [] s5 σ5 H5 (λ_ _=>False) I5 (stat fr5) st5 go) λr s6⟨u,hr,h6⟩=>?_;subst hr;refine⟨λz=>(by cases z),λv z=>?_⟩;cases z;refine cj h6 λ_ s7⟨x,H7,I7,r7,y7,st7,fr7⟩=>?_;have I7':=I7.pinned (stat fr7) (T.obj _ _ st7);have QT:∀{σ8:L2.St}{H8:Hp}{s8:Qf},aJ (ar X scope cp tgN C s₃ (bz H2 D (.dK [])) fp) ([]++ka fp s7.heap) σ8 H8 s8->N σ8 H8->∃m,m<n/\∃i σ' H',aJ (ar X scope cp tgN C s₃ (bz H2 D (.dK [])) fp) [] σ' H' s8/\tn i s8.heap/\(∀b∈fp,H' b=none)/\W i m σ' H':=fun{σ8 H8 s8}I8 n8=>by obtain⟨m',hm,w8⟩:=hN σ8 H8 n8;refine⟨m',hm,i+1,σ8,H8,I8.unpinned,T.keep _ _ _ st7 λb hb o e=>(I8.pin (b,o) (QL _ (QL _ (bQ hb e)))).1,λb hb=>?_,w8⟩;obtain⟨o,e,d⟩:=T.obj _ _ st7 b hb;exact(I8.pin (b,o) (QL _ (QL _ (bQ hb e)))).2.1
   refine cj (hg C s₃ (bz H2 D (.dK [])) fp _ s7 σ5 H7 x u _ I7' r7 (step x H7 y7)) λ_ s8⟨σ8,H8,I8,q8⟩=>?_;refine cj (ht C s₃ (bz H2 D (.dK [])) fp _ s8 σ8 H8 _ I8 q8) λok s9⟨H9,I9,q9⟩=>?_;cases ok with|false=>rw[if_neg RM]at q9⊢;exact QT I9 q9|true=>rw[if_pos rfl]at q9⊢;exactλk Q' E' hk=>AM (Y:=ar X scope cp tgN C s₃ (bz H2 D (.dK [])) fp) hc rfl (hi2 C s₃ _ fp) (hg2 C s₃ _ fp) (ht2 C s₃ _ fp) (hkx C s₃ _ fp) (hvx C s₃ _ fp) (hs2 C s₃ _ fp) I9 q9 k Q' E' λs'⟨σ11,H11,I11,q11⟩=>hk s' (QT I11 q11)
 exact codeAny_compStart_dict loop (T.self X.A 0 _ _ _ hst4 loop)
section
variable{X:Cx}{K:⇑0}{pos:Pos}
theorem xh{ix:Nat}{nm:Str}{posn poss:Pos}{elt iter tg iter2 tg2:Qh}{ifs ifs2:List Qh}{scope:Qx}{fi fi2:FI}{g g2:FG}{ft ft2:FT}{fe:FE}{W W2:List Nat}(cp:List (Nat×Str))(tgN:List Str)(hc:X.calm=true)(hi:PI X tg iter (fI K fi))(hg:∀C s0 H0 fp,PG (ar X scope cp tgN C s0 H0 fp) tg (fG K g W))(ht:∀C s0 H0 fp,si (ar X scope cp tgN C s0 H0 fp) ifs (fT K ft))(hi2:∀C s0 H0 fp,PI (ar X scope cp tgN C s0 H0 fp) tg2 iter2 (fI K fi2))(hg2:∀C s0 H0 fp,PG (ar X scope cp tgN C s0 H0 fp) tg2 (fG K g2 W2))(ht2:∀C s0 H0 fp,si (ar X scope cp tgN C s0 H0 fp) ifs2 (fT K ft2))(he:∀C s0 H0 fp,PE (ar X scope cp tgN C s0 H0 fp) elt (fE K fe))(hk:scope.kind=.function)(hch:AB X.env.scope scope X.N cp (W++W2)=true)(hNd:X.N.Nodup)(hix:X.N[ix]?=some nm)(hlc:X.env.scope.names.lookup nm=some .local)(hsw:So (.ListComp elt [⟨tg,iter,ifs,0⟩,⟨tg2,iter2,ifs2,0⟩] scope pos) (some (.Name nm posn)) poss.line X.env=pure true)(hs2:∀C s0 H0 fp x,Rl iter2 (ar X scope cp tgN C s0 H0 fp).env x=pure x)(hs:∀x,Rl iter X.env x=pure x):PS X (.Assign [.Name nm posn] (.ListComp elt [⟨tg,iter,ifs,0⟩,⟨tg2,iter2,ifs2,0⟩] scope pos) poss) (fS K (aN ix (oC cp tgN.length fi g ft fi2 g2 ft2 fe)) [ix]):=by obtain⟨h0,h1,h2,h3,h4,h5,h6⟩:=pT hch;exact(vh X.env.scope X.N cp tgN hc rfl rfl hi (λC s0 H0 fp=>(hg C s0 H0 fp).wide λj hj=>UL W2 hj) ht hi2 (λC s0 H0 fp=>(hg2 C s0 H0 fp).wide λj hj=>QL W hj) ht2 he hk h0 h1 h2 h3 h4 hNd hix hlc hsw hs2 hs).mono λD σ H h=>by obtain⟨F,e,fl,R,hf,q⟩:=h;unfold aN at hf;obtain⟨⟨r,e1⟩,hh1,hf⟩:=P8 hf;obtain⟨e2,hh2,hf⟩:=P9 hf;cases hf;refine Bp h5 h6 ⟨F,e,r,e1,R,hh1,λF1 H1 v X1 R1 A1=>?_⟩;obtain⟨x,R2⟩:=yL R X1 R1 A1 hh2;exact q F1 H1 _ x R2
theorem A9{iter tg tg2:Qh}{xk xv xi:Str}{pk pv pi:Pos}{scope:Qx}{fi:FI}{g g2:FG}{W W2:List Nat}{ii ik iv:Nat}(tgN:List Str)(hK:X.K=K)(hc:X.calm=true)(hi:PI X tg iter (fI K fi))(hg:∀C s0 H0 fp,PG (ar X scope [] tgN C s0 H0 fp) tg (fG K g W))(hi2:∀C s0 H0 fp,PE (ar X scope [] tgN C s0 H0 fp) (.Name xi pi) (pN ii))(hg2:∀C s0 H0 fp,PG (ar X scope [] tgN C s0 H0 fp) tg2 (fG K g2 W2))(hkx:∀C s0 H0 fp,PE (ar X scope [] tgN C s0 H0 fp) (.Name xk pk) (pN ik))(hvx:∀C s0 H0 fp,PE (ar X scope [] tgN C s0 H0 fp) (.Name xv pv) (pN iv))(hk:scope.kind=.function)(hch:AB X.env.scope scope X.N [] (W++W2)=true)(hs2:∀C s0 H0 fp x,Rl (.Name xi pi) (ar X scope [] tgN C s0 H0 fp).env x=pure x)(hs:∀x,Rl iter X.env x=pure x):PE X (.DictComp (.Name xk pk) (.Name xv pv) [⟨tg,iter,[],0⟩,⟨tg2,.Name xi pi,[],0⟩] scope pos) (fE K (lQ tgN.length fi g ii g2 ik iv)):=by subst hK;obtain⟨h0,h1,h2,h3,h4,h5,h6⟩:=pT hch;exact(yH X.env.scope X.N [] tgN hc rfl rfl hi (λC s0 H0 fp=>(hg C s0 H0 fp).wide λj hj=>UL W2 hj) (λ_ _ _ _=>vj) (λC s0 H0 fp=>Dd (hi2 C s0 H0 fp)) (λC s0 H0 fp=>(hg2 C s0 H0 fp).wide λj hj=>QL W hj) (λ_ _ _ _=>vj) hkx hvx hk h0 h1 h2 h3 h4 hs2 hs).mono λ_ _ _ h=>y0 h
end
end L2
namespace V71
open PySem PySem.Spec PyProof.Rows L2
variable{P:Qn}{w:Qk}{K:W.Frag}{mg:Str->Option Qd}{base:Qm}{f:Qe}{fd:QJ}
local macro_rules|`(tactic|trivial)=>`(tactic|first|exact .inl rfl|exact .inr rfl|assumption)
local macro_rules|`(¬$n:num)=>`(@qw _ _ $n _ _ (by rfl) (by rfl) (by decide))
local macro_rules|`($a∘$b)=>`(@LV _ _ _ _ _ _ $a $b (by rfl))
def top(i:Nat):Qo:=Tt.main.body.getD i (.Pass ⟨0,0,0,0⟩)
theorem oS{α:Type u}{β:Type v}{f:α->β}:List.map f []=[]:=rfl
theorem oR{α:Type u}{β:Type v}{f:α->β}{a:α}{l:List α}:List.map f (a::l)=f a::List.map f l:=rfl
theorem oM{α:Type u}{l:List α}:[]++l=l:=rfl
theorem oK{α:Type u}{a:α}{l m:List α}:(a::l)++m=a::(l++m):=rfl
theorem oP{α:Type u}{a:α}{l:List α}:(a::l)[0]?=some a:=rfl
theorem oQ{α:Type u}{a:α}{l:List α}{i:Nat}:(a::l)[i+1]?=l[i]?:=rfl
theorem oO{α:Type u}{β:Type v}{a:α}{f:α->Option β}:Option.bind (some a) f=f a:=rfl
theorem oT{α:Type u}{β:Type v}{a:α}{f:α->β}:Option.map f (some a)=some (f a):=rfl
abbrev cg:Qo:=top 6
abbrev cF:Qo:=top 10
abbrev iL:Qo:=top 11
abbrev oy:Qo:=top 12
abbrev kf:Qo:=top 13
abbrev iM:Qo:=top 14
abbrev jO:Qo:=top 16
abbrev dQ:Qo:=top 17
abbrev fW:Qo:=top 20
abbrev eL:Qo:=top 22
abbrev df:Qo:=top 23
abbrev bJ:Qo:=top 26
abbrev bK:Qo:=top 27
abbrev nu:Qo:=top 29
abbrev nj:Qo:=top 30
abbrev kd:Qo:=top 31
abbrev xr:Qo:=top 32
abbrev rL:Qo:=top 33
abbrev oq:Qo:=top 34
abbrev ke:Qo:=top 35
abbrev ou:Qo:=top 36
abbrev rM:Qo:=top 37
abbrev jK:Qo:=top 38
abbrev ny:Qo:=top 39
abbrev ox:Qo:=top 40
abbrev xu:Qo:=top 41
abbrev jJ:Qo:=top 42
abbrev xt:Qo:=top 43
abbrev lb:Qo:=top 44
abbrev jI:Qo:=top 45
abbrev nq:Qo:=top 46
abbrev de:Qo:=top 47
abbrev gK:Qo:=top 48
abbrev fU:Qo:=top 49
abbrev oo:Qo:=top 50
abbrev fj:Qo:=top 51
abbrev jL:Qo:=top 52
abbrev iJ:Qo:=top 53
abbrev dZ:Qo:=top 54
abbrev iK:Qo:=top 55
abbrev jM:Qo:=top 56
abbrev jN:Qo:=top 57
abbrev xq:Qo:=top 58
abbrev rO:Qo:=top 59
structure iw (mg:Str->Option Qd):Prop where
 b_abs:mg "abs"=none
 b_len:mg "len"=none
 b_min:mg "min"=none
 b_max:mg "max"=none
 b_range:mg "range"=none
 b_repr:mg "repr"=none
 b_tuple:mg "tuple"=none
 b_int:mg "int"=none
 b_sorted:mg "sorted"=none
 b_zip:mg "zip"=none
 b_enumerate:mg "enumerate"=none
 b_isinstance:mg "isinstance"=none
 b_sum:mg "sum"=none
 b_ValueError:mg "ValueError"=none
abbrev Cl(P:Qn)(w:Qk)(K:W.Frag)(mg:Str->Option Qd)(base:Qm)(n:Str)(s:Qo)(ps:List Str)(lv k:Nat)(m:FM):Prop:=∃f fd,eN K mg n s f fd ps/\bu P w K mg base fx lv f fd ps (fX K k m)
def kJ:FS:=(ky (aX (ax Ca (af 0) (af 1))) Ho eM)
def dG:FM:=gQ 2 0 ([]++[]) kJ
theorem eg:aH ["many","most"] ["many","most"] (au cg):=⟨rfl,rfl,rfl,by decide+kernel,rfl,by decide+kernel,by decide+kernel⟩
theorem pK(h:eN K mg "refuse_above" cg f fd ["many","most"])(T:iw mg):bu P w K mg base fx 1 f fd ["many","most"] (fX K 2 dG):=by have nd:=eg.nd;exact h.fn eg rfl rfl (λcdv A outer s H E hr=>(@ao _ _ _ _ _ (@eK _ _ _ _ _ _ _ _ _ _ _ (@bh _ _ _ _ _ _ _ _ _ (@yc _ _) (¬0) (¬1) (bg _)) (@ao _ _ _ _ _ (@Gh _ _ _)) (@bV _ _))))
def iC:En->Prop:=λe=>∃e',(aX (ax Ca (af 0) (af 1))) e=some (true,e')/\nZ e'=true/\(λe=>∃(rs:List Rv) (e':En),(ac (Li (um uO (af 0)) (vC (.str (" are more than ":Str))) (um uO (af 1))) am) e=some (rs,e')/\rs.length=1) e'
theorem n_(h:eN K mg "refuse_above" cg f fd ["many","most"])(T:iw mg){C:Qe}(m_TooMany:mg "TooMany"=some (.ref C))(x_TooMany:Uh K C Br "ValueError.__new__"=true):bu P w K mg base (p9 P w C) 1 f fd ["many","most"] (Et K 2 0 iC):=by have nd:=eg.nd;exact h.fnR eg rfl rfl (λcdv A outer s H E hr=>(KJ (PT.nox (@bh _ _ _ _ _ _ _ _ _ (@yc _ _) (¬0) (¬1) (bg _))) (DL rfl rfl m_TooMany x_TooMany DB ((@LU _ _ _ _ _ _ _ _ _ (@Hi _ _ _ _ _ (¬0)) (@IX _ _ _ _ _) (@Hi _ _ _ _ _ (¬1)))∘ae) ⋯ rfl)))
def b_:FT:=(aX (ax (eh true) (af 1) (vC (.int 0))))
def cH:FS:=(pM 0 1 (ac (af 1) (ac (ax be (af 0) (af 1)) am)))
def jw:FS:=(aC (fV (2^4200) b_ cH) (bx (aF (g1 yj) (ac (af 0) am))))
def cE:FM:=gQ 2 0 ([0,1]++[]) jw
theorem jd:aH ["one","other"] ["one","other"] (au cF):=⟨rfl,rfl,rfl,by decide+kernel,rfl,by decide+kernel,by decide+kernel⟩
theorem m7(h:eN K mg "common_divisor" cF f fd ["one","other"])(T:iw mg):bu P w K mg base fx 1 f fd ["one","other"] (fX K 2 cE):=by have nd:=jd.nd;exact h.fn jd rfl rfl (λcdv A outer s H E hr=>(@aj _ _ _ _ _ _ _ _ (@jG _ _ _ _ _ _ _ _ _ Re (@bh _ _ _ _ _ _ _ _ _ (@ye _ _ _ rfl hr) (¬1) ag (bg _)) (@ao _ _ _ _ _ (@Dt _ _ _ _ _ 0 1 _ _ _ _ _ _ _ _ _ rfl nd rfl rfl ⋯ rfl rfl ((¬1)∘((@bi _ _ _ _ _ _ _ (¬0) (¬1))∘ae)) ∅ ∅))) (@ao _ _ _ _ _ (@aO _ _ _ _ _ (@aU _ _ _ _ _ _ _ _ _ (@b_abs _ _) ∅ T.b_abs ((¬0)∘ae) ⋯ ⋯ ∅ ∅)))))
def vP:FS:=(aC (aN 2 (bR 2 cE (ac (af 0) (ac (af 1) am)))) (aC (ky (aX (ax Cd (af 1) (vC (.int 0)))) (aN 2 (um ww (af 2))) eM) (bx (bo (ac (ax dj (af 0) (af 2)) (ac (ax dj (af 1) (af 2)) am))))))
def ff:FM:=gQ 2 1 ([2]++(([2]++[])++[])) vP
theorem t_:aH ["top","bottom","divisor"] ["top","bottom"] (au iL):=⟨rfl,rfl,rfl,by decide+kernel,rfl,by decide+kernel,by decide+kernel⟩
theorem A6(h:eN K mg "lowest" iL f fd ["top","bottom"])(T:iw mg)(z_common_divisor:Cl P w K mg base "common_divisor" cF ["one","other"] 1 2 cE):bu P w K mg base fx 2 f fd ["top","bottom"] (fX K 2 ff):=by obtain⟨Ou,Ov,M4,NH⟩:=z_common_divisor;have nd:=t_.nd;exact h.fn t_ rfl rfl (λcdv A outer s H E hr=>(@aj _ _ _ _ _ _ _ _ (@az _ _ _ _ _ 2 _ _ nd rfl ↥3 (@aV _ _ _ _ _ _ _ _ _ _ _ _ _ _ _ M4 NH (hr.mono ⋯) ((¬0)∘((¬1)∘ae)) ∅ ⋯ ∅ ∅) ∅ (by trivial)) (@aj _ _ _ _ _ _ _ _ (@eK _ _ _ _ _ _ _ _ _ _ _ (@bh _ _ _ _ _ _ _ _ _ (@yd _ _) (¬1) ag (bg _)) (@ao _ _ _ _ _ (@az _ _ _ _ _ 2 _ _ nd rfl ↥3 (@xj _ _ _ _ _ (¬2)) ∅ (by trivial))) (@bV _ _)) (@ao _ _ _ _ _ (@aO _ _ _ _ _ (@aM _ _ _ _ _ _ ((@fP _ _ _ _ _ _ _ (¬0) (¬2))∘((@fP _ _ _ _ _ _ _ (¬1) (¬2))∘ae))))))))
def BP:FS:=(bx (bR 2 ff (ac (ax bF (ax dz (ax ba (af 0) (vC (.int 0))) (ax ba (af 1) (vC (.int 1)))) (ax dz (ax ba (af 1) (vC (.int 0))) (ax ba (af 0) (vC (.int 1))))) (ac (ax dz (ax ba (af 0) (vC (.int 1))) (ax ba (af 1) (vC (.int 1)))) am))))
def nY:FM:=gQ 2 0 [] BP
theorem zZ:aH ["one","other"] ["one","other"] (au oy):=⟨rfl,rfl,rfl,by decide+kernel,rfl,by decide+kernel,by decide+kernel⟩
theorem Fz(h:eN K mg "plus" oy f fd ["one","other"])(T:iw mg)(z_lowest:Cl P w K mg base "lowest" iL ["top","bottom"] 2 2 ff):bu P w K mg base fx 3 f fd ["one","other"] (fX K 2 nY):=by obtain⟨Of,Og,Nb,Nv⟩:=z_lowest;have nd:=zZ.nd;exact h.fn zZ rfl rfl (λcdv A outer s H E hr=>(@ao _ _ _ _ _ (@aO _ _ _ _ _ (@aV _ _ _ _ _ _ _ _ _ _ _ _ _ _ _ Nb Nv (hr.mono ⋯) ((@bP _ _ _ _ _ _ _ rfl (@gJ _ _ _ _ _ _ _ rfl (@aQ _ _ _ _ _ _ _ rfl (¬0) ag ↥4) (@aQ _ _ _ _ _ _ _ rfl (¬1) ag ↥4)) (@gJ _ _ _ _ _ _ _ rfl (@aQ _ _ _ _ _ _ _ rfl (¬1) ag ↥4) (@aQ _ _ _ _ _ _ _ rfl (¬0) ag ↥4)))∘((@gJ _ _ _ _ _ _ _ rfl (@aQ _ _ _ _ _ _ _ rfl (¬0) ag ↥4) (@aQ _ _ _ _ _ _ _ rfl (¬1) ag ↥4))∘ae)) ∅ ⋯ ∅ ∅))))
def zh:FS:=(bx (bR 2 ff (ac (ax dz (ax ba (af 0) (vC (.int 0))) (ax ba (af 1) (vC (.int 0)))) (ac (ax dz (ax ba (af 0) (vC (.int 1))) (ax ba (af 1) (vC (.int 1)))) am))))
def ia:FM:=gQ 2 0 [] zh
theorem xF:aH ["one","other"] ["one","other"] (au kf):=⟨rfl,rfl,rfl,by decide+kernel,rfl,by decide+kernel,by decide+kernel⟩
theorem CW(h:eN K mg "times" kf f fd ["one","other"])(T:iw mg)(z_lowest:Cl P w K mg base "lowest" iL ["top","bottom"] 2 2 ff):bu P w K mg base fx 3 f fd ["one","other"] (fX K 2 ia):=by obtain⟨Of,Og,Nb,Nv⟩:=z_lowest;have nd:=xF.nd;exact h.fn xF rfl rfl (λcdv A outer s H E hr=>(@ao _ _ _ _ _ (@aO _ _ _ _ _ (@aV _ _ _ _ _ _ _ _ _ _ _ _ _ _ _ Nb Nv (hr.mono ⋯) ((@gJ _ _ _ _ _ _ _ rfl (@aQ _ _ _ _ _ _ _ rfl (¬0) ag ↥4) (@aQ _ _ _ _ _ _ _ rfl (¬1) ag ↥4))∘((@gJ _ _ _ _ _ _ _ rfl (@aQ _ _ _ _ _ _ _ rfl (¬0) ag ↥4) (@aQ _ _ _ _ _ _ _ rfl (¬1) ag ↥4))∘ae)) ∅ ⋯ ∅ ∅))))
def qj:FS:=(bx (bR 2 ff (ac (ax kW (ax ba (af 0) (vC (.int 1))) (ax ba (af 0) (vC (.int 0)))) (ac (ax ba (af 0) (vC (.int 1))) am))))
def iI:FM:=gQ 1 0 [] qj
theorem pj:aH ["chance"] ["chance"] (au iM):=⟨rfl,rfl,rfl,by decide+kernel,rfl,by decide+kernel,by decide+kernel⟩
theorem w_(h:eN K mg "one_less" iM f fd ["chance"])(T:iw mg)(z_lowest:Cl P w K mg base "lowest" iL ["top","bottom"] 2 2 ff):bu P w K mg base fx 3 f fd ["chance"] (fX K 1 iI):=by obtain⟨Of,Og,Nb,Nv⟩:=z_lowest;have nd:=pj.nd;exact h.fn pj rfl rfl (λcdv A outer s H E hr=>(@ao _ _ _ _ _ (@aO _ _ _ _ _ (@aV _ _ _ _ _ _ _ _ _ _ _ _ _ _ _ Nb Nv (hr.mono ⋯) ((@xl _ _ _ _ _ _ _ (@aQ _ _ _ _ _ _ _ rfl (¬0) ag ↥4) (@aQ _ _ _ _ _ _ _ rfl (¬0) ag ↥4))∘((@aQ _ _ _ _ _ _ _ rfl (¬0) ag ↥4)∘ae)) ∅ ⋯ ∅ ∅))))
def o8:FI:=(iE (af 0))
def kM:FT:=(aX (af 1))
def kO:FE:=(af 0)
def sW:FS:=(bx (aF (g1 bf) (ac (bj [] 2 o8 (a8 (aq (ah 0) (aq (ah 1) aY))) kM kO) am)))
def jD:FM:=gQ 1 0 [] sW
theorem rV:aH ["run"] ["run"] (au jO):=⟨rfl,rfl,rfl,by decide+kernel,rfl,by decide+kernel,by decide+kernel⟩
theorem yG(h:eN K mg "kept_of" jO f fd ["run"])(T:iw mg):bu P w K mg base fx 1 f fd ["run"] (fX K 1 jD):=by have nd:=rV.nd;exact h.fn rV rfl rfl (λcdv A outer s H E hr=>(@ao _ _ _ _ _ (@aO _ _ _ _ _ (@aU _ _ _ _ _ _ _ _ _ (@b_tuple _ _ rfl) ∅ T.b_tuple ((@cy _ _ _ _ _ _ _ _ _ _ _ _ _ [] ["tie","truth"] rfl rfl (@dH _ _ _ _ _ rfl (¬0)) (λC s0 H0 fp=>(@cN _ _ _ _ _ _ _ _ rfl rfl (@aE _ _ _ _ _ _ _ _ (@av _ _ _ 0 _ (show QO (["tie","truth"]:List Str) by decide+kernel) rfl ↥3 (by trivial)) (@aE _ _ _ _ _ _ _ _ (@av _ _ _ 1 _ (show QO (["tie","truth"]:List Str) by decide+kernel) rfl ↥3 (by trivial)) (@bU _ _) ∅) ∅) (aL (aL cK)) ∅ ∅)) (λC s0 H0 fp=>(@lN _ _ _ _ (@kc _ _ _ _ (¬1) ↥5))) (λC s0 H0 fp=>(¬0)) rfl ∅ ↥5)∘ae) ⋯ ⋯ ∅ ∅))))
def kZ:FI:=(iE (bR 1 jD (ac (af 1) am)))
def eY:FE:=(ax ba (ax ba (ax ba (af 0) (vC (.int 1))) (af 1)) (vC (.int 3)))
def mH:FS:=(bx (aF (g1 (oY tK)) (ac (bj [(0,"web")] 1 kZ (ah 1) a_ eY) am)))
def cM:FM:=gQ 2 0 [] mH
theorem l_:aH ["web","run"] ["web","run"] (au dQ):=⟨rfl,rfl,rfl,by decide+kernel,rfl,by decide+kernel,by decide+kernel⟩
theorem sM(h:eN K mg "worth_kept" dQ f fd ["web","run"])(T:iw mg)(z_kept_of:Cl P w K mg base "kept_of" jO ["run"] 1 1 jD):bu P w K mg base fx 2 f fd ["web","run"] (fX K 2 cM):=by obtain⟨O_,O',Nw,Ow⟩:=z_kept_of;have nd:=l_.nd;exact h.fn l_ rfl rfl (λcdv A outer s H E hr=>(@ao _ _ _ _ _ (@aO _ _ _ _ _ (@aU _ _ _ _ _ _ _ _ _ (@b_sum _ _ _ rfl hr) ∅ T.b_sum ((@cy _ _ _ _ _ _ _ _ _ _ _ _ _ [(0,"web")] ["tie"] rfl rfl (@dH _ _ _ _ _ rfl (@aV _ _ _ _ _ _ _ _ _ _ _ _ _ _ _ Nw Ow (hr.mono ⋯) ((¬1)∘ae) ∅ ⋯ ∅ ∅)) (λC s0 H0 fp=>(@av _ _ _ 1 _ (show QO (["web","tie"]:List Str) by decide+kernel) rfl ↥3 (by trivial))) (λC s0 H0 fp=>(@cO _ _)) (λC s0 H0 fp=>(@aQ _ _ _ _ _ _ _ rfl (@aQ _ _ _ _ _ _ _ rfl (@aQ _ _ _ _ _ _ _ rfl (¬0) ag ↥4) (¬1) ↥4) ag ↥4)) rfl ∅ ↥5)∘ae) ⋯ ⋯ ∅ ∅))))
def eU:FT:=(aX (ax (eh true) (af 4) (vC (.int (-1)))))
def hX:FS:=(aC (jo (ax ba (af 1) (af 4)) (a8 (aq (ah 5) (aq (ah 6) (aq (ah 7) aY))))) (aC (dm (cG bD (af 3) (ac (bo (ac (af 5) (ac (ax ba (af 2) (af 5)) am))) am))) (aN 4 (Bs (aX (ax ba (af 2) (af 5))) (af 6) (af 7)))))
def me:FS:=(aC (aN 3 (cQ am)) (aC (aN 4 (Bs (aX (ax Ca (aF (g1 ce) (ac (af 1) am)) (vC (.int 0)))) (vC (.int 0)) (vC (.int (-1))))) (aC (fV (2^4200) eU hX) (bx (aF (g1 bf) (ac (af 3) am))))))
def eu:FM:=gQ 3 5 ([3]++([4]++((([5]++([6]++([7]++[])))++([]++[4]))++[]))) me
theorem pz:aH ["web","tree","answers","run","at","tie","yes","no"] ["web","tree","answers"] (au fW):=⟨rfl,rfl,rfl,by decide+kernel,rfl,by decide+kernel,by decide+kernel⟩
theorem xa(h:eN K mg "run_tree" fW f fd ["web","tree","answers"])(T:iw mg){t_END:Tok}(m_END:mg "END"=some (.int (-1) t_END)):bu P w K mg base fx 1 f fd ["web","tree","answers"] (fX K 3 eu):=by have nd:=pz.nd;exact h.fn pz rfl rfl (λcdv A outer s H E hr=>(@aj _ _ _ _ _ _ _ _ (@az _ _ _ _ _ 3 _ _ nd rfl ↥3 (@bH _ _ _ _ _ ae) ∅ (by trivial)) (@aj _ _ _ _ _ _ _ _ (@az _ _ _ _ _ 4 _ _ nd rfl ↥3 (@rE _ _ _ _ _ _ _ _ _ (@bh _ _ _ _ _ _ _ _ _ (@yc _ _) (@aU _ _ _ _ _ _ _ _ _ (@b_len _ _ rfl) ∅ T.b_len ((¬1)∘ae) ⋯ ⋯ ∅ ∅) ag (bg _)) ag (@lM _ _ _ (V.int (-1)) _ _ (PyData.int (-1)) rfl m_END ⟨_,rfl⟩ (λ_=>bT.mpr rfl) ⋯)) ∅ (by trivial)) (@aj _ _ _ _ _ _ _ _ (@jG _ _ _ _ _ _ _ _ _ Re (@bh _ _ _ _ _ _ _ _ _ (@ye _ _ _ rfl hr) (¬4) (@lM _ _ _ (V.int (-1)) _ _ (PyData.int (-1)) rfl m_END ⟨_,rfl⟩ (λ_=>bT.mpr rfl) ⋯) (bg _)) (@aj _ _ _ _ _ _ _ _ (@jm _ _ _ _ _ _ _ _ (@aQ _ _ _ _ _ _ _ rfl (¬1) (¬4) ↥4) (@cN _ _ _ _ _ _ _ _ rfl rfl (@aE _ _ _ _ _ _ _ _ (@av _ _ _ 5 _ nd rfl ↥3 (by trivial)) (@aE _ _ _ _ _ _ _ _ (@av _ _ _ 6 _ nd rfl ↥3 (by trivial)) (@aE _ _ _ _ _ _ _ _ (@av _ _ _ 7 _ nd rfl ↥3 (by trivial)) (@bU _ _) ∅) ∅) ∅) (aL (aL (aL cK))) ∅ ∅) ∅ ∅ ∅) (@aj _ _ _ _ _ _ _ _ (@dk _ _ _ _ _ (@dY _ _ _ _ _ _ _ _ _ rfl (¬3) ((@aM _ _ _ _ _ _ ((¬5)∘((@aQ _ _ _ _ _ _ _ rfl (¬2) (¬5) ↥4)∘ae)))∘ae) ∅ ∅ ∅ ∅ ∅) ∅) (@ao _ _ _ _ _ (@az _ _ _ _ _ 4 _ _ nd rfl ↥3 (@rE _ _ _ _ _ _ _ _ _ (@kc _ _ _ _ (@aQ _ _ _ _ _ _ _ rfl (¬2) (¬5) ↥4) ↥5) (¬6) (¬7)) ∅ (by trivial)))))) (@ao _ _ _ _ _ (@aO _ _ _ _ _ (@aU _ _ _ _ _ _ _ _ _ (@b_tuple _ _ rfl) ∅ T.b_tuple ((¬3)∘ae) ⋯ ⋯ ∅ ∅)))))))
def jj:FI:=(Cm (ac (af 0) (ac (af 1) am)))
def cZ:FS:=(aN 2 (bR 2 ia (ac (af 2) (ac (Bs (aX (af 4)) (af 3) (bR 1 iI (ac (af 3) am))) am))))
def oG:FS:=(aC (aN 2 (vC (.tuple [.int (1),.int (1)]))) (aC (cx (([3]++([4]++[]))++[2]) jj (a8 (aq (ah 3) (aq (ah 4) aY))) cZ) (bx (af 2))))
def eJ:FM:=gQ 2 3 ([2]++((([3]++([4]++[]))++[2])++[])) oG
theorem nB:aH ["chances","answers","product","chance","truth"] ["chances","answers"] (au eL):=⟨rfl,rfl,rfl,by decide+kernel,rfl,by decide+kernel,by decide+kernel⟩
theorem vf(h:eN K mg "chance_by" eL f fd ["chances","answers"])(T:iw mg)(z_times:Cl P w K mg base "times" kf ["one","other"] 3 2 ia)(z_one_less:Cl P w K mg base "one_less" iM ["chance"] 3 1 iI){g_ONE:Qe}(m_ONE:mg "ONE"=some (.ref g_ONE))(c_ONE:∀F,DA K F (.tuple [.int (1),.int (1)]) (.ref g_ONE)):bu P w K mg base fx 4 f fd ["chances","answers"] (fX K 2 eJ):=by obtain⟨Ox,Oy,Nt,NV⟩:=z_times;obtain⟨O0,O1,Np,Ol⟩:=z_one_less;have nd:=nB.nd;exact h.fn nB rfl rfl (λcdv A outer s H E hr=>(@aj _ _ _ _ _ _ _ _ (@az _ _ _ _ _ 2 _ _ nd rfl ↥3 (@lM _ _ _ (V.ref g_ONE) _ _ (PyData.tuple [.int (1),.int (1)]) rfl m_ONE rfl c_ONE ⋯) ∅ (by trivial)) (@aj _ _ _ _ _ _ _ _ (@dI _ _ _ _ _ _ _ _ _ _ _ Re rfl (@Gg _ _ _ _ _ _ _ _ _ _ rfl rfl T.b_zip ((¬0)∘((¬1)∘ae)) ∅ ∅) (@cN _ _ _ _ _ _ _ _ rfl rfl (@aE _ _ _ _ _ _ _ _ (@av _ _ _ 3 _ nd rfl ↥3 (by trivial)) (@aE _ _ _ _ _ _ _ _ (@av _ _ _ 4 _ nd rfl ↥3 (by trivial)) (@bU _ _) ∅) ∅) (aL (aL cK)) ∅ ∅) (@ao _ _ _ _ _ (@az _ _ _ _ _ 2 _ _ nd rfl ↥3 (@aV _ _ _ _ _ _ _ _ _ _ _ _ _ _ _ Nt NV (hr.mono ⋯) ((¬2)∘((@rE _ _ _ _ _ _ _ _ _ (@kc _ _ _ _ (¬4) ↥5) (¬3) (@aV _ _ _ _ _ _ _ _ _ _ _ _ _ _ _ Np Ol (hr.mono ⋯) ((¬3)∘ae) ∅ ⋯ ∅ ∅))∘ae)) ∅ ⋯ ∅ ∅) ∅ (by trivial))) ↥5) (@ao _ _ _ _ _ (@aO _ _ _ _ _ (¬2))))))
def gY:FI:=(iE (af 1))
def ef:FI:=(iE (bo (ac (vC (.bool true)) (ac (vC (.bool false)) am))))
def cV:FE:=(ax bF (af 0) (bo (ac (af 1) am)))
def gZ:FI:=(cq (ac (af 0) am))
def cS:FS:=(aN 1 (oC [] 2 gY (ah 0) a_ ef (ah 1) a_ cV))
def lZ:FS:=(aC (aN 1 (cQ (ac (bo am) am))) (aC (cx ([2]++[1]) gZ (ah 2) cS) (bx (af 1))))
def c_:FM:=gQ 1 2 ([1]++(([2]++[1])++[])) lZ
theorem lh:aH ["many","rows","at"] ["many"] (au df):=⟨rfl,rfl,rfl,by decide+kernel,rfl,by decide+kernel,by decide+kernel⟩
theorem rg(h:eN K mg "all_answers" df f fd ["many"])(T:iw mg):bu P w K mg base fx 1 f fd ["many"] (fX K 1 c_):=by have nd:=lh.nd;exact h.fn lh rfl rfl (λcdv A outer s H E hr=>(@aj _ _ _ _ _ _ _ _ (@az _ _ _ _ _ 1 _ _ nd rfl ↥3 (@bH _ _ _ _ _ ((@aM _ _ _ _ _ _ ae)∘ae)) ∅ (by trivial)) (@aj _ _ _ _ _ _ _ _ (@dI _ _ _ _ _ _ _ _ _ _ _ Re rfl (@bY _ _ _ _ _ _ _ rfl T.b_range ((¬0)∘ae) ∅) (@av _ _ _ 2 _ nd rfl ↥3 (by trivial)) (@ao _ _ _ _ _ (@xh _ _ _ (1) _ _ _ _ _ _ _ _ _ _ _ _ _ _ _ _ _ _ _ _ [] ["row","truth"] rfl (@dH _ _ _ _ _ rfl (¬1)) (λC s0 H0 fp=>(@av _ _ _ 0 _ (show QO (["row","truth"]:List Str) by decide+kernel) rfl ↥3 (by trivial))) (λC s0 H0 fp=>(@cO _ _)) (λC s0 H0 fp=>(@dH _ _ _ _ _ rfl (@aM _ _ _ _ _ _ ((@km _ _ _ _ _)∘((@km _ _ _ _ _)∘ae))))) (λC s0 H0 fp=>(@av _ _ _ 1 _ (show QO (["row","truth"]:List Str) by decide+kernel) rfl ↥3 (by trivial))) (λC s0 H0 fp=>(@cO _ _)) (λC s0 H0 fp=>(@bP _ _ _ _ _ _ _ rfl (¬0) (@aM _ _ _ _ _ _ ((¬1)∘ae)))) rfl ∅ nd rfl rfl ∅ (by intro _ _ _ _ _;rfl) ↥5)) ↥5) (@ao _ _ _ _ _ (@aO _ _ _ _ _ (¬1))))))
def dA:FI:=(cq (ac (aF (g1 ce) (ac (ax ba (af 0) (vC (.int 1))) am)) am))
def bN:FE:=(ax tJ (af 0) (af 1))
def dC:FI:=(tM (ac (af 1) (ac (af 2) am)))
def iy:FS:=(aC (aN 3 (lQ 3 dC (a8 (aq (ah 0) (aq (ah 1) aY))) 0 (ah 2) 2 1)) (bx (aF (g1 bf) (ac (bj [(3,"said")] 1 dA (ah 1) a_ bN) am))))
def bG:FM:=gQ 3 1 ([3]++[]) iy
theorem hR:aH ["web","groups","answers","said"] ["web","groups","answers"] (au bJ):=⟨rfl,rfl,rfl,by decide+kernel,rfl,by decide+kernel,by decide+kernel⟩
theorem lT(h:eN K mg "together_answers" bJ f fd ["web","groups","answers"])(T:iw mg):bu P w K mg base fx 1 f fd ["web","groups","answers"] (fX K 3 bG):=by have nd:=hR.nd;exact h.fn hR rfl rfl (λcdv A outer s H E hr=>(@aj _ _ _ _ _ _ _ _ (@az _ _ _ _ _ 3 _ _ nd rfl (Or.inr rfl) (@A9 _ _ _ _ _ _ _ _ _ _ _ _ _ _ _ _ _ _ 0 2 1 ["group","truth","tie"] rfl rfl (@rG _ _ _ _ _ _ _ _ _ _ rfl rfl T.b_zip ((¬1)∘((¬2)∘ae)) ∅ ∅) (λC s0 H0 fp=>(@cN _ _ _ _ _ _ _ _ rfl rfl (@aE _ _ _ _ _ _ _ _ (@av _ _ _ 0 _ (show QO (["group","truth","tie"]:List Str) by decide+kernel) rfl ↥3 (by trivial)) (@aE _ _ _ _ _ _ _ _ (@av _ _ _ 1 _ (show QO (["group","truth","tie"]:List Str) by decide+kernel) rfl ↥3 (by trivial)) (@bU _ _) ∅) ∅) (aL (aL cK)) ∅ ∅)) (λC s0 H0 fp=>(@hJ _ 0 _ _ ∅ (by first|exact Or.inl rfl|exact Or.inr ↥3|exact Or.inr (Or.inr rfl)) ⋯ ⋯)) (λC s0 H0 fp=>(@av _ _ _ 2 _ (show QO (["group","truth","tie"]:List Str) by decide+kernel) rfl ↥3 (by trivial))) (λC s0 H0 fp=>(@hJ _ 2 _ _ ∅ (by first|exact Or.inl rfl|exact Or.inr ↥3|exact Or.inr (Or.inr rfl)) ⋯ ⋯)) (λC s0 H0 fp=>(@hJ _ 1 _ _ ∅ (by first|exact Or.inl rfl|exact Or.inr ↥3|exact Or.inr (Or.inr rfl)) ⋯ ⋯)) rfl ∅ (by intro _ _ _ _ _;rfl) ↥5) ∅ (by trivial)) (@ao _ _ _ _ _ (@aO _ _ _ _ _ (@aU _ _ _ _ _ _ _ _ _ (@b_tuple _ _ rfl) ∅ T.b_tuple ((@cy _ _ _ _ _ _ _ _ _ _ _ _ _ [(3,"said")] ["tie"] rfl rfl (@bY _ _ _ _ _ _ _ rfl T.b_range ((@aU _ _ _ _ _ _ _ _ _ (@b_len _ _ rfl) ∅ T.b_len ((@aQ _ _ _ _ _ _ _ rfl (¬0) ag ↥4)∘ae) ⋯ ⋯ ∅ ∅)∘ae) ∅) (λC s0 H0 fp=>(@av _ _ _ 1 _ (show QO (["said","tie"]:List Str) by decide+kernel) rfl ↥3 (by trivial))) (λC s0 H0 fp=>(@cO _ _)) (λC s0 H0 fp=>(@IV _ _ _ _ _ _ _ _ hr (¬0) (¬1) ↥4)) rfl ∅ ↥5)∘ae) ⋯ ⋯ ∅ ∅)))))
def el:FI:=(iE (bR 1 c_ (ac (aF (g1 ce) (ac (af 1) am)) am)))
def bZ:FS:=(aC (aN 6 (bR 3 eu (ac (af 0) (ac (af 2) (ac (bR 3 bG (ac (af 0) (ac (af 1) (ac (af 5) am)))) am))))) (aN 4 (bR 2 nY (ac (af 4) (ac (bR 2 ia (ac (bR 2 eJ (ac (af 3) (ac (af 5) am))) (ac (bo (ac (bR 2 cM (ac (af 0) (ac (af 6) am))) (ac (vC (.int 1)) am))) am))) am)))))
def iF:FI:=(iE (af 1))
def cJ:FE:=(ax ba (ax ba (ax ba (af 0) (vC (.int 1))) (ax ba (af 1) (vC (.int 0)))) (vC (.int 2)))
def jx:FS:=(aC (dm (bR 2 dG (ac (aF (g1 ce) (ac (af 1) am)) (ac (vC (.int (8))) am)))) (aC (aN 3 (bj [(0,"web")] 1 iF (ah 1) a_ cJ)) (aC (aN 4 (vC (.tuple [.int (0),.int (1)]))) (aC (cx ([5]++([6]++[4])) el (ah 5) bZ) (bx (af 4))))))
def a9:FM:=gQ 3 4 ([]++([3]++([4]++(([5]++([6]++[4]))++[])))) jx
theorem dq:aH ["web","groups","tree","chances","worth","answers","run"] ["web","groups","tree"] (au bK):=⟨rfl,rfl,rfl,by decide+kernel,rfl,by decide+kernel,by decide+kernel⟩
theorem m8(h:eN K mg "together_worth" bK f fd ["web","groups","tree"])(T:iw mg)(z_refuse_above:Cl P w K mg base "refuse_above" cg ["many","most"] 1 2 dG)(z_all_answers:Cl P w K mg base "all_answers" df ["many"] 1 1 c_)(z_run_tree:Cl P w K mg base "run_tree" fW ["web","tree","answers"] 1 3 eu)(z_plus:Cl P w K mg base "plus" oy ["one","other"] 3 2 nY)(z_together_answers:Cl P w K mg base "together_answers" bJ ["web","groups","answers"] 1 3 bG)(z_times:Cl P w K mg base "times" kf ["one","other"] 3 2 ia)(z_chance_by:Cl P w K mg base "chance_by" eL ["chances","answers"] 4 2 eJ)(z_worth_kept:Cl P w K mg base "worth_kept" dQ ["web","run"] 2 2 cM){g_ZERO:Qe}(m_ZERO:mg "ZERO"=some (.ref g_ZERO))(c_ZERO:∀F,DA K F (.tuple [.int (0),.int (1)]) (.ref g_ZERO)){t_MOST_GROUPS:Tok}(m_MOST_GROUPS:mg "MOST_GROUPS"=some (.int (8) t_MOST_GROUPS)):bu P w K mg base fx 5 f fd ["web","groups","tree"] (fX K 3 a9):=by obtain⟨Ng,Nh,MY,NM⟩:=z_refuse_above;obtain⟨NW,NX,M5,Nx⟩:=z_all_answers;obtain⟨Om,On,Ni,NO⟩:=z_run_tree;obtain⟨Pa,Pb,N8,OT⟩:=z_plus;obtain⟨Ny,Nz,MZ,Nc⟩:=z_together_answers;obtain⟨Ox,Oy,Nt,NV⟩:=z_times;obtain⟨Oc,Od,Na,NI⟩:=z_chance_by;obtain⟨N9,N_,M6,NG⟩:=z_worth_kept;have nd:=dq.nd;exact h.fn dq rfl rfl (λcdv A outer s H E hr=>(@aj _ _ _ _ _ _ _ _ (@dk _ _ _ _ _ (@aV _ _ _ _ _ _ _ _ _ _ _ _ _ _ _ MY NM (hr.mono ⋯) ((@aU _ _ _ _ _ _ _ _ _ (@b_len _ _ rfl) ∅ T.b_len ((¬1)∘ae) ⋯ ⋯ ∅ ∅)∘((@lM _ _ _ (V.int (8)) _ _ (PyData.int (8)) rfl m_MOST_GROUPS ⟨_,rfl⟩ (λ_=>bT.mpr rfl) ⋯)∘ae)) ∅ ⋯ ∅ ∅) ∅) (@aj _ _ _ _ _ _ _ _ (@mx _ _ _ (3) _ _ _ _ _ _ _ _ _ _ _ _ _ [(0,"web")] ["group"] rfl rfl (@dH _ _ _ _ _ rfl (¬1)) (λC s0 H0 fp=>(@av _ _ _ 1 _ (show QO (["web","group"]:List Str) by decide+kernel) rfl ↥3 (by trivial))) (λC s0 H0 fp=>(@cO _ _)) (λC s0 H0 fp=>(@aQ _ _ _ _ _ _ _ rfl (@aQ _ _ _ _ _ _ _ rfl (@aQ _ _ _ _ _ _ _ rfl (¬0) ag ↥4) (@aQ _ _ _ _ _ _ _ rfl (¬1) ag ↥4) ↥4) ag ↥4)) rfl ∅ nd rfl rfl ∅ ↥5) (@aj _ _ _ _ _ _ _ _ (@az _ _ _ _ _ 4 _ _ nd rfl ↥3 (@lM _ _ _ (V.ref g_ZERO) _ _ (PyData.tuple [.int (0),.int (1)]) rfl m_ZERO rfl c_ZERO ⋯) ∅ (by trivial)) (@aj _ _ _ _ _ _ _ _ (@dI _ _ _ _ _ _ _ _ _ _ _ Re rfl (@dH _ _ _ _ _ rfl (@aV _ _ _ _ _ _ _ _ _ _ _ _ _ _ _ M5 Nx (hr.mono ⋯) ((@aU _ _ _ _ _ _ _ _ _ (@b_len _ _ rfl) ∅ T.b_len ((¬1)∘ae) ⋯ ⋯ ∅ ∅)∘ae) ∅ ⋯ ∅ ∅)) (@av _ _ _ 5 _ nd rfl ↥3 (by trivial)) (@aj _ _ _ _ _ _ _ _ (@az _ _ _ _ _ 6 _ _ nd rfl ↥3 (@aV _ _ _ _ _ _ _ _ _ _ _ _ _ _ _ Ni NO (hr.mono ⋯) ((¬0)∘((¬2)∘((@aV _ _ _ _ _ _ _ _ _ _ _ _ _ _ _ MZ Nc (hr.mono ⋯) ((¬0)∘((¬1)∘((¬5)∘ae))) ∅ ⋯ ∅ ∅)∘ae))) ∅ ⋯ ∅ ∅) ∅ (by trivial)) (@ao _ _ _ _ _ (@az _ _ _ _ _ 4 _ _ nd rfl ↥3 (@aV _ _ _ _ _ _ _ _ _ _ _ _ _ _ _ N8 OT (hr.mono ⋯) ((¬4)∘((@aV _ _ _ _ _ _ _ _ _ _ _ _ _ _ _ Nt NV (hr.mono ⋯) ((@aV _ _ _ _ _ _ _ _ _ _ _ _ _ _ _ Na NI (hr.mono ⋯) ((¬3)∘((¬5)∘ae)) ∅ ⋯ ∅ ∅)∘((@aM _ _ _ _ _ _ ((@aV _ _ _ _ _ _ _ _ _ _ _ _ _ _ _ M6 NG (hr.mono ⋯) ((¬0)∘((¬6)∘ae)) ∅ ⋯ ∅ ∅)∘(ag∘ae)))∘ae)) ∅ ⋯ ∅ ∅)∘ae)) ∅ ⋯ ∅ ∅) ∅ (by trivial)))) ↥5) (@ao _ _ _ _ _ (@aO _ _ _ _ _ (¬4))))))))
def fL:En->Prop:=λe=>∃(ds:List Qg) (e':En),(ac (aF (g1 ce) (ac (af 1) am)) (ac (vC (.int (8))) am)) e=some (ds.map Rv.d,e')/\ds.length=2/\iC ((ds.map Sv.d).map some++Qu 0 none)
theorem ms(h:eN K mg "together_worth" bK f fd ["web","groups","tree"])(T:iw mg)(z_all_answers:Cl P w K mg base "all_answers" df ["many"] 1 1 c_)(z_run_tree:Cl P w K mg base "run_tree" fW ["web","tree","answers"] 1 3 eu)(z_plus:Cl P w K mg base "plus" oy ["one","other"] 3 2 nY)(z_together_answers:Cl P w K mg base "together_answers" bJ ["web","groups","answers"] 1 3 bG)(z_times:Cl P w K mg base "times" kf ["one","other"] 3 2 ia)(z_chance_by:Cl P w K mg base "chance_by" eL ["chances","answers"] 4 2 eJ)(z_worth_kept:Cl P w K mg base "worth_kept" dQ ["web","run"] 2 2 cM){g_ZERO:Qe}(m_ZERO:mg "ZERO"=some (.ref g_ZERO))(c_ZERO:∀F,DA K F (.tuple [.int (0),.int (1)]) (.ref g_ZERO)){t_MOST_GROUPS:Tok}(m_MOST_GROUPS:mg "MOST_GROUPS"=some (.int (8) t_MOST_GROUPS)){C:Qe}{Ng:Qe}{Nh:QJ}(MY:eN K mg "refuse_above" cg Ng Nh ["many","most"])(R_refuse_above:bu P w K mg base (p9 P w C) 1 Ng Nh ["many","most"] (Et K 2 0 iC)):bu P w K mg base (p9 P w C) 5 f fd ["web","groups","tree"] (Et K 3 4 fL):=by have nd:=dq.nd;obtain⟨NW,NX,M5,Nx⟩:=z_all_answers;obtain⟨Om,On,Ni,NO⟩:=z_run_tree;obtain⟨Pa,Pb,N8,OT⟩:=z_plus;obtain⟨Ny,Nz,MZ,Nc⟩:=z_together_answers;obtain⟨Ox,Oy,Nt,NV⟩:=z_times;obtain⟨Oc,Od,Na,NI⟩:=z_chance_by;obtain⟨N9,N_,M6,NG⟩:=z_worth_kept;exact h.fnR dq rfl rfl (λcdv A outer s H E hr=>(Jh (Gu MY R_refuse_above (hr.mono ⋯) rfl ((@aU _ _ _ _ _ _ _ _ _ (@b_len _ _ rfl) ∅ T.b_len ((¬1)∘ae) ⋯ ⋯ ∅ ∅)∘((@lM _ _ _ (V.int (8)) _ _ (PyData.int (8)) rfl m_MOST_GROUPS ⟨_,rfl⟩ (λ_=>bT.mpr rfl) ⋯)∘ae)))))
def zc:FS:=(aC (aN 2 (ax be (ax bF (ax bF (ax dz (ax be (af 0) (vC (.int 2147483647))) (vC (.int 48271))) (ax dz (ax dz (vC (.int 7919)) (af 1)) (af 1))) (vC (.int 104729))) (vC (.int 2147483647)))) (bx (ax be (ax dz (af 2) (af 2)) (vC (.int 2147483629)))))
def lI:FM:=gQ 2 1 ([2]++[]) zc
theorem xC:aH ["_law_cell","_law_k","_law_number"] ["_law_cell","_law_k"] (au nu):=⟨rfl,rfl,rfl,by decide+kernel,rfl,by decide+kernel,by decide+kernel⟩
theorem CT(h:eN K mg "_law_mixed" nu f fd ["_law_cell","_law_k"])(T:iw mg):bu P w K mg base fx 1 f fd ["_law_cell","_law_k"] (fX K 2 lI):=by have nd:=xC.nd;exact h.fn xC rfl rfl (λcdv A outer s H E hr=>(@aj _ _ _ _ _ _ _ _ (@az _ _ _ _ _ 2 _ _ nd rfl ↥3 (@bi _ _ _ _ _ _ _ (@bP _ _ _ _ _ _ _ rfl (@bP _ _ _ _ _ _ _ rfl (@gJ _ _ _ _ _ _ _ rfl (@bi _ _ _ _ _ _ _ (¬0) ag) ag) (@gJ _ _ _ _ _ _ _ rfl (@gJ _ _ _ _ _ _ _ rfl ag (¬1)) (¬1))) ag) ag) ∅ (by trivial)) (@ao _ _ _ _ _ (@aO _ _ _ _ _ (@bi _ _ _ _ _ _ _ (@gJ _ _ _ _ _ _ _ rfl (¬2) (¬2)) ag)))))
def ig:FT:=(lV (aX (ax EW (af 3) (ax yk (vC (.int 10)) (vC (.int 18))))) (aX (ax Cd (aF (g1 ce) (ac (af 1) am)) (vC (.int 900)))))
def ly:FS:=(aC (dm (cG bD (af 1) (ac (ax be (af 3) (vC (.int 2147483629))) am))) (aN 3 (ax dj (af 3) (vC (.int 2147483629)))))
def lD:FI:=(cq (ac (vC (.int 12)) am))
def jt:FS:=(dm (cG bD (af 1) (ac (bR 2 lI (ac (bR 2 lI (ac (af 3) (ac (ax bF (ax dz (vC (.int 3)) (af 4)) (vC (.int 1))) am))) (ac (ax bF (ax bF (af 4) (af 2)) (vC (.int 2))) am))) am)))
def nV:FI:=(cq (ac (aF (g2 Ce) (ac (aF (g1 ce) (ac (af 0) am)) (ac (vC (.int 63)) am))) am))
def ie:FS:=(aC (aN 3 (aF (g1 yj) (ac (ax ba (af 0) (af 2)) am))) (aC (ky (aX (ax Cd (af 3) (ax yk (vC (.int 10)) (vC (.int 18))))) (cx ([4]++[]) lD (ah 4) jt) eM) (aC (fV (2^4200) ig ly) (ky (aX (ax EW (af 3) (vC (.int 2147483629)))) (dm (cG bD (af 1) (ac (ax be (af 3) (vC (.int 2147483629))) am))) eM))))
def y_:FS:=(aC (aN 1 (cQ am)) (aC (cx ([2]++([3]++((([4]++[])++[])++(([]++[3])++([]++[]))))) nV (ah 2) ie) (bx (af 1))))
def mY:FM:=gQ 1 4 ([1]++(([2]++([3]++((([4]++[])++[])++(([]++[3])++([]++[])))))++[])) y_
theorem xA:aH ["_law_script","_law_drawn","_law_k","_law_cell","_law_j"] ["_law_script"] (au nj):=⟨rfl,rfl,rfl,by decide+kernel,rfl,by decide+kernel,by decide+kernel⟩
theorem CQ(h:eN K mg "_law_draws" nj f fd ["_law_script"])(T:iw mg)(zLmixed:Cl P w K mg base "_law_mixed" nu ["_law_cell","_law_k"] 1 2 lI):bu P w K mg base fx 2 f fd ["_law_script"] (fX K 1 mY):=by obtain⟨PB,PC,NJ,Oz⟩:=zLmixed;have nd:=xA.nd;exact h.fn xA rfl rfl (λcdv A outer s H E hr=>(@aj _ _ _ _ _ _ _ _ (@az _ _ _ _ _ 1 _ _ nd rfl ↥3 (@bH _ _ _ _ _ ae) ∅ (by trivial)) (@aj _ _ _ _ _ _ _ _ (@dI _ _ _ _ _ _ _ _ _ _ _ Re rfl (@bY _ _ _ _ _ _ _ rfl T.b_range ((@aU _ _ _ _ _ _ _ _ _ (@b_min _ _ rfl) ∅ T.b_min ((@aU _ _ _ _ _ _ _ _ _ (@b_len _ _ rfl) ∅ T.b_len ((¬0)∘ae) ⋯ ⋯ ∅ ∅)∘(ag∘ae)) ⋯ ⋯ ∅ ∅)∘ae) ∅) (@av _ _ _ 2 _ nd rfl ↥3 (by trivial)) (@aj _ _ _ _ _ _ _ _ (@az _ _ _ _ _ 3 _ _ nd rfl ↥3 (@aU _ _ _ _ _ _ _ _ _ (@b_abs _ _) ∅ T.b_abs ((@aQ _ _ _ _ _ _ _ rfl (¬0) (¬2) ↥4)∘ae) ⋯ ⋯ ∅ ∅) ∅ (by trivial)) (@aj _ _ _ _ _ _ _ _ (@eK _ _ _ _ _ _ _ _ _ _ _ (@bh _ _ _ _ _ _ _ _ _ (@yd _ _) (¬3) (@Hj _ _ _ _ _ _ _ ag ag) (bg _)) (@ao _ _ _ _ _ (@dI _ _ _ _ _ _ _ _ _ _ _ Re rfl (@bY _ _ _ _ _ _ _ rfl T.b_range (ag∘ae) ∅) (@av _ _ _ 4 _ nd rfl ↥3 (by trivial)) (@ao _ _ _ _ _ (@dk _ _ _ _ _ (@dY _ _ _ _ _ _ _ _ _ rfl (¬1) ((@aV _ _ _ _ _ _ _ _ _ _ _ _ _ _ _ NJ Oz (hr.mono ⋯) ((@aV _ _ _ _ _ _ _ _ _ _ _ _ _ _ _ NJ Oz (hr.mono ⋯) ((¬3)∘((@bP _ _ _ _ _ _ _ rfl (@gJ _ _ _ _ _ _ _ rfl ag (¬4)) ag)∘ae)) ∅ ⋯ ∅ ∅)∘((@bP _ _ _ _ _ _ _ rfl (@bP _ _ _ _ _ _ _ rfl (¬4) (¬2)) ag)∘ae)) ∅ ⋯ ∅ ∅)∘ae) ∅ ∅ ∅ ∅ ∅) ∅)) ↥5)) (@bV _ _)) (@aj _ _ _ _ _ _ _ _ (@jG _ _ _ _ _ _ _ _ _ Re (@yN _ _ _ _ (@rH _ _ _ _ _ _ _ _ (@bh _ _ _ _ _ _ _ _ _ (@Av _ _) (¬3) (@Hj _ _ _ _ _ _ _ ag ag) (bg _)) (@pX _ _ _ _ _ (@bh _ _ _ _ _ _ _ _ _ (@yd _ _) (@aU _ _ _ _ _ _ _ _ _ (@b_len _ _ rfl) ∅ T.b_len ((¬1)∘ae) ⋯ ⋯ ∅ ∅) ag (bg _))))) (@aj _ _ _ _ _ _ _ _ (@dk _ _ _ _ _ (@dY _ _ _ _ _ _ _ _ _ rfl (¬1) ((@bi _ _ _ _ _ _ _ (¬3) ag)∘ae) ∅ ∅ ∅ ∅ ∅) ∅) (@ao _ _ _ _ _ (@az _ _ _ _ _ 3 _ _ nd rfl ↥3 (@fP _ _ _ _ _ _ _ (¬3) ag) ∅ (by trivial))))) (@ao _ _ _ _ _ (@eK _ _ _ _ _ _ _ _ _ _ _ (@bh _ _ _ _ _ _ _ _ _ (@Av _ _) (¬3) ag (bg _)) (@ao _ _ _ _ _ (@dk _ _ _ _ _ (@dY _ _ _ _ _ _ _ _ _ rfl (¬1) ((@bi _ _ _ _ _ _ _ (¬3) ag)∘ae) ∅ ∅ ∅ ∅ ∅) ∅)) (@bV _ _)))))) ↥5) (@ao _ _ _ _ _ (@aO _ _ _ _ _ (¬1))))))
def x_:FS:=(aC (ky (aX (ax (eh false) (af 0) (cQ am))) (bx (vC (.int 0))) eM) (bx (cG fM (af 0) (ac (vC (.int 0)) am))))
def br:FM:=gQ 1 0 (([]++[])++[]) x_
theorem zU:aH ["_law_drawn"] ["_law_drawn"] (au kd):=⟨rfl,rfl,rfl,by decide+kernel,rfl,by decide+kernel,by decide+kernel⟩
theorem Fu(h:eN K mg "_law_next" kd f fd ["_law_drawn"])(T:iw mg):bu P w K mg base fx 1 f fd ["_law_drawn"] (fX K 1 br):=by have nd:=zU.nd;exact h.fn zU rfl rfl (λcdv A outer s H E hr=>(@aj _ _ _ _ _ _ _ _ (@eK _ _ _ _ _ _ _ _ _ _ _ (@bh _ _ _ _ _ _ _ _ _ (@ya _ _ _ rfl hr) (¬0) (@bH _ _ _ _ _ ae) (bg _)) (@ao _ _ _ _ _ (@aO _ _ _ _ _ ag)) (@bV _ _)) (@ao _ _ _ _ _ (@aO _ _ _ _ _ (@zM _ _ _ _ _ _ _ _ _ rfl (¬0) (ag∘ae) ∅ ∅ ∅ ∅ ∅)))))
def mI:FT:=(aX (ax (eh true) (af 1) (vC (.int 0))))
def pQ:FS:=(pM 0 1 (ac (af 1) (ac (ax be (af 0) (af 1)) am)))
def G4:FS:=(aC (fV (2^4200) mI pQ) (bx (aF (g1 yj) (ac (af 0) am))))
def wM:FM:=gQ 2 0 ([0,1]++[]) G4
theorem DP:aH ["_law_one","_law_other"] ["_law_one","_law_other"] (au xr):=⟨rfl,rfl,rfl,by decide+kernel,rfl,by decide+kernel,by decide+kernel⟩
theorem Ir(h:eN K mg "_law_gcd" xr f fd ["_law_one","_law_other"])(T:iw mg):bu P w K mg base fx 1 f fd ["_law_one","_law_other"] (fX K 2 wM):=by have nd:=DP.nd;exact h.fn DP rfl rfl (λcdv A outer s H E hr=>(@aj _ _ _ _ _ _ _ _ (@jG _ _ _ _ _ _ _ _ _ Re (@bh _ _ _ _ _ _ _ _ _ (@ye _ _ _ rfl hr) (¬1) ag (bg _)) (@ao _ _ _ _ _ (@Dt _ _ _ _ _ 0 1 _ _ _ _ _ _ _ _ _ rfl nd rfl rfl ⋯ rfl rfl ((¬1)∘((@bi _ _ _ _ _ _ _ (¬0) (¬1))∘ae)) ∅ ∅))) (@ao _ _ _ _ _ (@aO _ _ _ _ _ (@aU _ _ _ _ _ _ _ _ _ (@b_abs _ _) ∅ T.b_abs ((¬0)∘ae) ⋯ ⋯ ∅ ∅)))))
def G5:FS:=(aC (aN 2 (bR 2 wM (ac (af 0) (ac (af 1) am)))) (bx (bo (ac (ax dj (af 0) (af 2)) (ac (ax dj (af 1) (af 2)) am)))))
def l8:FM:=gQ 2 1 ([2]++[]) G5
theorem DQ:aH ["_law_top","_law_bottom","_law_common"] ["_law_top","_law_bottom"] (au rL):=⟨rfl,rfl,rfl,by decide+kernel,rfl,by decide+kernel,by decide+kernel⟩
theorem Iu(h:eN K mg "_law_low" rL f fd ["_law_top","_law_bottom"])(T:iw mg)(zLgcd:Cl P w K mg base "_law_gcd" xr ["_law_one","_law_other"] 1 2 wM):bu P w K mg base fx 2 f fd ["_law_top","_law_bottom"] (fX K 2 l8):=by obtain⟨PX,PY,ON,PD⟩:=zLgcd;have nd:=DQ.nd;exact h.fn DQ rfl rfl (λcdv A outer s H E hr=>(@aj _ _ _ _ _ _ _ _ (@az _ _ _ _ _ 2 _ _ nd rfl ↥3 (@aV _ _ _ _ _ _ _ _ _ _ _ _ _ _ _ ON PD (hr.mono ⋯) ((¬0)∘((¬1)∘ae)) ∅ ⋯ ∅ ∅) ∅ (by trivial)) (@ao _ _ _ _ _ (@aO _ _ _ _ _ (@aM _ _ _ _ _ _ ((@fP _ _ _ _ _ _ _ (¬0) (¬2))∘((@fP _ _ _ _ _ _ _ (¬1) (¬2))∘ae)))))))
def BL:FS:=(bx (bR 2 l8 (ac (ax bF (ax dz (ax ba (af 0) (vC (.int 0))) (ax ba (af 1) (vC (.int 1)))) (ax dz (ax ba (af 1) (vC (.int 0))) (ax ba (af 0) (vC (.int 1))))) (ac (ax dz (ax ba (af 0) (vC (.int 1))) (ax ba (af 1) (vC (.int 1)))) am))))
def mj:FM:=gQ 2 0 [] BL
theorem zV:aH ["_law_one","_law_other"] ["_law_one","_law_other"] (au oq):=⟨rfl,rfl,rfl,by decide+kernel,rfl,by decide+kernel,by decide+kernel⟩
theorem Fv(h:eN K mg "_law_plus" oq f fd ["_law_one","_law_other"])(T:iw mg)(zLlow:Cl P w K mg base "_law_low" rL ["_law_top","_law_bottom"] 2 2 l8):bu P w K mg base fx 3 f fd ["_law_one","_law_other"] (fX K 2 mj):=by obtain⟨Pc,Pd,NY,Oo⟩:=zLlow;have nd:=zV.nd;exact h.fn zV rfl rfl (λcdv A outer s H E hr=>(@ao _ _ _ _ _ (@aO _ _ _ _ _ (@aV _ _ _ _ _ _ _ _ _ _ _ _ _ _ _ NY Oo (hr.mono ⋯) ((@bP _ _ _ _ _ _ _ rfl (@gJ _ _ _ _ _ _ _ rfl (@aQ _ _ _ _ _ _ _ rfl (¬0) ag ↥4) (@aQ _ _ _ _ _ _ _ rfl (¬1) ag ↥4)) (@gJ _ _ _ _ _ _ _ rfl (@aQ _ _ _ _ _ _ _ rfl (¬1) ag ↥4) (@aQ _ _ _ _ _ _ _ rfl (¬0) ag ↥4)))∘((@gJ _ _ _ _ _ _ _ rfl (@aQ _ _ _ _ _ _ _ rfl (¬0) ag ↥4) (@aQ _ _ _ _ _ _ _ rfl (¬1) ag ↥4))∘ae)) ∅ ⋯ ∅ ∅))))
def ze:FS:=(bx (bR 2 l8 (ac (ax dz (ax ba (af 0) (vC (.int 0))) (ax ba (af 1) (vC (.int 0)))) (ac (ax dz (ax ba (af 0) (vC (.int 1))) (ax ba (af 1) (vC (.int 1)))) am))))
def f9:FM:=gQ 2 0 [] ze
theorem xD:aH ["_law_one","_law_other"] ["_law_one","_law_other"] (au ke):=⟨rfl,rfl,rfl,by decide+kernel,rfl,by decide+kernel,by decide+kernel⟩
theorem CU(h:eN K mg "_law_times" ke f fd ["_law_one","_law_other"])(T:iw mg)(zLlow:Cl P w K mg base "_law_low" rL ["_law_top","_law_bottom"] 2 2 l8):bu P w K mg base fx 3 f fd ["_law_one","_law_other"] (fX K 2 f9):=by obtain⟨Pc,Pd,NY,Oo⟩:=zLlow;have nd:=xD.nd;exact h.fn xD rfl rfl (λcdv A outer s H E hr=>(@ao _ _ _ _ _ (@aO _ _ _ _ _ (@aV _ _ _ _ _ _ _ _ _ _ _ _ _ _ _ NY Oo (hr.mono ⋯) ((@gJ _ _ _ _ _ _ _ rfl (@aQ _ _ _ _ _ _ _ rfl (¬0) ag ↥4) (@aQ _ _ _ _ _ _ _ rfl (¬1) ag ↥4))∘((@gJ _ _ _ _ _ _ _ rfl (@aQ _ _ _ _ _ _ _ rfl (¬0) ag ↥4) (@aQ _ _ _ _ _ _ _ rfl (¬1) ag ↥4))∘ae)) ∅ ⋯ ∅ ∅))))
def BM:FS:=(bx (bo (ac (ax kW (ax ba (af 0) (vC (.int 1))) (ax ba (af 0) (vC (.int 0)))) (ac (ax ba (af 0) (vC (.int 1))) am))))
def ml:FM:=gQ 1 0 [] BM
theorem zW:aH ["_law_one"] ["_law_one"] (au ou):=⟨rfl,rfl,rfl,by decide+kernel,rfl,by decide+kernel,by decide+kernel⟩
theorem Fw(h:eN K mg "_law_rest" ou f fd ["_law_one"])(T:iw mg):bu P w K mg base fx 1 f fd ["_law_one"] (fX K 1 ml):=by have nd:=zW.nd;exact h.fn zW rfl rfl (λcdv A outer s H E hr=>(@ao _ _ _ _ _ (@aO _ _ _ _ _ (@aM _ _ _ _ _ _ ((@xl _ _ _ _ _ _ _ (@aQ _ _ _ _ _ _ _ rfl (¬0) ag ↥4) (@aQ _ _ _ _ _ _ _ rfl (¬0) ag ↥4))∘((@aQ _ _ _ _ _ _ _ rfl (¬0) ag ↥4)∘ae))))))
def BN:FS:=(bx (ax (eh false) (aF (g1 oX) (ac (af 0) am)) (aF (g1 oX) (ac (af 1) am))))
def j':FM:=gQ 2 0 [] BN
theorem zX:aH ["_law_found","_law_due"] ["_law_found","_law_due"] (au rM):=⟨rfl,rfl,rfl,by decide+kernel,rfl,by decide+kernel,by decide+kernel⟩
theorem Fx(h:eN K mg "_law_same" rM f fd ["_law_found","_law_due"])(T:iw mg):bu P w K mg base fx 1 f fd ["_law_found","_law_due"] (fX K 2 j'):=by have nd:=zX.nd;exact h.fn zX rfl rfl (λcdv A outer s H E hr=>(@ao _ _ _ _ _ (@aO _ _ _ _ _ (@Do _ _ _ _ _ _ _ _ _ (@ya _ _ _ rfl hr) (@aU _ _ _ _ _ _ _ _ _ (@b_repr _ _ _ rfl hr) ∅ T.b_repr ((¬0)∘ae) ⋯ ⋯ ∅ ∅) (@aU _ _ _ _ _ _ _ _ _ (@b_repr _ _ _ rfl hr) ∅ T.b_repr ((¬1)∘ae) ⋯ ⋯ ∅ ∅) (bg _)))))
def kD:FS:=(aC (ky (aX (ax (eh false) (af 1) (vC (.int 0)))) (bx (ax ba (cQ (ac (bo (ac (vC (.int 1)) (ac (vC (.int 2)) am))) (ac (bo (ac (vC (.int 1)) (ac (vC (.int 3)) am))) (ac (bo (ac (vC (.int 2)) (ac (vC (.int 3)) am))) (ac (bo (ac (vC (.int 1)) (ac (vC (.int 1)) am))) (ac (bo (ac (vC (.int 0)) (ac (vC (.int 1)) am))) (ac (bo (ac (vC (.int 3)) (ac (vC (.int 4)) am))) am))))))) (ax be (af 0) (vC (.int 6))))) eM) (aC (ky (aX (ax (eh false) (af 1) (vC (.int 1)))) (aC (aN 2 (ax bF (vC (.int 2)) (ax be (af 0) (vC (.int 9))))) (bx (bR 2 l8 (ac (ax bF (vC (.int 1)) (ax be (ax dj (af 0) (vC (.int 9))) (ax kW (af 2) (vC (.int 1))))) (ac (af 2) am))))) eM) (aC (ky (aX (ax (eh false) (af 1) (vC (.int 2)))) (aC (aN 2 (ax bF (vC (.int 1)) (ax be (af 0) (vC (.int 100))))) (bx (bR 2 l8 (ac (ax be (ax dj (af 0) (vC (.int 100))) (ax bF (af 2) (vC (.int 1)))) (ac (af 2) am))))) eM) (bx (bo (ac (vC (.int 1)) (ac (vC (.int 1)) am)))))))
def dW:FM:=gQ 2 1 (([]++[])++((([2]++[])++[])++((([2]++[])++[])++[]))) kD
theorem tZ:aH ["_law_number","_law_kind","_law_bottom"] ["_law_number","_law_kind"] (au jK):=⟨rfl,rfl,rfl,by decide+kernel,rfl,by decide+kernel,by decide+kernel⟩
theorem A4(h:eN K mg "_law_chance" jK f fd ["_law_number","_law_kind"])(T:iw mg)(zLlow:Cl P w K mg base "_law_low" rL ["_law_top","_law_bottom"] 2 2 l8):bu P w K mg base fx 3 f fd ["_law_number","_law_kind"] (fX K 2 dW):=by obtain⟨Pc,Pd,NY,Oo⟩:=zLlow;have nd:=tZ.nd;exact h.fn tZ rfl rfl (λcdv A outer s H E hr=>(@aj _ _ _ _ _ _ _ _ (@eK _ _ _ _ _ _ _ _ _ _ _ (@bh _ _ _ _ _ _ _ _ _ (@ya _ _ _ rfl hr) (¬1) ag (bg _)) (@ao _ _ _ _ _ (@aO _ _ _ _ _ (@aQ _ _ _ _ _ _ _ rfl (@bH _ _ _ _ _ ((@aM _ _ _ _ _ _ (ag∘(ag∘ae)))∘((@aM _ _ _ _ _ _ (ag∘(ag∘ae)))∘((@aM _ _ _ _ _ _ (ag∘(ag∘ae)))∘((@aM _ _ _ _ _ _ (ag∘(ag∘ae)))∘((@aM _ _ _ _ _ _ (ag∘(ag∘ae)))∘((@aM _ _ _ _ _ _ (ag∘(ag∘ae)))∘ae))))))) (@bi _ _ _ _ _ _ _ (¬0) ag) ↥4))) (@bV _ _)) (@aj _ _ _ _ _ _ _ _ (@eK _ _ _ _ _ _ _ _ _ _ _ (@bh _ _ _ _ _ _ _ _ _ (@ya _ _ _ rfl hr) (¬1) ag (bg _)) (@aj _ _ _ _ _ _ _ _ (@az _ _ _ _ _ 2 _ _ nd rfl ↥3 (@bP _ _ _ _ _ _ _ rfl ag (@bi _ _ _ _ _ _ _ (¬0) ag)) ∅ (by trivial)) (@ao _ _ _ _ _ (@aO _ _ _ _ _ (@aV _ _ _ _ _ _ _ _ _ _ _ _ _ _ _ NY Oo (hr.mono ⋯) ((@bP _ _ _ _ _ _ _ rfl ag (@bi _ _ _ _ _ _ _ (@fP _ _ _ _ _ _ _ (¬0) ag) (@xl _ _ _ _ _ _ _ (¬2) ag)))∘((¬2)∘ae)) ∅ ⋯ ∅ ∅)))) (@bV _ _)) (@aj _ _ _ _ _ _ _ _ (@eK _ _ _ _ _ _ _ _ _ _ _ (@bh _ _ _ _ _ _ _ _ _ (@ya _ _ _ rfl hr) (¬1) ag (bg _)) (@aj _ _ _ _ _ _ _ _ (@az _ _ _ _ _ 2 _ _ nd rfl ↥3 (@bP _ _ _ _ _ _ _ rfl ag (@bi _ _ _ _ _ _ _ (¬0) ag)) ∅ (by trivial)) (@ao _ _ _ _ _ (@aO _ _ _ _ _ (@aV _ _ _ _ _ _ _ _ _ _ _ _ _ _ _ NY Oo (hr.mono ⋯) ((@bi _ _ _ _ _ _ _ (@fP _ _ _ _ _ _ _ (¬0) ag) (@bP _ _ _ _ _ _ _ rfl (¬2) ag))∘((¬2)∘ae)) ∅ ⋯ ∅ ∅)))) (@bV _ _)) (@ao _ _ _ _ _ (@aO _ _ _ _ _ (@aM _ _ _ _ _ _ (ag∘(ag∘ae)))))))))
def zg:FS:=(bx (ax ba (cQ (ac (ax be (af 0) (vC (.int 7))) (ac (ax bF (vC (.int 5)) (ax be (af 0) (vC (.int 2)))) (ac (ax be (af 0) (vC (.int 1001))) (ac (ax kW (vC (.int 1000)) (ax be (af 0) (vC (.int 3)))) am))))) (ax be (af 1) (vC (.int 4)))))
def m4:FM:=gQ 2 0 [] zg
theorem xE:aH ["_law_number","_law_kind"] ["_law_number","_law_kind"] (au ny):=⟨rfl,rfl,rfl,by decide+kernel,rfl,by decide+kernel,by decide+kernel⟩
theorem CV(h:eN K mg "_law_worth" ny f fd ["_law_number","_law_kind"])(T:iw mg):bu P w K mg base fx 1 f fd ["_law_number","_law_kind"] (fX K 2 m4):=by have nd:=xE.nd;exact h.fn xE rfl rfl (λcdv A outer s H E hr=>(@ao _ _ _ _ _ (@aO _ _ _ _ _ (@aQ _ _ _ _ _ _ _ rfl (@bH _ _ _ _ _ ((@bi _ _ _ _ _ _ _ (¬0) ag)∘((@bP _ _ _ _ _ _ _ rfl ag (@bi _ _ _ _ _ _ _ (¬0) ag))∘((@bi _ _ _ _ _ _ _ (¬0) ag)∘((@xl _ _ _ _ _ _ _ ag (@bi _ _ _ _ _ _ _ (¬0) ag))∘ae))))) (@bi _ _ _ _ _ _ _ (¬1) ag) ↥4))))
def qF:FI:=(cq (ac (af 2) am))
def jv:FS:=(aC (aN 8 (bR 1 br (ac (af 0) am))) (aC (aN 9 (ax ba (cQ (ac (ax be (af 8) (af 1)) (ac (vC (.int 0)) (ac (ax be (af 7) (af 1)) (ac (ax be (af 8) (af 1)) (ac (ax be (af 8) (vC (.int 2))) (ac (ax be (af 8) (af 1)) am))))))) (af 3))) (aC (aN 10 (ax be (ax bF (ax bF (af 9) (vC (.int 1))) (ax be (ax dj (af 8) (vC (.int 12))) (ax kW (af 1) (vC (.int 1))))) (af 1))) (aC (ky (aX (ax (eh false) (af 3) (vC (.int 4)))) (jo (bo (ac (vC (.int 0)) (ac (vC (.int 1)) am))) (a8 (aq (ah 9) (aq (ah 10) aY)))) eM) (aC (aN 11 (bR 1 br (ac (af 0) am))) (aC (aN 12 (bo (ac (aF (g2 Ce) (ac (af 9) (ac (af 10) am))) (ac (aF (g2 wo) (ac (af 9) (ac (af 10) am))) am)))) (dm (cG bD (af 6) (ac (ax bF (af 12) (bo (ac (bR 2 dW (ac (af 11) (ac (af 4) am))) (ac (bR 2 m4 (ac (ax dj (af 11) (vC (.int 10007))) (ac (af 5) am))) am)))) am)))))))))
def BO:FS:=(aC (aN 3 (ax be (bR 1 br (ac (af 0) am)) (vC (.int 6)))) (aC (aN 4 (ax be (bR 1 br (ac (af 0) am)) (vC (.int 4)))) (aC (aN 5 (ax be (bR 1 br (ac (af 0) am)) (vC (.int 4)))) (aC (aN 6 (cQ am)) (aC (cx ([7]++([8]++([9]++([10]++((([9]++([10]++[]))++[])++([11]++([12]++[]))))))) qF (ah 7) jv) (bx (aF (g1 bf) (ac (af 6) am))))))))
def mn:FM:=gQ 3 10 ([3]++([4]++([5]++([6]++(([7]++([8]++([9]++([10]++((([9]++([10]++[]))++[])++([11]++([12]++[])))))))++[]))))) BO
theorem zY:aH ["_law_drawn","_law_things","_law_many","_law_shape","_law_odds","_law_worths","_law_found","_law_k","_law_number","_law_one","_law_other","_law_cell","_law_ends"] ["_law_drawn","_law_things","_law_many"] (au ox):=⟨rfl,rfl,rfl,by decide+kernel,rfl,by decide+kernel,by decide+kernel⟩
theorem Fy(h:eN K mg "_law_ties" ox f fd ["_law_drawn","_law_things","_law_many"])(T:iw mg)(zLnext:Cl P w K mg base "_law_next" kd ["_law_drawn"] 1 1 br)(zLchance:Cl P w K mg base "_law_chance" jK ["_law_number","_law_kind"] 3 2 dW)(zLworth:Cl P w K mg base "_law_worth" ny ["_law_number","_law_kind"] 1 2 m4):bu P w K mg base fx 4 f fd ["_law_drawn","_law_things","_law_many"] (fX K 3 mn):=by obtain⟨Oh,Oi,M0,M1⟩:=zLnext;obtain⟨OO,OP,Nq,NZ⟩:=zLchance;obtain⟨PF,PH,N1,OW⟩:=zLworth;have nd:=zY.nd;exact h.fn zY rfl rfl (λcdv A outer s H E hr=>(@aj _ _ _ _ _ _ _ _ (@az _ _ _ _ _ 3 _ _ nd rfl ↥3 (@bi _ _ _ _ _ _ _ (@aV _ _ _ _ _ _ _ _ _ _ _ _ _ _ _ M0 M1 (hr.mono ⋯) ((¬0)∘ae) ∅ ⋯ ∅ ∅) ag) ∅ (by trivial)) (@aj _ _ _ _ _ _ _ _ (@az _ _ _ _ _ 4 _ _ nd rfl ↥3 (@bi _ _ _ _ _ _ _ (@aV _ _ _ _ _ _ _ _ _ _ _ _ _ _ _ M0 M1 (hr.mono ⋯) ((¬0)∘ae) ∅ ⋯ ∅ ∅) ag) ∅ (by trivial)) (@aj _ _ _ _ _ _ _ _ (@az _ _ _ _ _ 5 _ _ nd rfl ↥3 (@bi _ _ _ _ _ _ _ (@aV _ _ _ _ _ _ _ _ _ _ _ _ _ _ _ M0 M1 (hr.mono ⋯) ((¬0)∘ae) ∅ ⋯ ∅ ∅) ag) ∅ (by trivial)) (@aj _ _ _ _ _ _ _ _ (@az _ _ _ _ _ 6 _ _ nd rfl ↥3 (@bH _ _ _ _ _ ae) ∅ (by trivial)) (@aj _ _ _ _ _ _ _ _ (@dI _ _ _ _ _ _ _ _ _ _ _ Re rfl (@bY _ _ _ _ _ _ _ rfl T.b_range ((¬2)∘ae) ∅) (@av _ _ _ 7 _ nd rfl ↥3 (by trivial)) (@aj _ _ _ _ _ _ _ _ (@az _ _ _ _ _ 8 _ _ nd rfl ↥3 (@aV _ _ _ _ _ _ _ _ _ _ _ _ _ _ _ M0 M1 (hr.mono ⋯) ((¬0)∘ae) ∅ ⋯ ∅ ∅) ∅ (by trivial)) (@aj _ _ _ _ _ _ _ _ (@az _ _ _ _ _ 9 _ _ nd rfl ↥3 (@aQ _ _ _ _ _ _ _ rfl (@bH _ _ _ _ _ ((@bi _ _ _ _ _ _ _ (¬8) (¬1))∘(ag∘((@bi _ _ _ _ _ _ _ (¬7) (¬1))∘((@bi _ _ _ _ _ _ _ (¬8) (¬1))∘((@bi _ _ _ _ _ _ _ (¬8) ag)∘((@bi _ _ _ _ _ _ _ (¬8) (¬1))∘ae))))))) (¬3) ↥4) ∅ (by trivial)) (@aj _ _ _ _ _ _ _ _ (@az _ _ _ _ _ 10 _ _ nd rfl ↥3 (@bi _ _ _ _ _ _ _ (@bP _ _ _ _ _ _ _ rfl (@bP _ _ _ _ _ _ _ rfl (¬9) ag) (@bi _ _ _ _ _ _ _ (@fP _ _ _ _ _ _ _ (¬8) ag) (@xl _ _ _ _ _ _ _ (¬1) ag))) (¬1)) ∅ (by trivial)) (@aj _ _ _ _ _ _ _ _ (@eK _ _ _ _ _ _ _ _ _ _ _ (@bh _ _ _ _ _ _ _ _ _ (@ya _ _ _ rfl hr) (¬3) ag (bg _)) (@ao _ _ _ _ _ (@jm _ _ _ _ _ _ _ _ (@aM _ _ _ _ _ _ (ag∘(ag∘ae))) (@cN _ _ _ _ _ _ _ _ rfl rfl (@aE _ _ _ _ _ _ _ _ (@av _ _ _ 9 _ nd rfl ↥3 (by trivial)) (@aE _ _ _ _ _ _ _ _ (@av _ _ _ 10 _ nd rfl ↥3 (by trivial)) (@bU _ _) ∅) ∅) (aL (aL cK)) ∅ ∅) ∅ ∅ ∅)) (@bV _ _)) (@aj _ _ _ _ _ _ _ _ (@az _ _ _ _ _ 11 _ _ nd rfl ↥3 (@aV _ _ _ _ _ _ _ _ _ _ _ _ _ _ _ M0 M1 (hr.mono ⋯) ((¬0)∘ae) ∅ ⋯ ∅ ∅) ∅ (by trivial)) (@aj _ _ _ _ _ _ _ _ (@az _ _ _ _ _ 12 _ _ nd rfl ↥3 (@aM _ _ _ _ _ _ ((@aU _ _ _ _ _ _ _ _ _ (@b_min _ _ rfl) ∅ T.b_min ((¬9)∘((¬10)∘ae)) ⋯ ⋯ ∅ ∅)∘((@aU _ _ _ _ _ _ _ _ _ (@b_max _ _ rfl) ∅ T.b_max ((¬9)∘((¬10)∘ae)) ⋯ ⋯ ∅ ∅)∘ae))) ∅ (by trivial)) (@ao _ _ _ _ _ (@dk _ _ _ _ _ (@dY _ _ _ _ _ _ _ _ _ rfl (¬6) ((@bP _ _ _ _ _ _ _ rfl (¬12) (@aM _ _ _ _ _ _ ((@aV _ _ _ _ _ _ _ _ _ _ _ _ _ _ _ Nq NZ (hr.mono ⋯) ((¬11)∘((¬4)∘ae)) ∅ ⋯ ∅ ∅)∘((@aV _ _ _ _ _ _ _ _ _ _ _ _ _ _ _ N1 OW (hr.mono ⋯) ((@fP _ _ _ _ _ _ _ (¬11) ag)∘((¬5)∘ae)) ∅ ⋯ ∅ ∅)∘ae))))∘ae) ∅ ∅ ∅ ∅ ∅) ∅)))))))) ↥5) (@ao _ _ _ _ _ (@aO _ _ _ _ _ (@aU _ _ _ _ _ _ _ _ _ (@b_tuple _ _ rfl) ∅ T.b_tuple ((¬6)∘ae) ⋯ ⋯ ∅ ∅)))))))))
def uR:FI:=(cq (ac (af 3) am))
def pR:FS:=(dm (cG bD (af 7) (ac (ax ba (cQ (ac (vC (.int 20)) (ac (ax bF (vC (.int 1)) (ax be (bR 1 br (ac (af 0) am)) (vC (.int 3)))) (ac (ax be (bR 1 br (ac (af 0) am)) (vC (.int 21))) am)))) (af 6)) am)))
def G6:FS:=(aC (aN 3 (ax be (bR 1 br (ac (af 0) am)) (ax bF (af 1) (vC (.int 1))))) (aC (aN 4 (ax dz (ax be (bR 1 br (ac (af 0) am)) (ax bF (af 2) (vC (.int 1)))) (aF (g1 mR) (ac (ax Ca (af 3) (vC (.int 1))) am)))) (aC (aN 5 (bR 3 mn (ac (af 0) (ac (aF (g2 wo) (ac (vC (.int 2)) (ac (af 3) am))) (ac (af 4) am))))) (aC (aN 6 (ax be (bR 1 br (ac (af 0) am)) (vC (.int 3)))) (aC (aN 7 (cQ am)) (aC (cx ([8]++[]) uR (ah 8) pR) (aC (aN 9 (ax ba (cQ (ac (vC (.int 40)) (ac (ax bF (vC (.int 1)) (ax be (bR 1 br (ac (af 0) am)) (aF (g2 wo) (ac (vC (.int 1)) (ac (af 4) am))))) (ac (ax be (bR 1 br (ac (af 0) am)) (vC (.int 41))) am)))) (ax be (bR 1 br (ac (af 0) am)) (vC (.int 3))))) (bx (bo (ac (af 3) (ac (af 5) (ac (aF (g1 bf) (ac (af 7) am)) (ac (af 9) am)))))))))))))
def tS:FM:=gQ 3 7 ([3]++([4]++([5]++([6]++([7]++(([8]++[])++([9]++[]))))))) G6
theorem DS:aH ["_law_drawn","_law_most","_law_ties_here","_law_things","_law_many","_law_rows","_law_way","_law_patience","_law_k","_law_asks"] ["_law_drawn","_law_most","_law_ties_here"] (au xu):=⟨rfl,rfl,rfl,by decide+kernel,rfl,by decide+kernel,by decide+kernel⟩
theorem Iy(h:eN K mg "_law_web" xu f fd ["_law_drawn","_law_most","_law_ties_here"])(T:iw mg)(zLties:Cl P w K mg base "_law_ties" ox ["_law_drawn","_law_things","_law_many"] 4 3 mn)(zLnext:Cl P w K mg base "_law_next" kd ["_law_drawn"] 1 1 br):bu P w K mg base fx 5 f fd ["_law_drawn","_law_most","_law_ties_here"] (fX K 3 tS):=by obtain⟨Pe,Pf,NP,OA⟩:=zLties;obtain⟨Oh,Oi,M0,M1⟩:=zLnext;have nd:=DS.nd;exact h.fn DS rfl rfl (λcdv A outer s H E hr=>(@aj _ _ _ _ _ _ _ _ (@az _ _ _ _ _ 3 _ _ nd rfl ↥3 (@bi _ _ _ _ _ _ _ (@aV _ _ _ _ _ _ _ _ _ _ _ _ _ _ _ M0 M1 (hr.mono ⋯) ((¬0)∘ae) ∅ ⋯ ∅ ∅) (@bP _ _ _ _ _ _ _ rfl (¬1) ag)) ∅ (by trivial)) (@aj _ _ _ _ _ _ _ _ (@az _ _ _ _ _ 4 _ _ nd rfl ↥3 (@gJ _ _ _ _ _ _ _ rfl (@bi _ _ _ _ _ _ _ (@aV _ _ _ _ _ _ _ _ _ _ _ _ _ _ _ M0 M1 (hr.mono ⋯) ((¬0)∘ae) ∅ ⋯ ∅ ∅) (@bP _ _ _ _ _ _ _ rfl (¬2) ag)) (@aU _ _ _ _ _ _ _ _ _ (@b_int _ _) ∅ T.b_int ((@Do _ _ _ _ _ _ _ _ _ (@yc _ _) (¬3) ag (bg _))∘ae) ⋯ ⋯ ∅ ∅)) ∅ (by trivial)) (@aj _ _ _ _ _ _ _ _ (@az _ _ _ _ _ 5 _ _ nd rfl ↥3 (@aV _ _ _ _ _ _ _ _ _ _ _ _ _ _ _ NP OA (hr.mono ⋯) ((¬0)∘((@aU _ _ _ _ _ _ _ _ _ (@b_max _ _ rfl) ∅ T.b_max (ag∘((¬3)∘ae)) ⋯ ⋯ ∅ ∅)∘((¬4)∘ae))) ∅ ⋯ ∅ ∅) ∅ (by trivial)) (@aj _ _ _ _ _ _ _ _ (@az _ _ _ _ _ 6 _ _ nd rfl ↥3 (@bi _ _ _ _ _ _ _ (@aV _ _ _ _ _ _ _ _ _ _ _ _ _ _ _ M0 M1 (hr.mono ⋯) ((¬0)∘ae) ∅ ⋯ ∅ ∅) ag) ∅ (by trivial)) (@aj _ _ _ _ _ _ _ _ (@az _ _ _ _ _ 7 _ _ nd rfl ↥3 (@bH _ _ _ _ _ ae) ∅ (by trivial)) (@aj _ _ _ _ _ _ _ _ (@dI _ _ _ _ _ _ _ _ _ _ _ Re rfl (@bY _ _ _ _ _ _ _ rfl T.b_range ((¬3)∘ae) ∅) (@av _ _ _ 8 _ nd rfl ↥3 (by trivial)) (@ao _ _ _ _ _ (@dk _ _ _ _ _ (@dY _ _ _ _ _ _ _ _ _ rfl (¬7) ((@aQ _ _ _ _ _ _ _ rfl (@bH _ _ _ _ _ (ag∘((@bP _ _ _ _ _ _ _ rfl ag (@bi _ _ _ _ _ _ _ (@aV _ _ _ _ _ _ _ _ _ _ _ _ _ _ _ M0 M1 (hr.mono ⋯) ((¬0)∘ae) ∅ ⋯ ∅ ∅) ag))∘((@bi _ _ _ _ _ _ _ (@aV _ _ _ _ _ _ _ _ _ _ _ _ _ _ _ M0 M1 (hr.mono ⋯) ((¬0)∘ae) ∅ ⋯ ∅ ∅) ag)∘ae)))) (¬6) ↥4)∘ae) ∅ ∅ ∅ ∅ ∅) ∅)) ↥5) (@aj _ _ _ _ _ _ _ _ (@az _ _ _ _ _ 9 _ _ nd rfl ↥3 (@aQ _ _ _ _ _ _ _ rfl (@bH _ _ _ _ _ (ag∘((@bP _ _ _ _ _ _ _ rfl ag (@bi _ _ _ _ _ _ _ (@aV _ _ _ _ _ _ _ _ _ _ _ _ _ _ _ M0 M1 (hr.mono ⋯) ((¬0)∘ae) ∅ ⋯ ∅ ∅) (@aU _ _ _ _ _ _ _ _ _ (@b_max _ _ rfl) ∅ T.b_max (ag∘((¬4)∘ae)) ⋯ ⋯ ∅ ∅)))∘((@bi _ _ _ _ _ _ _ (@aV _ _ _ _ _ _ _ _ _ _ _ _ _ _ _ M0 M1 (hr.mono ⋯) ((¬0)∘ae) ∅ ⋯ ∅ ∅) ag)∘ae)))) (@bi _ _ _ _ _ _ _ (@aV _ _ _ _ _ _ _ _ _ _ _ _ _ _ _ M0 M1 (hr.mono ⋯) ((¬0)∘ae) ∅ ⋯ ∅ ∅) ag) ↥4) ∅ (by trivial)) (@ao _ _ _ _ _ (@aO _ _ _ _ _ (@aM _ _ _ _ _ _ ((¬3)∘((¬5)∘((@aU _ _ _ _ _ _ _ _ _ (@b_tuple _ _ rfl) ∅ T.b_tuple ((¬7)∘ae) ⋯ ⋯ ∅ ∅)∘((¬9)∘ae)))))))))))))))
def o5:FI:=(iE (af 1))
def gh:FT:=(aX (ax (Cc false) (af 0) (uk (ax ba (ax ba (af 1) (vC (.int 1))) (af 2)) fD (fg (vC (.int 2))))))
def gq:FE:=(af 2)
def sT:FS:=(bx (aF (g1 ce) (ac (bj [(2,"_law_thing"),(0,"_law_web_here")] 1 o5 (ah 2) gh gq) am)))
def iq:FM:=gQ 3 0 [] sT
theorem rQ:aH ["_law_web_here","_law_asked","_law_thing"] ["_law_web_here","_law_asked","_law_thing"] (au jJ):=⟨rfl,rfl,rfl,by decide+kernel,rfl,by decide+kernel,by decide+kernel⟩
theorem yC(h:eN K mg "_law_asks_of" jJ f fd ["_law_web_here","_law_asked","_law_thing"])(T:iw mg):bu P w K mg base fx 1 f fd ["_law_web_here","_law_asked","_law_thing"] (fX K 3 iq):=by have nd:=rQ.nd;exact h.fn rQ rfl rfl (λcdv A outer s H E hr=>(@ao _ _ _ _ _ (@aO _ _ _ _ _ (@aU _ _ _ _ _ _ _ _ _ (@b_len _ _ rfl) ∅ T.b_len ((@cy _ _ _ _ _ _ _ _ _ _ _ _ _ [(2,"_law_thing"),(0,"_law_web_here")] ["_law_tie"] rfl rfl (@dH _ _ _ _ _ rfl (¬1)) (λC s0 H0 fp=>(@av _ _ _ 2 _ (show QO (["_law_thing","_law_web_here","_law_tie"]:List Str) by decide+kernel) rfl ↥3 (by trivial))) (λC s0 H0 fp=>(@lN _ _ _ _ (@bh _ _ _ _ _ _ _ _ _ (@EE _ _ _ rfl hr) (¬0) (@ja _ _ _ _ _ _ _ _ _ _ rfl (@aQ _ _ _ _ _ _ _ rfl (@aQ _ _ _ _ _ _ _ rfl (¬1) ag ↥4) (¬2) ↥4) (@jb _ _) (@jc _ _ _ _ ag)) (by with_unfolding_all rfl)))) (λC s0 H0 fp=>(¬2)) rfl ∅ ↥5)∘ae) ⋯ ⋯ ∅ ∅))))
def zt:FI:=(iE (uk (ax ba (ax ba (af 0) (vC (.int 1))) (af 2)) fD (fg (vC (.int 2)))))
def jV:FS:=(ky (Am (aX (ax (Cc false) (af 5) (af 4))) (aX (ax EW (bR 3 iq (ac (af 0) (ac (af 3) (ac (af 5) am)))) (ax ba (ax ba (af 0) (vC (.int 2))) (af 5))))) (bx (vC (.bool false))) eM)
def sV:FS:=(aC (jo (af 1) (a8 (aq (ah 3) (aq (ah 4) aY)))) (aC (ky (Am (aX (ax (Cc false) (af 2) (af 3))) (aX (ax EW (aF (g1 ce) (ac (af 3) am)) (ax ba (af 0) (vC (.int 3)))))) (bx (vC (.bool false))) eM) (aC (cx ([5]++([]++[])) zt (ah 5) jV) (bx (vC (.bool true))))))
def mZ:FM:=gQ 3 3 (([3]++([4]++[]))++(([]++[])++(([5]++([]++[]))++[]))) sV
theorem DR:aH ["_law_web_here","_law_stand","_law_tie","_law_asked","_law_taken","_law_thing"] ["_law_web_here","_law_stand","_law_tie"] (au xt):=⟨rfl,rfl,rfl,by decide+kernel,rfl,by decide+kernel,by decide+kernel⟩
theorem Iw(h:eN K mg "_law_may" xt f fd ["_law_web_here","_law_stand","_law_tie"])(T:iw mg)(zLasks_of:Cl P w K mg base "_law_asks_of" jJ ["_law_web_here","_law_asked","_law_thing"] 1 3 iq):bu P w K mg base fx 2 f fd ["_law_web_here","_law_stand","_law_tie"] (fX K 3 mZ):=by obtain⟨Ph,Pi,NA,OB⟩:=zLasks_of;have nd:=DR.nd;exact h.fn DR rfl rfl (λcdv A outer s H E hr=>(@aj _ _ _ _ _ _ _ _ (@jm _ _ _ _ _ _ _ _ (¬1) (@cN _ _ _ _ _ _ _ _ rfl rfl (@aE _ _ _ _ _ _ _ _ (@av _ _ _ 3 _ nd rfl ↥3 (by trivial)) (@aE _ _ _ _ _ _ _ _ (@av _ _ _ 4 _ nd rfl ↥3 (by trivial)) (@bU _ _) ∅) ∅) (aL (aL cK)) ∅ ∅) ∅ ∅ ∅) (@aj _ _ _ _ _ _ _ _ (@eK _ _ _ _ _ _ _ _ _ _ _ (@yN _ _ _ _ (@Du _ _ _ _ _ _ _ _ (@bh _ _ _ _ _ _ _ _ _ (@EE _ _ _ rfl hr) (¬2) (¬3) (by with_unfolding_all rfl)) (@yO _ _ _ _ _ (@bh _ _ _ _ _ _ _ _ _ (@Av _ _) (@aU _ _ _ _ _ _ _ _ _ (@b_len _ _ rfl) ∅ T.b_len ((¬3)∘ae) ⋯ ⋯ ∅ ∅) (@aQ _ _ _ _ _ _ _ rfl (¬0) ag ↥4) (bg _))))) (@ao _ _ _ _ _ (@aO _ _ _ _ _ (@km _ _ _ _ _))) (@bV _ _)) (@aj _ _ _ _ _ _ _ _ (@dI _ _ _ _ _ _ _ _ _ _ _ Re rfl (@dH _ _ _ _ _ rfl (@ja _ _ _ _ _ _ _ _ _ _ rfl (@aQ _ _ _ _ _ _ _ rfl (@aQ _ _ _ _ _ _ _ rfl (¬0) ag ↥4) (¬2) ↥4) (@jb _ _) (@jc _ _ _ _ ag))) (@av _ _ _ 5 _ nd rfl ↥3 (by trivial)) (@ao _ _ _ _ _ (@eK _ _ _ _ _ _ _ _ _ _ _ (@yN _ _ _ _ (@Du _ _ _ _ _ _ _ _ (@bh _ _ _ _ _ _ _ _ _ (@EE _ _ _ rfl hr) (¬5) (¬4) (by with_unfolding_all rfl)) (@yO _ _ _ _ _ (@bh _ _ _ _ _ _ _ _ _ (@Av _ _) (@aV _ _ _ _ _ _ _ _ _ _ _ _ _ _ _ NA OB (hr.mono ⋯) ((¬0)∘((¬3)∘((¬5)∘ae))) ∅ ⋯ ∅ ∅) (@aQ _ _ _ _ _ _ _ rfl (@aQ _ _ _ _ _ _ _ rfl (¬0) ag ↥4) (¬5) ↥4) (bg _))))) (@ao _ _ _ _ _ (@aO _ _ _ _ _ (@km _ _ _ _ _))) (@bV _ _))) ↥5) (@ao _ _ _ _ _ (@aO _ _ _ _ _ (@km _ _ _ _ _)))))))
def qf:FS:=(aC (jo (af 1) (a8 (aq (ah 4) (aq (ah 5) aY)))) (aC (aN 6 (af 5)) (aC (ky (aX (af 3)) (aN 6 (aF (g1 bf) (ac (aF (g1 j7) (ac (ax bF (af 5) (uk (ax ba (ax ba (af 0) (vC (.int 1))) (af 2)) fD (fg (vC (.int 2))))) am)) am))) eM) (bx (bo (ac (aF (g1 bf) (ac (aF (g1 j7) (ac (ax bF (af 4) (bo (ac (af 2) am))) am)) am)) (ac (af 6) am)))))))
def iG:FM:=gQ 4 3 (([4]++([5]++[]))++([6]++(([6]++[])++[]))) qf
theorem tY:aH ["_law_web_here","_law_stand","_law_tie","_law_truth","_law_asked","_law_taken","_law_more"] ["_law_web_here","_law_stand","_law_tie","_law_truth"] (au lb):=⟨rfl,rfl,rfl,by decide+kernel,rfl,by decide+kernel,by decide+kernel⟩
theorem A0(h:eN K mg "_law_behind" lb f fd ["_law_web_here","_law_stand","_law_tie","_law_truth"])(T:iw mg):bu P w K mg base fx 1 f fd ["_law_web_here","_law_stand","_law_tie","_law_truth"] (fX K 4 iG):=by have nd:=tY.nd;exact h.fn tY rfl rfl (λcdv A outer s H E hr=>(@aj _ _ _ _ _ _ _ _ (@jm _ _ _ _ _ _ _ _ (¬1) (@cN _ _ _ _ _ _ _ _ rfl rfl (@aE _ _ _ _ _ _ _ _ (@av _ _ _ 4 _ nd rfl ↥3 (by trivial)) (@aE _ _ _ _ _ _ _ _ (@av _ _ _ 5 _ nd rfl ↥3 (by trivial)) (@bU _ _) ∅) ∅) (aL (aL cK)) ∅ ∅) ∅ ∅ ∅) (@aj _ _ _ _ _ _ _ _ (@az _ _ _ _ _ 6 _ _ nd rfl ↥3 (¬5) ∅ (by trivial)) (@aj _ _ _ _ _ _ _ _ (@eK _ _ _ _ _ _ _ _ _ _ _ (@kc _ _ _ _ (¬3) ↥5) (@ao _ _ _ _ _ (@az _ _ _ _ _ 6 _ _ nd rfl ↥3 (@aU _ _ _ _ _ _ _ _ _ (@b_tuple _ _ rfl) ∅ T.b_tuple ((@aU _ _ _ _ _ _ _ _ _ (@b_sorted _ _ rfl) ∅ T.b_sorted ((@bP _ _ _ _ _ _ _ rfl (¬5) (@ja _ _ _ _ _ _ _ _ _ _ rfl (@aQ _ _ _ _ _ _ _ rfl (@aQ _ _ _ _ _ _ _ rfl (¬0) ag ↥4) (¬2) ↥4) (@jb _ _) (@jc _ _ _ _ ag)))∘ae) ⋯ ⋯ ∅ ∅)∘ae) ⋯ ⋯ ∅ ∅) ∅ (by trivial))) (@bV _ _)) (@ao _ _ _ _ _ (@aO _ _ _ _ _ (@aM _ _ _ _ _ _ ((@aU _ _ _ _ _ _ _ _ _ (@b_tuple _ _ rfl) ∅ T.b_tuple ((@aU _ _ _ _ _ _ _ _ _ (@b_sorted _ _ rfl) ∅ T.b_sorted ((@bP _ _ _ _ _ _ _ rfl (¬4) (@aM _ _ _ _ _ _ ((¬2)∘ae)))∘ae) ⋯ ⋯ ∅ ∅)∘ae) ⋯ ⋯ ∅ ∅)∘((¬6)∘ae)))))))))
def kX:FI:=(cq (ac (aF (g1 ce) (ac (ax ba (af 0) (vC (.int 1))) am)) am))
def gg:FT:=(aX (bR 3 mZ (ac (af 0) (ac (af 1) (ac (af 2) am)))))
def gn:FE:=(af 2)
def sS:FS:=(bx (bj [(0,"_law_web_here"),(1,"_law_stand")] 1 kX (ah 2) gg gn))
def jC:FM:=gQ 2 0 [] sS
theorem rP:aH ["_law_web_here","_law_stand"] ["_law_web_here","_law_stand"] (au jI):=⟨rfl,rfl,rfl,by decide+kernel,rfl,by decide+kernel,by decide+kernel⟩
theorem yB(h:eN K mg "_law_askable" jI f fd ["_law_web_here","_law_stand"])(T:iw mg)(zLmay:Cl P w K mg base "_law_may" xt ["_law_web_here","_law_stand","_law_tie"] 2 3 mZ):bu P w K mg base fx 3 f fd ["_law_web_here","_law_stand"] (fX K 2 jC):=by obtain⟨PZ,P0,OQ,PJ⟩:=zLmay;have nd:=rP.nd;exact h.fn rP rfl rfl (λcdv A outer s H E hr=>(@ao _ _ _ _ _ (@aO _ _ _ _ _ (@cy _ _ _ _ _ _ _ _ _ _ _ _ _ [(0,"_law_web_here"),(1,"_law_stand")] ["_law_tie"] rfl rfl (@bY _ _ _ _ _ _ _ rfl T.b_range ((@aU _ _ _ _ _ _ _ _ _ (@b_len _ _ rfl) ∅ T.b_len ((@aQ _ _ _ _ _ _ _ rfl (¬0) ag ↥4)∘ae) ⋯ ⋯ ∅ ∅)∘ae) ∅) (λC s0 H0 fp=>(@av _ _ _ 2 _ (show QO (["_law_web_here","_law_stand","_law_tie"]:List Str) by decide+kernel) rfl ↥3 (by trivial))) (λC s0 H0 fp=>(@lN _ _ _ _ (@kc _ _ _ _ (@aV _ _ _ _ _ _ _ _ _ _ _ _ _ _ _ OQ PJ (hr.mono ⋯) ((¬0)∘((¬1)∘((¬2)∘ae))) ∅ ⋯ ∅ ∅) ↥5))) (λC s0 H0 fp=>(¬2)) rfl ∅ ↥5))))
def tL:FI:=(zu 3)
def lB:FE:=(aF (g1 bf) (ac (af 0) am))
def jy:FT:=(aX (ax (eh true) (af 4) (cQ am)))
def cY:FS:=(aC (jo (cG fM (af 4) (ac (vC (.int 0)) am)) (a8 (aq (ah 5) (aq (ah 6) (aq (ah 7) aY))))) (aC (aN 8 (bR 2 jC (ac (af 1) (ac (af 5) am)))) (aC (aN 9 (bR 1 br (ac (af 0) am))) (ky (lV (aX (ax (eh true) (af 8) (cQ am))) (lV (aX (ax Cd (lu 3) (af 2))) (Am (aX (ax (eh true) (ax be (af 9) (vC (.int 7))) (vC (.int 6)))) (aX (ax Cd (af 6) (vC (.int 0))))))) (aC (aN 10 (ax ba (af 8) (ax be (ax dj (af 9) (vC (.int 7))) (aF (g1 ce) (ac (af 8) am))))) (aC (ky (aX (ax EW (af 6) (vC (.int 0)))) (xw 3 (lu 3) (af 6) (CM (nC 1) (qU 7))) eM) (aC (dm (cG bD (af 4) (ac (bo (ac (bR 4 iG (ac (af 1) (ac (af 5) (ac (af 10) (ac (vC (.bool true)) am))))) (ac (lu 3) (ac (vC (.int 0)) am)))) am))) (aC (dm (cG bD (af 4) (ac (bo (ac (bR 4 iG (ac (af 1) (ac (af 5) (ac (af 10) (ac (vC (.bool false)) am))))) (ac (lu 3) (ac (vC (.int 1)) am)))) am))) (dm (nL 3 (cQ (ac (af 10) (ac (um ww (vC (.int 1))) (ac (um ww (vC (.int 1))) am)))))))))) eM))))
def za:FS:=(aC (xx 3) (aC (aN 4 (cQ (ac (bo (ac (bo (ac (bo am) (ac (bo am) am))) (ac (um ww (vC (.int 1))) (ac (vC (.int 0)) am)))) am))) (aC (fV (2^4200) jy cY) (bx (aF (g1 bf) (ac (bj [] 1 tL (ah 0) a_ lB) am))))))
def e_:FM:=gQ 3 8 ([3]++([4]++((([5]++([6]++([7]++[])))++([8]++([9]++(([10]++(([]++[])++([]++([]++[]))))++[]))))++[]))) za
theorem xB:aH ["_law_drawn","_law_web_here","_law_most","_law_nodes","_law_waiting","_law_stand","_law_parent","_law_side","_law_some","_law_number","_law_tie"] ["_law_drawn","_law_web_here","_law_most"] (au nq):=⟨rfl,rfl,rfl,by decide+kernel,rfl,by decide+kernel,by decide+kernel⟩
theorem CS(h:eN K mg "_law_grown" nq f fd ["_law_drawn","_law_web_here","_law_most"])(T:iw mg)(zLaskable:Cl P w K mg base "_law_askable" jI ["_law_web_here","_law_stand"] 3 2 jC)(zLnext:Cl P w K mg base "_law_next" kd ["_law_drawn"] 1 1 br)(zLbehind:Cl P w K mg base "_law_behind" lb ["_law_web_here","_law_stand","_law_tie","_law_truth"] 1 4 iG):bu P w K mg base fx 4 f fd ["_law_drawn","_law_web_here","_law_most"] (fX K 3 e_):=by obtain⟨Pj,Pk,NB,OC⟩:=zLaskable;obtain⟨Oh,Oi,M0,M1⟩:=zLnext;obtain⟨Py,Pz,NC,Oj⟩:=zLbehind;have nd:=xB.nd;exact h.fn xB rfl rfl (λcdv A outer s H E hr=>(@aj _ _ _ _ _ _ _ _ (@zO _ _ _ _ _ _ 3 nd rfl ↥3 ∅ (by trivial)) (@aj _ _ _ _ _ _ _ _ (@az _ _ _ _ _ 4 _ _ nd rfl ↥3 (@bH _ _ _ _ _ ((@aM _ _ _ _ _ _ ((@aM _ _ _ _ _ _ ((@aM _ _ _ _ _ _ ae)∘((@aM _ _ _ _ _ _ ae)∘ae)))∘((@xj _ _ _ _ _ ag)∘(ag∘ae))))∘ae)) ∅ (by trivial)) (@aj _ _ _ _ _ _ _ _ (@jG _ _ _ _ _ _ _ _ _ Re (@bh _ _ _ _ _ _ _ _ _ (@ye _ _ _ rfl hr) (¬4) (@bH _ _ _ _ _ ae) (bg _)) (@aj _ _ _ _ _ _ _ _ (@jm _ _ _ _ _ _ _ _ (@zM _ _ _ _ _ _ _ _ _ rfl (¬4) (ag∘ae) ∅ ∅ ∅ ∅ ∅) (@cN _ _ _ _ _ _ _ _ rfl rfl (@aE _ _ _ _ _ _ _ _ (@av _ _ _ 5 _ nd rfl ↥3 (by trivial)) (@aE _ _ _ _ _ _ _ _ (@av _ _ _ 6 _ nd rfl ↥3 (by trivial)) (@aE _ _ _ _ _ _ _ _ (@av _ _ _ 7 _ nd rfl ↥3 (by trivial)) (@bU _ _) ∅) ∅) ∅) (aL (aL (aL cK))) ∅ ∅) ∅ ∅ ∅) (@aj _ _ _ _ _ _ _ _ (@az _ _ _ _ _ 8 _ _ nd rfl ↥3 (@aV _ _ _ _ _ _ _ _ _ _ _ _ _ _ _ NB OC (hr.mono ⋯) ((¬1)∘((¬5)∘ae)) ∅ ⋯ ∅ ∅) ∅ (by trivial)) (@aj _ _ _ _ _ _ _ _ (@az _ _ _ _ _ 9 _ _ nd rfl ↥3 (@aV _ _ _ _ _ _ _ _ _ _ _ _ _ _ _ M0 M1 (hr.mono ⋯) ((¬0)∘ae) ∅ ⋯ ∅ ∅) ∅ (by trivial)) (@ao _ _ _ _ _ (@eK _ _ _ _ _ _ _ _ _ _ _ (@yN _ _ _ _ (@rH _ _ _ _ _ _ _ _ (@bh _ _ _ _ _ _ _ _ _ (@ye _ _ _ rfl hr) (¬8) (@bH _ _ _ _ _ ae) (bg _)) (@rH _ _ _ _ _ _ _ _ (@bh _ _ _ _ _ _ _ _ _ (@yd _ _) (@vm _ _ _ _ _ _ 3 rfl ∅ (by first|exact Or.inl rfl|exact Or.inr ↥3|exact Or.inr (Or.inr rfl)) ⋯ ⋯ ∅ T.b_len ∅ ∅ ∅) (¬2) (bg _)) (@pX _ _ _ _ _ (@yN _ _ _ _ (@Du _ _ _ _ _ _ _ _ (@bh _ _ _ _ _ _ _ _ _ (@ye _ _ _ rfl hr) (@bi _ _ _ _ _ _ _ (¬9) ag) ag (bg _)) (@yO _ _ _ _ _ (@bh _ _ _ _ _ _ _ _ _ (@yd _ _) (¬6) ag (bg _))))))))) (@aj _ _ _ _ _ _ _ _ (@az _ _ _ _ _ 10 _ _ nd rfl ↥3 (@aQ _ _ _ _ _ _ _ rfl (¬8) (@bi _ _ _ _ _ _ _ (@fP _ _ _ _ _ _ _ (¬9) ag) (@aU _ _ _ _ _ _ _ _ _ (@b_len _ _ rfl) ∅ T.b_len ((¬8)∘ae) ⋯ ⋯ ∅ ∅)) ↥4) ∅ (by trivial)) (@aj _ _ _ _ _ _ _ _ (@eK _ _ _ _ _ _ _ _ _ _ _ (@bh _ _ _ _ _ _ _ _ _ (@Av _ _) (¬6) ag (bg _)) (@ao _ _ _ _ _ (@Gi _ _ _ _ _ _ 3 _ _ _ _ _ _ _ rfl (@vm _ _ _ _ _ _ 3 rfl ∅ (by first|exact Or.inl rfl|exact Or.inr ↥3|exact Or.inr (Or.inr rfl)) ⋯ ⋯ ∅ T.b_len ∅ ∅ ∅) ∅ (by first|exact Or.inl rfl|exact Or.inr ↥3|exact Or.inr (Or.inr rfl)) ⋯ ⋯ (¬6) ↥4 (@IY _ _ _ _ _ _ _ (@IZ _ _ _ _ _) (@Ds _ _ _ _ 7 ∅ (by first|exact Or.inl rfl|exact Or.inr ↥3|exact Or.inr (Or.inr rfl)) ⋯ ⋯)) ↥5 ∅ ∅ ∅)) (@bV _ _)) (@aj _ _ _ _ _ _ _ _ (@dk _ _ _ _ _ (@dY _ _ _ _ _ _ _ _ _ rfl (¬4) ((@aM _ _ _ _ _ _ ((@aV _ _ _ _ _ _ _ _ _ _ _ _ _ _ _ NC Oj (hr.mono ⋯) ((¬1)∘((¬5)∘((¬10)∘((@km _ _ _ _ _)∘ae)))) ∅ ⋯ ∅ ∅)∘((@vm _ _ _ _ _ _ 3 rfl ∅ (by first|exact Or.inl rfl|exact Or.inr ↥3|exact Or.inr (Or.inr rfl)) ⋯ ⋯ ∅ T.b_len ∅ ∅ ∅)∘(ag∘ae))))∘ae) ∅ ∅ ∅ ∅ ∅) ∅) (@aj _ _ _ _ _ _ _ _ (@dk _ _ _ _ _ (@dY _ _ _ _ _ _ _ _ _ rfl (¬4) ((@aM _ _ _ _ _ _ ((@aV _ _ _ _ _ _ _ _ _ _ _ _ _ _ _ NC Oj (hr.mono ⋯) ((¬1)∘((¬5)∘((¬10)∘((@km _ _ _ _ _)∘ae)))) ∅ ⋯ ∅ ∅)∘((@vm _ _ _ _ _ _ 3 rfl ∅ (by first|exact Or.inl rfl|exact Or.inr ↥3|exact Or.inr (Or.inr rfl)) ⋯ ⋯ ∅ T.b_len ∅ ∅ ∅)∘(ag∘ae))))∘ae) ∅ ∅ ∅ ∅ ∅) ∅) (@ao _ _ _ _ _ (@dk _ _ _ _ _ (@Dp _ _ _ _ _ _ 3 _ _ rfl ∅ (by first|exact Or.inl rfl|exact Or.inr ↥3|exact Or.inr (Or.inr rfl)) ⋯ ⋯ (@bH _ _ _ _ _ ((¬10)∘((@xj _ _ _ _ _ ag)∘((@xj _ _ _ _ _ ag)∘ae)))) ∅ ∅ ∅ ∅ ∅ ∅) ∅)))))) (@bV _ _))))))) (@ao _ _ _ _ _ (@aO _ _ _ _ _ (@aU _ _ _ _ _ _ _ _ _ (@b_tuple _ _ rfl) ∅ T.b_tuple ((@cy _ _ _ _ _ _ _ _ _ _ _ _ _ [] ["_law_node"] rfl rfl (@zN _ _ _ _ 3 _ rfl ∅ (by first|exact Or.inl rfl|exact Or.inr ↥3|exact Or.inr (Or.inr rfl)) ⋯ ⋯) (λC s0 H0 fp=>(@av _ _ _ 0 _ (show QO (["_law_node"]:List Str) by decide+kernel) rfl ↥3 (by trivial))) (λC s0 H0 fp=>(@cO _ _)) (λC s0 H0 fp=>(@aU _ _ _ _ _ _ _ _ _ (@b_tuple _ _ rfl) ∅ T.b_tuple ((¬0)∘ae) ⋯ ⋯ ∅ ∅)) rfl ∅ ↥5)∘ae) ⋯ ⋯ ∅ ∅)))))))
def ki:FI:=(iE (af 1))
def d_:FE:=(ax bF (af 0) (bo (ac (vC (.bool true)) am)))
def kj:FI:=(iE (af 1))
def ed:FE:=(ax bF (af 0) (bo (ac (vC (.bool false)) am)))
def gW:FI:=(cq (ac (af 0) am))
def cR:FS:=(aN 1 (ax bF (bj [] 1 ki (ah 0) a_ d_) (bj [] 1 kj (ah 0) a_ ed)))
def lW:FS:=(aC (aN 1 (cQ (ac (bo am) am))) (aC (cx ([2]++[1]) gW (ah 2) cR) (bx (af 1))))
def cv:FM:=gQ 1 2 ([1]++(([2]++[1])++[])) lW
theorem lc:aH ["_law_many","_law_rows","_law_k"] ["_law_many"] (au de):=⟨rfl,rfl,rfl,by decide+kernel,rfl,by decide+kernel,by decide+kernel⟩
theorem qZ(h:eN K mg "_law_all_answers" de f fd ["_law_many"])(T:iw mg):bu P w K mg base fx 1 f fd ["_law_many"] (fX K 1 cv):=by have nd:=lc.nd;exact h.fn lc rfl rfl (λcdv A outer s H E hr=>(@aj _ _ _ _ _ _ _ _ (@az _ _ _ _ _ 1 _ _ nd rfl ↥3 (@bH _ _ _ _ _ ((@aM _ _ _ _ _ _ ae)∘ae)) ∅ (by trivial)) (@aj _ _ _ _ _ _ _ _ (@dI _ _ _ _ _ _ _ _ _ _ _ Re rfl (@bY _ _ _ _ _ _ _ rfl T.b_range ((¬0)∘ae) ∅) (@av _ _ _ 2 _ nd rfl ↥3 (by trivial)) (@ao _ _ _ _ _ (@az _ _ _ _ _ 1 _ _ nd rfl ↥3 (@bP _ _ _ _ _ _ _ rfl (@cy _ _ _ _ _ _ _ _ _ _ _ _ _ [] ["_law_row"] rfl rfl (@dH _ _ _ _ _ rfl (¬1)) (λC s0 H0 fp=>(@av _ _ _ 0 _ (show QO (["_law_row"]:List Str) by decide+kernel) rfl ↥3 (by trivial))) (λC s0 H0 fp=>(@cO _ _)) (λC s0 H0 fp=>(@bP _ _ _ _ _ _ _ rfl (¬0) (@aM _ _ _ _ _ _ ((@km _ _ _ _ _)∘ae)))) rfl ∅ ↥5) (@cy _ _ _ _ _ _ _ _ _ _ _ _ _ [] ["_law_row"] rfl rfl (@dH _ _ _ _ _ rfl (¬1)) (λC s0 H0 fp=>(@av _ _ _ 0 _ (show QO (["_law_row"]:List Str) by decide+kernel) rfl ↥3 (by trivial))) (λC s0 H0 fp=>(@cO _ _)) (λC s0 H0 fp=>(@bP _ _ _ _ _ _ _ rfl (¬0) (@aM _ _ _ _ _ _ ((@km _ _ _ _ _)∘ae)))) rfl ∅ ↥5)) ∅ (by trivial))) ↥5) (@ao _ _ _ _ _ (@aO _ _ _ _ _ (¬1))))))
def ji:FI:=(tM (ac (ax ba (af 0) (vC (.int 1))) (ac (af 1) am)))
def cX:FS:=(aN 2 (bR 2 f9 (ac (af 2) (ac (ax ba (cQ (ac (bR 1 ml (ac (ax ba (af 3) (vC (.int 2))) am)) (ac (ax ba (af 3) (vC (.int 2))) am))) (aF (g1 mR) (ac (af 4) am))) am))))
def oF:FS:=(aC (aN 2 (bo (ac (vC (.int 1)) (ac (vC (.int 1)) am)))) (aC (cx (([3]++([4]++[]))++[2]) ji (a8 (aq (ah 3) (aq (ah 4) aY))) cX) (bx (af 2))))
def gG:FM:=gQ 2 3 ([2]++((([3]++([4]++[]))++[2])++[])) oF
theorem nA:aH ["_law_web_here","_law_answers","_law_found","_law_tie","_law_truth"] ["_law_web_here","_law_answers"] (au gK):=⟨rfl,rfl,rfl,by decide+kernel,rfl,by decide+kernel,by decide+kernel⟩
theorem ve(h:eN K mg "_law_chance_of" gK f fd ["_law_web_here","_law_answers"])(T:iw mg)(zLtimes:Cl P w K mg base "_law_times" ke ["_law_one","_law_other"] 3 2 f9)(zLrest:Cl P w K mg base "_law_rest" ou ["_law_one"] 1 1 ml):bu P w K mg base fx 4 f fd ["_law_web_here","_law_answers"] (fX K 2 gG):=by obtain⟨OD,OE,Nn,NK⟩:=zLtimes;obtain⟨Pl,Pm,NQ,OF⟩:=zLrest;have nd:=nA.nd;exact h.fn nA rfl rfl (λcdv A outer s H E hr=>(@aj _ _ _ _ _ _ _ _ (@az _ _ _ _ _ 2 _ _ nd rfl ↥3 (@aM _ _ _ _ _ _ (ag∘(ag∘ae))) ∅ (by trivial)) (@aj _ _ _ _ _ _ _ _ (@dI _ _ _ _ _ _ _ _ _ _ _ Re rfl (@rG _ _ _ _ _ _ _ _ _ _ rfl rfl T.b_zip ((@aQ _ _ _ _ _ _ _ rfl (¬0) ag ↥4)∘((¬1)∘ae)) ∅ ∅) (@cN _ _ _ _ _ _ _ _ rfl rfl (@aE _ _ _ _ _ _ _ _ (@av _ _ _ 3 _ nd rfl ↥3 (by trivial)) (@aE _ _ _ _ _ _ _ _ (@av _ _ _ 4 _ nd rfl ↥3 (by trivial)) (@bU _ _) ∅) ∅) (aL (aL cK)) ∅ ∅) (@ao _ _ _ _ _ (@az _ _ _ _ _ 2 _ _ nd rfl ↥3 (@aV _ _ _ _ _ _ _ _ _ _ _ _ _ _ _ Nn NK (hr.mono ⋯) ((¬2)∘((@aQ _ _ _ _ _ _ _ rfl (@bH _ _ _ _ _ ((@aV _ _ _ _ _ _ _ _ _ _ _ _ _ _ _ NQ OF (hr.mono ⋯) ((@aQ _ _ _ _ _ _ _ rfl (¬3) ag ↥4)∘ae) ∅ ⋯ ∅ ∅)∘((@aQ _ _ _ _ _ _ _ rfl (¬3) ag ↥4)∘ae))) (@aU _ _ _ _ _ _ _ _ _ (@b_int _ _) ∅ T.b_int ((¬4)∘ae) ⋯ ⋯ ∅ ∅) ↥4)∘ae)) ∅ ⋯ ∅ ∅) ∅ (by trivial))) ↥5) (@ao _ _ _ _ _ (@aO _ _ _ _ _ (¬2))))))
def eT:FT:=(aX (ax EW (af 3) (vC (.int 0))))
def hV:FS:=(aC (jo (ax ba (af 0) (af 3)) (a8 (aq (ah 4) (aq (ah 5) (aq (ah 6) aY))))) (aC (dm (cG bD (af 2) (ac (bo (ac (af 4) (ac (ax ba (af 1) (af 4)) am))) am))) (aN 3 (ax ba (cQ (ac (af 6) (ac (af 5) am))) (aF (g1 mR) (ac (ax ba (af 1) (af 4)) am))))))
def qh:FS:=(aC (aN 2 (cQ am)) (aC (aN 3 (ax bF (um ww (vC (.int 1))) (aF (g1 mR) (ac (ax Ca (aF (g1 ce) (ac (af 0) am)) (vC (.int 0))) am)))) (aC (fV (2^4200) eT hV) (bx (aF (g1 bf) (ac (af 2) am))))))
def et:FM:=gQ 2 5 ([2]++([3]++((([4]++([5]++([6]++[])))++([]++[3]))++[]))) qh
theorem pe:aH ["_law_tree","_law_answers","_law_run","_law_at","_law_tie","_law_yes","_law_no"] ["_law_tree","_law_answers"] (au fU):=⟨rfl,rfl,rfl,by decide+kernel,rfl,by decide+kernel,by decide+kernel⟩
theorem wY(h:eN K mg "_law_run_tree" fU f fd ["_law_tree","_law_answers"])(T:iw mg):bu P w K mg base fx 1 f fd ["_law_tree","_law_answers"] (fX K 2 et):=by have nd:=pe.nd;exact h.fn pe rfl rfl (λcdv A outer s H E hr=>(@aj _ _ _ _ _ _ _ _ (@az _ _ _ _ _ 2 _ _ nd rfl ↥3 (@bH _ _ _ _ _ ae) ∅ (by trivial)) (@aj _ _ _ _ _ _ _ _ (@az _ _ _ _ _ 3 _ _ nd rfl ↥3 (@bP _ _ _ _ _ _ _ rfl (@xj _ _ _ _ _ ag) (@aU _ _ _ _ _ _ _ _ _ (@b_int _ _) ∅ T.b_int ((@Do _ _ _ _ _ _ _ _ _ (@yc _ _) (@aU _ _ _ _ _ _ _ _ _ (@b_len _ _ rfl) ∅ T.b_len ((¬0)∘ae) ⋯ ⋯ ∅ ∅) ag (bg _))∘ae) ⋯ ⋯ ∅ ∅)) ∅ (by trivial)) (@aj _ _ _ _ _ _ _ _ (@jG _ _ _ _ _ _ _ _ _ Re (@bh _ _ _ _ _ _ _ _ _ (@Av _ _) (¬3) ag (bg _)) (@aj _ _ _ _ _ _ _ _ (@jm _ _ _ _ _ _ _ _ (@aQ _ _ _ _ _ _ _ rfl (¬0) (¬3) ↥4) (@cN _ _ _ _ _ _ _ _ rfl rfl (@aE _ _ _ _ _ _ _ _ (@av _ _ _ 4 _ nd rfl ↥3 (by trivial)) (@aE _ _ _ _ _ _ _ _ (@av _ _ _ 5 _ nd rfl ↥3 (by trivial)) (@aE _ _ _ _ _ _ _ _ (@av _ _ _ 6 _ nd rfl ↥3 (by trivial)) (@bU _ _) ∅) ∅) ∅) (aL (aL (aL cK))) ∅ ∅) ∅ ∅ ∅) (@aj _ _ _ _ _ _ _ _ (@dk _ _ _ _ _ (@dY _ _ _ _ _ _ _ _ _ rfl (¬2) ((@aM _ _ _ _ _ _ ((¬4)∘((@aQ _ _ _ _ _ _ _ rfl (¬1) (¬4) ↥4)∘ae)))∘ae) ∅ ∅ ∅ ∅ ∅) ∅) (@ao _ _ _ _ _ (@az _ _ _ _ _ 3 _ _ nd rfl ↥3 (@aQ _ _ _ _ _ _ _ rfl (@bH _ _ _ _ _ ((¬6)∘((¬5)∘ae))) (@aU _ _ _ _ _ _ _ _ _ (@b_int _ _) ∅ T.b_int ((@aQ _ _ _ _ _ _ _ rfl (¬1) (¬4) ↥4)∘ae) ⋯ ⋯ ∅ ∅) ↥4) ∅ (by trivial)))))) (@ao _ _ _ _ _ (@aO _ _ _ _ _ (@aU _ _ _ _ _ _ _ _ _ (@b_tuple _ _ rfl) ∅ T.b_tuple ((¬2)∘ae) ⋯ ⋯ ∅ ∅)))))))
def wz:FI:=(iE (af 1))
def vQ:FT:=(aX (af 2))
def mO:FE:=(ax ba (ax ba (ax ba (af 0) (vC (.int 1))) (af 1)) (vC (.int 3)))
def BK:FS:=(bx (aF (g1 (oY tK)) (ac (bj [(0,"_law_web_here")] 2 wz (a8 (aq (ah 1) (aq (ah 2) aY))) vQ mO) am)))
def k_:FM:=gQ 2 0 [] BK
theorem zT:aH ["_law_web_here","_law_run"] ["_law_web_here","_law_run"] (au oo):=⟨rfl,rfl,rfl,by decide+kernel,rfl,by decide+kernel,by decide+kernel⟩
theorem Ft(h:eN K mg "_law_kept" oo f fd ["_law_web_here","_law_run"])(T:iw mg):bu P w K mg base fx 1 f fd ["_law_web_here","_law_run"] (fX K 2 k_):=by have nd:=zT.nd;exact h.fn zT rfl rfl (λcdv A outer s H E hr=>(@ao _ _ _ _ _ (@aO _ _ _ _ _ (@aU _ _ _ _ _ _ _ _ _ (@b_sum _ _ _ rfl hr) ∅ T.b_sum ((@cy _ _ _ _ _ _ _ _ _ _ _ _ _ [(0,"_law_web_here")] ["_law_tie","_law_truth"] rfl rfl (@dH _ _ _ _ _ rfl (¬1)) (λC s0 H0 fp=>(@cN _ _ _ _ _ _ _ _ rfl rfl (@aE _ _ _ _ _ _ _ _ (@av _ _ _ 1 _ (show QO (["_law_web_here","_law_tie","_law_truth"]:List Str) by decide+kernel) rfl ↥3 (by trivial)) (@aE _ _ _ _ _ _ _ _ (@av _ _ _ 2 _ (show QO (["_law_web_here","_law_tie","_law_truth"]:List Str) by decide+kernel) rfl ↥3 (by trivial)) (@bU _ _) ∅) ∅) (aL (aL cK)) ∅ ∅)) (λC s0 H0 fp=>(@lN _ _ _ _ (@kc _ _ _ _ (¬2) ↥5))) (λC s0 H0 fp=>(@aQ _ _ _ _ _ _ _ rfl (@aQ _ _ _ _ _ _ _ rfl (@aQ _ _ _ _ _ _ _ rfl (¬0) ag ↥4) (¬1) ↥4) ag ↥4)) rfl ∅ ↥5)∘ae) ⋯ ⋯ ∅ ∅))))
def iD:FI:=(iE (bR 1 cv (ac (aF (g1 ce) (ac (ax ba (af 0) (vC (.int 1))) am)) am)))
def du:FS:=(aC (aN 4 (bo (ac (bR 2 k_ (ac (af 0) (ac (bR 2 et (ac (af 1) (ac (af 3) am))) am))) (ac (vC (.int 1)) am)))) (aN 2 (bR 2 mj (ac (af 2) (ac (bR 2 f9 (ac (bR 2 gG (ac (af 0) (ac (af 3) am))) (ac (af 4) am))) am)))))
def mG:FS:=(aC (aN 2 (bo (ac (vC (.int 0)) (ac (vC (.int 1)) am)))) (aC (cx ([3]++([4]++[2])) iD (ah 3) du) (bx (af 2))))
def cL:FM:=gQ 2 3 ([2]++(([3]++([4]++[2]))++[])) mG
theorem l9:aH ["_law_web_here","_law_tree","_law_total","_law_answers","_law_kept_here"] ["_law_web_here","_law_tree"] (au fj):=⟨rfl,rfl,rfl,by decide+kernel,rfl,by decide+kernel,by decide+kernel⟩
theorem sL(h:eN K mg "_law_tree_worth" fj f fd ["_law_web_here","_law_tree"])(T:iw mg)(zLall_answers:Cl P w K mg base "_law_all_answers" de ["_law_many"] 1 1 cv)(zLplus:Cl P w K mg base "_law_plus" oq ["_law_one","_law_other"] 3 2 mj)(zLkept:Cl P w K mg base "_law_kept" oo ["_law_web_here","_law_run"] 1 2 k_)(zLtimes:Cl P w K mg base "_law_times" ke ["_law_one","_law_other"] 3 2 f9)(zLrun_tree:Cl P w K mg base "_law_run_tree" fU ["_law_tree","_law_answers"] 1 2 et)(zLchance_of:Cl P w K mg base "_law_chance_of" gK ["_law_web_here","_law_answers"] 4 2 gG):bu P w K mg base fx 5 f fd ["_law_web_here","_law_tree"] (fX K 2 cL):=by obtain⟨N3,N4,M3,Nl⟩:=zLall_answers;obtain⟨Pn,Po,NR,OG⟩:=zLplus;obtain⟨Pp,Pq,NS,OH⟩:=zLkept;obtain⟨OD,OE,Nn,NK⟩:=zLtimes;obtain⟨Oq,Os,M',NF⟩:=zLrun_tree;obtain⟨OX,OY,Nm,Oe⟩:=zLchance_of;have nd:=l9.nd;exact h.fn l9 rfl rfl (λcdv A outer s H E hr=>(@aj _ _ _ _ _ _ _ _ (@az _ _ _ _ _ 2 _ _ nd rfl ↥3 (@aM _ _ _ _ _ _ (ag∘(ag∘ae))) ∅ (by trivial)) (@aj _ _ _ _ _ _ _ _ (@dI _ _ _ _ _ _ _ _ _ _ _ Re rfl (@dH _ _ _ _ _ rfl (@aV _ _ _ _ _ _ _ _ _ _ _ _ _ _ _ M3 Nl (hr.mono ⋯) ((@aU _ _ _ _ _ _ _ _ _ (@b_len _ _ rfl) ∅ T.b_len ((@aQ _ _ _ _ _ _ _ rfl (¬0) ag ↥4)∘ae) ⋯ ⋯ ∅ ∅)∘ae) ∅ ⋯ ∅ ∅)) (@av _ _ _ 3 _ nd rfl ↥3 (by trivial)) (@aj _ _ _ _ _ _ _ _ (@az _ _ _ _ _ 4 _ _ nd rfl ↥3 (@aM _ _ _ _ _ _ ((@aV _ _ _ _ _ _ _ _ _ _ _ _ _ _ _ NS OH (hr.mono ⋯) ((¬0)∘((@aV _ _ _ _ _ _ _ _ _ _ _ _ _ _ _ M' NF (hr.mono ⋯) ((¬1)∘((¬3)∘ae)) ∅ ⋯ ∅ ∅)∘ae)) ∅ ⋯ ∅ ∅)∘(ag∘ae))) ∅ (by trivial)) (@ao _ _ _ _ _ (@az _ _ _ _ _ 2 _ _ nd rfl ↥3 (@aV _ _ _ _ _ _ _ _ _ _ _ _ _ _ _ NR OG (hr.mono ⋯) ((¬2)∘((@aV _ _ _ _ _ _ _ _ _ _ _ _ _ _ _ Nn NK (hr.mono ⋯) ((@aV _ _ _ _ _ _ _ _ _ _ _ _ _ _ _ Nm Oe (hr.mono ⋯) ((¬0)∘((¬3)∘ae)) ∅ ⋯ ∅ ∅)∘((¬4)∘ae)) ∅ ⋯ ∅ ∅)∘ae)) ∅ ⋯ ∅ ∅) ∅ (by trivial)))) ↥5) (@ao _ _ _ _ _ (@aO _ _ _ _ _ (¬2))))))
def o6:FI:=(zu 4)
def iU:FE:=(aF (g1 bf) (ac (af 0) am))
def eH:FI:=(oZ (ac (af 4) am))
def dw:FT:=(aX (ax (eh false) (ax ba (ax ba (af 1) (ax ba (af 3) (vC (.int 0)))) (vC (.int 2))) (af 0)))
def gr:FE:=(af 2)
def i8:FI:=(oZ (ac (ax ba (af 1) (vC (.int 1))) am))
def eB:FS:=(aC (aN 7 (bR 1 br (ac (af 0) am))) (aC (aN 8 (ax ba (cQ (ac (ax ba (af 2) (vC (.int 0))) (ac (ax ba (af 2) (vC (.int 1))) (ac (ax ba (af 2) (vC (.int 0))) (ac (ax ba (af 6) (vC (.int 2))) am))))) (ax be (af 7) (vC (.int 4))))) (aC (dm (cG bD (af 3) (ac (ax bF (uk (af 6) fD (fg (vC (.int 2)))) (bo (ac (af 8) (ac (ax ba (af 6) (vC (.int 3))) am)))) am))) (aC (tX 4 (aN 9 (bj [(8,"_law_own"),(3,"_law_ties_here")] 2 eH (a8 (aq (ah 2) (aq (ah 3) aY))) dw gr))) (ky (lV (aX (ax (eh true) (af 9) (cQ am))) (aX (ax Ca (ax be (ax dj (af 7) (vC (.int 4))) (vC (.int 3))) (vC (.int 0))))) (dm (r8 4 (ax ba (af 9) (ax be (ax dj (af 7) (vC (.int 12))) (aF (g1 ce) (ac (af 9) am)))) (qU 5))) (dm (nL 4 (cQ (ac (af 5) am)))))))))
def kY:FI:=(cq (ac (vC (.int 2)) am))
def iV:FE:=(bR 2 dW (ac (bR 1 br (ac (af 0) am)) (ac (ax be (bR 1 br (ac (af 0) am)) (vC (.int 3))) am)))
def sU:FS:=(aC (aN 2 (bj [(0,"_law_drawn")] 1 kY (ah 1) a_ iV)) (aC (aN 3 (cQ am)) (aC (xx 4) (aC (cx (([5]++([6]++[]))++([7]++([8]++([]++([9]++([]++[])))))) i8 (a8 (aq (ah 5) (aq (ah 6) aY))) eB) (bx (bo (ac (bo (ac (ax ba (af 1) (vC (.int 0))) (ac (aF (g1 bf) (ac (af 3) am)) (ac (ax ba (af 1) (vC (.int 2))) (ac (ax ba (af 1) (vC (.int 3))) am))))) (ac (aF (g1 bf) (ac (bj [] 1 o6 (ah 0) a_ iU) am)) am))))))))
def eI:FM:=gQ 2 8 ([2]++([3]++([4]++((([5]++([6]++[]))++([7]++([8]++([]++([9]++([]++[]))))))++[])))) sU
theorem rR:aH ["_law_drawn","_law_web_here","_law_some","_law_ties_here","_law_groups","_law_tie","_law_row","_law_number","_law_own","_law_alike"] ["_law_drawn","_law_web_here"] (au jL):=⟨rfl,rfl,rfl,by decide+kernel,rfl,by decide+kernel,by decide+kernel⟩
theorem yD(h:eN K mg "_law_grouped" jL f fd ["_law_drawn","_law_web_here"])(T:iw mg)(zLchance:Cl P w K mg base "_law_chance" jK ["_law_number","_law_kind"] 3 2 dW)(zLnext:Cl P w K mg base "_law_next" kd ["_law_drawn"] 1 1 br):bu P w K mg base fx 4 f fd ["_law_drawn","_law_web_here"] (fX K 2 eI):=by obtain⟨OO,OP,Nq,NZ⟩:=zLchance;obtain⟨Oh,Oi,M0,M1⟩:=zLnext;have nd:=rR.nd;exact h.fn rR rfl rfl (λcdv A outer s H E hr=>(@aj _ _ _ _ _ _ _ _ (@mx _ _ _ (2) _ _ _ _ _ _ _ _ _ _ _ _ _ [(0,"_law_drawn")] ["_law_k"] rfl rfl (@bY _ _ _ _ _ _ _ rfl T.b_range (ag∘ae) ∅) (λC s0 H0 fp=>(@av _ _ _ 1 _ (show QO (["_law_drawn","_law_k"]:List Str) by decide+kernel) rfl ↥3 (by trivial))) (λC s0 H0 fp=>(@cO _ _)) (λC s0 H0 fp=>(@aV _ _ _ _ _ _ _ _ _ _ _ _ _ _ _ Nq NZ (hr.mono ⋯) ((@aV _ _ _ _ _ _ _ _ _ _ _ _ _ _ _ M0 M1 (hr.mono ⋯) ((¬0)∘ae) ∅ ⋯ ∅ ∅)∘((@bi _ _ _ _ _ _ _ (@aV _ _ _ _ _ _ _ _ _ _ _ _ _ _ _ M0 M1 (hr.mono ⋯) ((¬0)∘ae) ∅ ⋯ ∅ ∅) ag)∘ae)) ∅ ⋯ ∅ ∅)) rfl ∅ nd rfl rfl ∅ ↥5) (@aj _ _ _ _ _ _ _ _ (@az _ _ _ _ _ 3 _ _ nd rfl (Or.inr rfl) (@bH _ _ _ _ _ ae) ∅ (by trivial)) (@aj _ _ _ _ _ _ _ _ (@zO _ _ _ _ _ _ 4 nd rfl ↥3 ∅ (by trivial)) (@aj _ _ _ _ _ _ _ _ (@dI _ _ _ _ _ _ _ _ _ _ _ Re rfl (@rF _ _ _ _ _ _ _ _ _ rfl rfl T.b_enumerate ((@aQ _ _ _ _ _ _ _ rfl (¬1) ag ↥4)∘ae) ∅) (@cN _ _ _ _ _ _ _ _ rfl rfl (@aE _ _ _ _ _ _ _ _ (@av _ _ _ 5 _ nd rfl ↥3 (by trivial)) (@aE _ _ _ _ _ _ _ _ (@av _ _ _ 6 _ nd rfl ↥3 (by trivial)) (@bU _ _) ∅) ∅) (aL (aL cK)) ∅ ∅) (@aj _ _ _ _ _ _ _ _ (@az _ _ _ _ _ 7 _ _ nd rfl ↥3 (@aV _ _ _ _ _ _ _ _ _ _ _ _ _ _ _ M0 M1 (hr.mono ⋯) ((¬0)∘ae) ∅ ⋯ ∅ ∅) ∅ (by trivial)) (@aj _ _ _ _ _ _ _ _ (@az _ _ _ _ _ 8 _ _ nd rfl (Or.inr rfl) (@aQ _ _ _ _ _ _ _ rfl (@bH _ _ _ _ _ ((@aQ _ _ _ _ _ _ _ rfl (¬2) ag ↥4)∘((@aQ _ _ _ _ _ _ _ rfl (¬2) ag ↥4)∘((@aQ _ _ _ _ _ _ _ rfl (¬2) ag ↥4)∘((@aQ _ _ _ _ _ _ _ rfl (¬6) ag ↥4)∘ae))))) (@bi _ _ _ _ _ _ _ (¬7) ag) ↥4) ∅ (by trivial)) (@aj _ _ _ _ _ _ _ _ (@dk _ _ _ _ _ (@dY _ _ _ _ _ _ _ _ _ rfl (¬3) ((@bP _ _ _ _ _ _ _ rfl (@ja _ _ _ _ _ _ _ _ _ _ rfl (¬6) (@jb _ _) (@jc _ _ _ _ ag)) (@aM _ _ _ _ _ _ ((¬8)∘((@aQ _ _ _ _ _ _ _ rfl (¬6) ag ↥4)∘ae))))∘ae) ∅ ∅ ∅ ∅ ∅) ∅) (@aj _ _ _ _ _ _ _ _ (@Gj _ _ _ _ _ 4 ⋯ (@mx _ _ _ (9) _ _ _ _ _ _ _ _ _ _ _ _ _ [(8,"_law_own"),(3,"_law_ties_here")] ["_law_k","_law_group"] rfl rfl (@rF _ _ _ _ _ _ _ _ _ rfl rfl T.b_enumerate ((¬4)∘ae) ∅) (λC s0 H0 fp=>(@cN _ _ _ _ _ _ _ _ rfl rfl (@aE _ _ _ _ _ _ _ _ (@av _ _ _ 2 _ (show QO (["_law_own","_law_ties_here","_law_k","_law_group"]:List Str) by decide+kernel) rfl ↥3 (by trivial)) (@aE _ _ _ _ _ _ _ _ (@av _ _ _ 3 _ (show QO (["_law_own","_law_ties_here","_law_k","_law_group"]:List Str) by decide+kernel) rfl ↥3 (by trivial)) (@bU _ _) ∅) ∅) (aL (aL cK)) ∅ ∅)) (λC s0 H0 fp=>(@lN _ _ _ _ (@bh _ _ _ _ _ _ _ _ _ (@ya _ _ _ rfl hr) (@aQ _ _ _ _ _ _ _ rfl (@aQ _ _ _ _ _ _ _ rfl (¬1) (@aQ _ _ _ _ _ _ _ rfl (¬3) ag ↥4) ↥4) ag ↥4) (¬0) (bg _)))) (λC s0 H0 fp=>(¬2)) rfl ∅ nd rfl rfl ∅ ↥5)) (@ao _ _ _ _ _ (@eK _ _ _ _ _ _ _ _ _ _ _ (@yN _ _ _ _ (@rH _ _ _ _ _ _ _ _ (@bh _ _ _ _ _ _ _ _ _ (@ye _ _ _ rfl hr) (¬9) (@bH _ _ _ _ _ ae) (bg _)) (@pX _ _ _ _ _ (@bh _ _ _ _ _ _ _ _ _ (@yc _ _) (@bi _ _ _ _ _ _ _ (@fP _ _ _ _ _ _ _ (¬7) ag) ag) ag (bg _))))) (@ao _ _ _ _ _ (@dk _ _ _ _ _ (@Gf _ _ _ _ _ 4 _ _ _ _ _ _ rfl ∅ (by first|exact Or.inl rfl|exact Or.inr ↥3|exact Or.inr (Or.inr rfl)) ⋯ ⋯ (@aQ _ _ _ _ _ _ _ rfl (¬9) (@bi _ _ _ _ _ _ _ (@fP _ _ _ _ _ _ _ (¬7) ag) (@aU _ _ _ _ _ _ _ _ _ (@b_len _ _ rfl) ∅ T.b_len ((¬9)∘ae) ⋯ ⋯ ∅ ∅)) ↥4) ↥4 (@Ds _ _ _ _ 5 ∅ (by first|exact Or.inl rfl|exact Or.inr ↥3|exact Or.inr (Or.inr rfl)) ⋯ ⋯) ∅ ∅ ∅ ∅ ∅ ∅) ∅)) (@ao _ _ _ _ _ (@dk _ _ _ _ _ (@Dp _ _ _ _ _ _ 4 _ _ rfl ∅ (by first|exact Or.inl rfl|exact Or.inr ↥3|exact Or.inr (Or.inr rfl)) ⋯ ⋯ (@bH _ _ _ _ _ ((¬5)∘ae)) ∅ ∅ ∅ ∅ ∅ ∅) ∅)))))))) ↥5) (@ao _ _ _ _ _ (@aO _ _ _ _ _ (@aM _ _ _ _ _ _ ((@aM _ _ _ _ _ _ ((@aQ _ _ _ _ _ _ _ rfl (¬1) ag ↥4)∘((@aU _ _ _ _ _ _ _ _ _ (@b_tuple _ _ rfl) ∅ T.b_tuple ((¬3)∘ae) ⋯ ⋯ ∅ ∅)∘((@aQ _ _ _ _ _ _ _ rfl (¬1) ag ↥4)∘((@aQ _ _ _ _ _ _ _ rfl (¬1) ag ↥4)∘ae)))))∘((@aU _ _ _ _ _ _ _ _ _ (@b_tuple _ _ rfl) ∅ T.b_tuple ((@cy _ _ _ _ _ _ _ _ _ _ _ _ _ [] ["_law_group"] rfl rfl (@zN _ _ _ _ 4 _ rfl ∅ (by first|exact Or.inl rfl|exact Or.inr ↥3|exact Or.inr (Or.inr rfl)) ⋯ ⋯) (λC s0 H0 fp=>(@av _ _ _ 0 _ (show QO (["_law_group"]:List Str) by decide+kernel) rfl ↥3 (by trivial))) (λC s0 H0 fp=>(@cO _ _)) (λC s0 H0 fp=>(@aU _ _ _ _ _ _ _ _ _ (@b_tuple _ _ rfl) ∅ T.b_tuple ((¬0)∘ae) ⋯ ⋯ ∅ ∅)) rfl ∅ ↥5)∘ae) ⋯ ⋯ ∅ ∅)∘ae))))))))))
def h_:FI:=(oZ (ac (af 0) am))
def eS:FT:=(aX (ax (Cc false) (af 0) (af 2)))
def j3:FE:=(af 1)
def qg:FS:=(bx (ax ba (bj [(1,"_law_tie")] 2 h_ (a8 (aq (ah 1) (aq (ah 2) aY))) eS j3) (vC (.int 0))))
def iH:FM:=gQ 2 0 [] qg
theorem pd:aH ["_law_groups","_law_tie"] ["_law_groups","_law_tie"] (au iJ):=⟨rfl,rfl,rfl,by decide+kernel,rfl,by decide+kernel,by decide+kernel⟩
theorem wX(h:eN K mg "_law_group_of" iJ f fd ["_law_groups","_law_tie"])(T:iw mg):bu P w K mg base fx 1 f fd ["_law_groups","_law_tie"] (fX K 2 iH):=by have nd:=pd.nd;exact h.fn pd rfl rfl (λcdv A outer s H E hr=>(@ao _ _ _ _ _ (@aO _ _ _ _ _ (@aQ _ _ _ _ _ _ _ rfl (@cy _ _ _ _ _ _ _ _ _ _ _ _ _ [(1,"_law_tie")] ["_law_k","_law_group"] rfl rfl (@rF _ _ _ _ _ _ _ _ _ rfl rfl T.b_enumerate ((¬0)∘ae) ∅) (λC s0 H0 fp=>(@cN _ _ _ _ _ _ _ _ rfl rfl (@aE _ _ _ _ _ _ _ _ (@av _ _ _ 1 _ (show QO (["_law_tie","_law_k","_law_group"]:List Str) by decide+kernel) rfl ↥3 (by trivial)) (@aE _ _ _ _ _ _ _ _ (@av _ _ _ 2 _ (show QO (["_law_tie","_law_k","_law_group"]:List Str) by decide+kernel) rfl ↥3 (by trivial)) (@bU _ _) ∅) ∅) (aL (aL cK)) ∅ ∅)) (λC s0 H0 fp=>(@lN _ _ _ _ (@bh _ _ _ _ _ _ _ _ _ (@EE _ _ _ rfl hr) (¬0) (¬2) (by with_unfolding_all rfl)))) (λC s0 H0 fp=>(¬1)) rfl ∅ ↥5) ag ↥4))))
def gX:FI:=(cq (ac (aF (g1 ce) (ac (ax ba (af 0) (vC (.int 1))) am)) am))
def cU:FE:=(ax ba (af 0) (bR 2 iH (ac (af 1) (ac (af 2) am))))
def lY:FS:=(bx (aF (g1 bf) (ac (bj [(2,"_law_answers"),(1,"_law_groups")] 1 gX (ah 2) a_ cU) am)))
def dX:FM:=gQ 3 0 [] lY
theorem lg:aH ["_law_web_here","_law_groups","_law_answers"] ["_law_web_here","_law_groups","_law_answers"] (au dZ):=⟨rfl,rfl,rfl,by decide+kernel,rfl,by decide+kernel,by decide+kernel⟩
theorem q_(h:eN K mg "_law_tie_answers" dZ f fd ["_law_web_here","_law_groups","_law_answers"])(T:iw mg)(zLgroup_of:Cl P w K mg base "_law_group_of" iJ ["_law_groups","_law_tie"] 1 2 iH):bu P w K mg base fx 2 f fd ["_law_web_here","_law_groups","_law_answers"] (fX K 3 dX):=by obtain⟨O6,O7,Nr,Ot⟩:=zLgroup_of;have nd:=lg.nd;exact h.fn lg rfl rfl (λcdv A outer s H E hr=>(@ao _ _ _ _ _ (@aO _ _ _ _ _ (@aU _ _ _ _ _ _ _ _ _ (@b_tuple _ _ rfl) ∅ T.b_tuple ((@cy _ _ _ _ _ _ _ _ _ _ _ _ _ [(2,"_law_answers"),(1,"_law_groups")] ["_law_tie"] rfl rfl (@bY _ _ _ _ _ _ _ rfl T.b_range ((@aU _ _ _ _ _ _ _ _ _ (@b_len _ _ rfl) ∅ T.b_len ((@aQ _ _ _ _ _ _ _ rfl (¬0) ag ↥4)∘ae) ⋯ ⋯ ∅ ∅)∘ae) ∅) (λC s0 H0 fp=>(@av _ _ _ 2 _ (show QO (["_law_answers","_law_groups","_law_tie"]:List Str) by decide+kernel) rfl ↥3 (by trivial))) (λC s0 H0 fp=>(@cO _ _)) (λC s0 H0 fp=>(@aQ _ _ _ _ _ _ _ rfl (¬0) (@aV _ _ _ _ _ _ _ _ _ _ _ _ _ _ _ Nr Ot (hr.mono ⋯) ((¬1)∘((¬2)∘ae)) ∅ ⋯ ∅ ∅) ↥4)) rfl ∅ ↥5)∘ae) ⋯ ⋯ ∅ ∅))))
def mU:FI:=(tM (ac (af 1) (ac (af 4) am)))
def dM:FS:=(aC (aN 8 (ax ba (ax ba (ax ba (af 0) (vC (.int 1))) (ax ba (af 6) (vC (.int 0)))) (vC (.int 2)))) (aN 5 (bR 2 f9 (ac (af 5) (ac (ax ba (cQ (ac (bR 1 ml (ac (af 8) am)) (ac (af 8) am))) (aF (g1 mR) (ac (af 7) am))) am)))))
def j8:FI:=(iE (bR 1 cv (ac (aF (g1 ce) (ac (af 1) am)) am)))
def eQ:FS:=(aC (aN 5 (bo (ac (bR 2 k_ (ac (af 0) (ac (bR 2 et (ac (af 2) (ac (bR 3 dX (ac (af 0) (ac (af 1) (ac (af 4) am)))) am))) am))) (ac (vC (.int 1)) am)))) (aC (cx (([6]++([7]++[]))++([8]++[5])) mU (a8 (aq (ah 6) (aq (ah 7) aY))) dM) (aN 3 (bR 2 mj (ac (af 3) (ac (af 5) am))))))
def qi:FS:=(aC (aN 3 (bo (ac (vC (.int 0)) (ac (vC (.int 1)) am)))) (aC (cx ([4]++([5]++((([6]++([7]++[]))++([8]++[5]))++[3]))) j8 (ah 4) eQ) (bx (af 3))))
def dD:FM:=gQ 3 6 ([3]++(([4]++([5]++((([6]++([7]++[]))++([8]++[5]))++[3])))++[])) qi
theorem ph:aH ["_law_web_here","_law_groups","_law_tree","_law_total","_law_answers","_law_part","_law_group","_law_truth","_law_chance_here"] ["_law_web_here","_law_groups","_law_tree"] (au iK):=⟨rfl,rfl,rfl,by decide+kernel,rfl,by decide+kernel,by decide+kernel⟩
theorem wZ(h:eN K mg "_law_together" iK f fd ["_law_web_here","_law_groups","_law_tree"])(T:iw mg)(zLall_answers:Cl P w K mg base "_law_all_answers" de ["_law_many"] 1 1 cv)(zLplus:Cl P w K mg base "_law_plus" oq ["_law_one","_law_other"] 3 2 mj)(zLkept:Cl P w K mg base "_law_kept" oo ["_law_web_here","_law_run"] 1 2 k_)(zLtimes:Cl P w K mg base "_law_times" ke ["_law_one","_law_other"] 3 2 f9)(zLrun_tree:Cl P w K mg base "_law_run_tree" fU ["_law_tree","_law_answers"] 1 2 et)(zLtie_answers:Cl P w K mg base "_law_tie_answers" dZ ["_law_web_here","_law_groups","_law_answers"] 2 3 dX)(zLrest:Cl P w K mg base "_law_rest" ou ["_law_one"] 1 1 ml):bu P w K mg base fx 4 f fd ["_law_web_here","_law_groups","_law_tree"] (fX K 3 dD):=by obtain⟨N3,N4,M3,Nl⟩:=zLall_answers;obtain⟨Pn,Po,NR,OG⟩:=zLplus;obtain⟨Pp,Pq,NS,OH⟩:=zLkept;obtain⟨OD,OE,Nn,NK⟩:=zLtimes;obtain⟨Oq,Os,M',NF⟩:=zLrun_tree;obtain⟨OR,OS,M_,N5⟩:=zLtie_answers;obtain⟨Pl,Pm,NQ,OF⟩:=zLrest;have nd:=ph.nd;exact h.fn ph rfl rfl (λcdv A outer s H E hr=>(@aj _ _ _ _ _ _ _ _ (@az _ _ _ _ _ 3 _ _ nd rfl ↥3 (@aM _ _ _ _ _ _ (ag∘(ag∘ae))) ∅ (by trivial)) (@aj _ _ _ _ _ _ _ _ (@dI _ _ _ _ _ _ _ _ _ _ _ Re rfl (@dH _ _ _ _ _ rfl (@aV _ _ _ _ _ _ _ _ _ _ _ _ _ _ _ M3 Nl (hr.mono ⋯) ((@aU _ _ _ _ _ _ _ _ _ (@b_len _ _ rfl) ∅ T.b_len ((¬1)∘ae) ⋯ ⋯ ∅ ∅)∘ae) ∅ ⋯ ∅ ∅)) (@av _ _ _ 4 _ nd rfl ↥3 (by trivial)) (@aj _ _ _ _ _ _ _ _ (@az _ _ _ _ _ 5 _ _ nd rfl ↥3 (@aM _ _ _ _ _ _ ((@aV _ _ _ _ _ _ _ _ _ _ _ _ _ _ _ NS OH (hr.mono ⋯) ((¬0)∘((@aV _ _ _ _ _ _ _ _ _ _ _ _ _ _ _ M' NF (hr.mono ⋯) ((¬2)∘((@aV _ _ _ _ _ _ _ _ _ _ _ _ _ _ _ M_ N5 (hr.mono ⋯) ((¬0)∘((¬1)∘((¬4)∘ae))) ∅ ⋯ ∅ ∅)∘ae)) ∅ ⋯ ∅ ∅)∘ae)) ∅ ⋯ ∅ ∅)∘(ag∘ae))) ∅ (by trivial)) (@aj _ _ _ _ _ _ _ _ (@dI _ _ _ _ _ _ _ _ _ _ _ Re rfl (@rG _ _ _ _ _ _ _ _ _ _ rfl rfl T.b_zip ((¬1)∘((¬4)∘ae)) ∅ ∅) (@cN _ _ _ _ _ _ _ _ rfl rfl (@aE _ _ _ _ _ _ _ _ (@av _ _ _ 6 _ nd rfl ↥3 (by trivial)) (@aE _ _ _ _ _ _ _ _ (@av _ _ _ 7 _ nd rfl ↥3 (by trivial)) (@bU _ _) ∅) ∅) (aL (aL cK)) ∅ ∅) (@aj _ _ _ _ _ _ _ _ (@az _ _ _ _ _ 8 _ _ nd rfl ↥3 (@aQ _ _ _ _ _ _ _ rfl (@aQ _ _ _ _ _ _ _ rfl (@aQ _ _ _ _ _ _ _ rfl (¬0) ag ↥4) (@aQ _ _ _ _ _ _ _ rfl (¬6) ag ↥4) ↥4) ag ↥4) ∅ (by trivial)) (@ao _ _ _ _ _ (@az _ _ _ _ _ 5 _ _ nd rfl ↥3 (@aV _ _ _ _ _ _ _ _ _ _ _ _ _ _ _ Nn NK (hr.mono ⋯) ((¬5)∘((@aQ _ _ _ _ _ _ _ rfl (@bH _ _ _ _ _ ((@aV _ _ _ _ _ _ _ _ _ _ _ _ _ _ _ NQ OF (hr.mono ⋯) ((¬8)∘ae) ∅ ⋯ ∅ ∅)∘((¬8)∘ae))) (@aU _ _ _ _ _ _ _ _ _ (@b_int _ _) ∅ T.b_int ((¬7)∘ae) ⋯ ⋯ ∅ ∅) ↥4)∘ae)) ∅ ⋯ ∅ ∅) ∅ (by trivial)))) ↥5) (@ao _ _ _ _ _ (@az _ _ _ _ _ 3 _ _ nd rfl ↥3 (@aV _ _ _ _ _ _ _ _ _ _ _ _ _ _ _ NR OG (hr.mono ⋯) ((¬3)∘((¬5)∘ae)) ∅ ⋯ ∅ ∅) ∅ (by trivial))))) ↥5) (@ao _ _ _ _ _ (@aO _ _ _ _ _ (¬3))))))
theorem rS:aH ["_law_kept_here","_law_found"] ["_law_kept_here"] (au jM):=⟨rfl,rfl,rfl,by decide+kernel,rfl,by decide+kernel,by decide+kernel⟩
theorem yE(h:eN K mg "_law_refusal" jM f fd ["_law_kept_here"])(T:iw mg){C:Qe}(Z:vK K C){c_PairsError:Qe}(m_PairsError:mg "PairsError"=some (.ref c_PairsError))(k_PairsError:Sa K (.ref C) (.ref c_PairsError)=some true)(k_ValueError:Sa K (.ref C) (.type "ValueError")=some true){c_TooMany:Qe}(m_TooMany:mg "TooMany"=some (.ref c_TooMany))(k_TooMany:Sa K (.ref C) (.ref c_TooMany)=some true){c_NoRise:Qe}(m_NoRise:mg "NoRise"=some (.ref c_NoRise))(k_NoRise:Sa K (.ref C) (.ref c_NoRise)=some false){c_NotTwoSided:Qe}(m_NotTwoSided:mg "NotTwoSided"=some (.ref c_NotTwoSided))(k_NotTwoSided:Sa K (.ref C) (.ref c_NotTwoSided)=some false){c_NoText:Qe}(m_NoText:mg "NoText"=some (.ref c_NoText))(k_NoText:Sa K (.ref C) (.ref c_NoText)=some false):bu P w K mg base fx 1 f fd ["_law_kept_here"] (L4 C [true,true,true,false,false,false]):=by have nd:=rS.nd;refine h.F.ok rS (λvs H Q E q=>by obtain⟨a,rfl,_⟩:=q;rfl) λcdv A outer s H vs Q E hr hsp=>⟨_,nc (rC (i:=1) nd rfl ↥3 (rA (bO (oi Z rfl T.b_isinstance Ui (pv 0) (lL (v:=V.ref c_PairsError) rfl m_PairsError rfl) (λ_ r=>r) k_PairsError) (bO (oi Z rfl T.b_isinstance Ui (pv 0) (C_ (T:="ValueError") rfl T.b_ValueError ↥2 ⋯ ⋯) (λ_ r=>r) k_ValueError) (bO (oi Z rfl T.b_isinstance Ui (pv 0) (lL (v:=V.ref c_TooMany) rfl m_TooMany rfl) (λ_ r=>r) k_TooMany) g_ rfl) rfl) rfl)) rfl (.inl rfl)) (ng (yK (C8 CZ (pv 1) (rA (bO (oi Z rfl T.b_isinstance Ui (pv 0) (lL (v:=V.ref c_NoRise) rfl m_NoRise rfl) (λ_ r=>r) k_NoRise) (bO (oi Z rfl T.b_isinstance Ui (pv 0) (lL (v:=V.ref c_NotTwoSided) rfl m_NotTwoSided rfl) (λ_ r=>r) k_NotTwoSided) (bO (oi Z rfl T.b_isinstance Ui (pv 0) (lL (v:=V.ref c_NoText) rfl m_NoText rfl) (λ_ r=>r) k_NoText) g_ rfl) rfl) rfl))))),?_⟩;obtain⟨a,rfl,ha,q⟩:=hsp;exact Gp ha q
def lJ:FM:=JH 3 4 fL
theorem rT:aH ["_law_web_here","_law_groups","_law_tree","_law_kept_here","error"] ["_law_web_here","_law_groups","_law_tree"] (au jN):=⟨rfl,rfl,rfl,by decide+kernel,rfl,by decide+kernel,by decide+kernel⟩
theorem yF(h:eN K mg "_law_refused" jN f fd ["_law_web_here","_law_groups","_law_tree"])(T:iw mg){C Cb:Qe}{M7:Qe}{M8:QJ}(MX:eN K mg "together_worth" bK M7 M8 ["web","groups","tree"])(R_together_worth:bu P w K mg base (p9 P w C) 5 M7 M8 ["web","groups","tree"] (Et K 3 4 fL)){N':Qe}{Oa:QJ}(Nj:eN K mg "_law_refusal" jM N' Oa ["_law_kept_here"])(NL:bu P w K mg base fx 1 N' Oa ["_law_kept_here"] (L4 C [true,true,true,false,false,false]))(m_PairsError:mg "PairsError"=some (.ref Cb))(hex:W.exmOne K (.ref C) (.ref Cb)=some true):bu P w K mg base fx 6 f fd ["_law_web_here","_law_groups","_law_tree"] (fX K 3 lJ):=by have nd:=rT.nd;refine h.F.ok rT (λvs H Q E q=>q.1) λcdv A outer s H vs Q E hr hsp=>⟨_,nc (rC (i:=3) nd rfl ↥3 IH rfl (.inl rfl)) (nc (Dj (i:=3) (j:=4) rfl rfl R_together_worth (hr.mono ⋯) rfl MX.m MX.F.kp MX.b (bO (pv 0) (bO (pv 1) (bO (pv 2) g_ rfl) rfl) rfl) rfl m_PairsError hex nd rfl rfl rfl rfl ⋯) (ng (yK (zH (C0 hr) (zG NL (hr.mono ⋯) rfl Nj.m Nj.F.kp Nj.b .nil Hg (bO (pv 3) g_ rfl)) (rA (bO rk (bO rk (bO rk (bO rk (bO rk (bO rk g_ rfl) rfl) rfl) rfl) rfl) rfl)) (bg _))))),?_⟩;obtain⟨v0,v1,v2,rfl⟩:∃v0 v1 v2,vs=[v0,v1,v2]:=match vs,hsp.1 with|[v0,v1,v2],_=>⟨_,_,_,rfl⟩;refine⟨v0,rfl,v1,rfl,v2,rfl,D1 hsp,λa H' kp hn=>?_⟩;exact Gn rfl aw ⋯ (λH Q q=>q) λH2 k2=>HM hsp λc o e=>k2 c o (qM hn c o (kp c o e))
def pV:FI:=(cq (ac (vC (.int 8)) am))
def iT:FE:=(GR (ac (af 1) (ac (aF (g1 ce) (ac (af 0) am)) (ac (vC (.int 8)) am))))
def mT:FI:=(iE (ax ba (af 2) (vC (.int 1))))
def j2:FE:=(ax bF (uk (af 1) fD (fg (vC (.int 2)))) (bo (ac (af 0) (ac (ax ba (af 1) (vC (.int 3))) am))))
def BJ:FS:=(aC (jo (bR 2 eI (ac (af 0) (ac (af 1) am))) (a8 (aq (ah 2) (aq (ah 3) aY)))) (aC (ky (aX (ax Ca (aF (g1 ce) (ac (af 3) am)) (vC (.int 8)))) (aC (aN 4 (ax ba (ax ba (ax ba (af 2) (vC (.int 1))) (vC (.int 0))) (vC (.int 2)))) (aC (aN 5 (aF (g1 bf) (ac (bj [(4,"_law_chance_here")] 1 mT (ah 1) a_ j2) am))) (aC (aN 2 (bo (ac (ax ba (af 2) (vC (.int 0))) (ac (af 5) (ac (ax ba (af 2) (vC (.int 2))) (ac (ax ba (af 2) (vC (.int 3))) am)))))) (aN 3 (aF (g1 bf) (ac (bj [(5,"_law_ties_here")] 1 pV (ah 1) a_ iT) am)))))) eM) (bx (bo (ac (af 2) (ac (af 3) am))))))
def o_:FM:=gQ 2 4 (([2]++([3]++[]))++((([4]++([5]++([2]++[3])))++[])++[])) BJ
theorem DO:aH ["_law_drawn","_law_given","_law_web_here","_law_groups","_law_chance_here","_law_ties_here"] ["_law_drawn","_law_given"] (au xq):=⟨rfl,rfl,rfl,by decide+kernel,rfl,by decide+kernel,by decide+kernel⟩
theorem Iq(h:eN K mg "_law_few" xq f fd ["_law_drawn","_law_given"])(T:iw mg)(zLgrouped:Cl P w K mg base "_law_grouped" jL ["_law_drawn","_law_web_here"] 4 2 eI):bu P w K mg base fx 5 f fd ["_law_drawn","_law_given"] (fX K 2 o_):=by obtain⟨Pr,Pt,ND,OI⟩:=zLgrouped;have nd:=DO.nd;exact h.fn DO rfl rfl (λcdv A outer s H E hr=>(@aj _ _ _ _ _ _ _ _ (@jm _ _ _ _ _ _ _ _ (@aV _ _ _ _ _ _ _ _ _ _ _ _ _ _ _ ND OI (hr.mono ⋯) ((¬0)∘((¬1)∘ae)) ∅ ⋯ ∅ ∅) (@cN _ _ _ _ _ _ _ _ rfl rfl (@aE _ _ _ _ _ _ _ _ (@av _ _ _ 2 _ nd rfl ↥3 (by trivial)) (@aE _ _ _ _ _ _ _ _ (@av _ _ _ 3 _ nd rfl ↥3 (by trivial)) (@bU _ _) ∅) ∅) (aL (aL cK)) ∅ ∅) ∅ ∅ ∅) (@aj _ _ _ _ _ _ _ _ (@eK _ _ _ _ _ _ _ _ _ _ _ (@bh _ _ _ _ _ _ _ _ _ (@yc _ _) (@aU _ _ _ _ _ _ _ _ _ (@b_len _ _ rfl) ∅ T.b_len ((¬3)∘ae) ⋯ ⋯ ∅ ∅) ag (bg _)) (@aj _ _ _ _ _ _ _ _ (@az _ _ _ _ _ 4 _ _ nd rfl (Or.inr rfl) (@aQ _ _ _ _ _ _ _ rfl (@aQ _ _ _ _ _ _ _ rfl (@aQ _ _ _ _ _ _ _ rfl (¬2) ag ↥4) ag ↥4) ag ↥4) ∅ (by trivial)) (@aj _ _ _ _ _ _ _ _ (@az _ _ _ _ _ 5 _ _ nd rfl (Or.inr rfl) (@aU _ _ _ _ _ _ _ _ _ (@b_tuple _ _ rfl) ∅ T.b_tuple ((@cy _ _ _ _ _ _ _ _ _ _ _ _ _ [(4,"_law_chance_here")] ["_law_row"] rfl rfl (@dH _ _ _ _ _ rfl (@aQ _ _ _ _ _ _ _ rfl (¬2) ag ↥4)) (λC s0 H0 fp=>(@av _ _ _ 1 _ (show QO (["_law_chance_here","_law_row"]:List Str) by decide+kernel) rfl ↥3 (by trivial))) (λC s0 H0 fp=>(@cO _ _)) (λC s0 H0 fp=>(@bP _ _ _ _ _ _ _ rfl (@ja _ _ _ _ _ _ _ _ _ _ rfl (¬1) (@jb _ _) (@jc _ _ _ _ ag)) (@aM _ _ _ _ _ _ ((¬0)∘((@aQ _ _ _ _ _ _ _ rfl (¬1) ag ↥4)∘ae))))) rfl ∅ ↥5)∘ae) ⋯ ⋯ ∅ ∅) ∅ (by trivial)) (@aj _ _ _ _ _ _ _ _ (@az _ _ _ _ _ 2 _ _ nd rfl ↥3 (@aM _ _ _ _ _ _ ((@aQ _ _ _ _ _ _ _ rfl (¬2) ag ↥4)∘((¬5)∘((@aQ _ _ _ _ _ _ _ rfl (¬2) ag ↥4)∘((@aQ _ _ _ _ _ _ _ rfl (¬2) ag ↥4)∘ae))))) ∅ (by trivial)) (@ao _ _ _ _ _ (@az _ _ _ _ _ 3 _ _ nd rfl ↥3 (@aU _ _ _ _ _ _ _ _ _ (@b_tuple _ _ rfl) ∅ T.b_tuple ((@cy _ _ _ _ _ _ _ _ _ _ _ _ _ [(5,"_law_ties_here")] ["_law_k"] rfl rfl (@bY _ _ _ _ _ _ _ rfl T.b_range (ag∘ae) ∅) (λC s0 H0 fp=>(@av _ _ _ 1 _ (show QO (["_law_ties_here","_law_k"]:List Str) by decide+kernel) rfl ↥3 (by trivial))) (λC s0 H0 fp=>(@cO _ _)) (λC s0 H0 fp=>(@Kv _ _ _ _ _ _ _ _ _ _ rfl rfl rfl T.b_tuple rfl T.b_range ((¬1)∘((@aU _ _ _ _ _ _ _ _ _ (@b_len _ _ rfl) ∅ T.b_len ((¬0)∘ae) ⋯ ⋯ ∅ ∅)∘(ag∘ae))) ∅ ∅ ∅ ∅)) rfl ∅ ↥5)∘ae) ⋯ ⋯ ∅ ∅) ∅ (by trivial)))))) (@bV _ _)) (@ao _ _ _ _ _ (@aO _ _ _ _ _ (@aM _ _ _ _ _ _ ((¬2)∘((¬3)∘ae))))))))
def Mm:FI:=(cq (ac (af 14) am))
def JV:FE:=(bo (ac (af 0) am))
def LH:FI:=(iE (af 8))
def JR:FS:=(aC (aN 10 (bo (ac (vC (.int 0)) (ac (vC (.int 1)) am)))) (aC (ky (aX (ax Cd (aF (g1 ce) (ac (af 9) am)) (vC (.int 7)))) (aN 10 (bR 2 cL (ac (af 4) (ac (af 6) am)))) eM) (ky (lV (aX (ax Cd (aF (g1 ce) (ac (af 9) am)) (vC (.int 7)))) (nM (aX (bR 2 j' (ac (bR 3 a9 (ac (af 4) (ac (af 9) (ac (af 6) am)))) (ac (af 10) am)))))) (bx (vC (.bool false))) eM)))
def Mn:FI:=(cq (ac (aF (g1 ce) (ac (ax ba (af 4) (vC (.int 1))) am)) am))
def JW:FE:=(bo (ac (af 0) am))
def LI:FI:=(iE (af 8))
def La:FS:=(ky (nM (aX (bR 2 j' (ac (bR 3 a9 (ac (af 4) (ac (af 5) (ac (af 6) am)))) (ac (bR 3 dD (ac (af 4) (ac (af 5) (ac (af 6) am)))) am))))) (bx (vC (.bool false))) eM)
def LJ:FI:=(iE (cQ (ac (vC (.int 6)) (ac (vC (.int 4)) (ac (ax ba (cQ (ac (vC (.int 5)) (ac (vC (.int 10)) am))) (ax dj (ax be (bR 1 br (ac (af 1) am)) (vC (.int 8))) (vC (.int 7)))) am)))))
def BI:FS:=(aC (jo (bR 2 o_ (ac (af 1) (ac (bR 3 tS (ac (af 1) (ac (vC (.int 8)) (ac (af 7) am)))) am))) (a8 (aq (ah 4) (aq (ah 5) aY)))) (aC (aN 8 (cQ (ac (bR 3 e_ (ac (af 1) (ac (af 4) (ac (vC (.int 30)) am)))) (ac (bo am) (ac (bR 3 e_ (ac (af 1) (ac (af 4) (ac (vC (.int 3)) am)))) (ac (bR 3 e_ (ac (af 1) (ac (af 4) (ac (vC (.int 8)) am)))) am)))))) (aC (cx ([6]++([]++[])) LI (ah 6) La) (aC (aN 9 (aF (g1 bf) (ac (bj [] 1 Mn (ah 0) a_ JW) am))) (cx ([6]++([10]++(([10]++[])++([]++[])))) LH (ah 6) JR)))))
def G7:FS:=(aC (aN 1 (bR 1 mY (ac (af 0) am))) (aC (aN 2 (ax bF (vC (.int 2)) (ax be (bR 1 br (ac (af 1) am)) (vC (.int 7))))) (aC (aN 3 (bR 3 mn (ac (af 1) (ac (af 2) (ac (ax bF (vC (.int 11)) (ax be (bR 1 br (ac (af 1) am)) (vC (.int 6)))) am))))) (aC (jo (bR 2 o_ (ac (af 1) (ac (bo (ac (af 2) (ac (af 3) (ac (uk (bo (ac (vC (.int 20)) (ac (vC (.int 3)) (ac (vC (.int 2)) (ac (vC (.int 20)) (ac (vC (.int 1)) (ac (vC (.int 20)) (ac (vC (.int 4)) (ac (vC (.int 20)) am))))))))) fD (fg (af 2))) (ac (ax bF (vC (.int 1)) (ax be (bR 1 br (ac (af 1) am)) (vC (.int 40)))) am))))) am))) (a8 (aq (ah 4) (aq (ah 5) aY)))) (aC (aN 6 (bR 3 e_ (ac (af 1) (ac (af 4) (ac (vC (.int 20)) am))))) (aC (ky (nM (aX (bR 2 j' (ac (bR 3 a9 (ac (af 4) (ac (af 5) (ac (af 6) am)))) (ac (bR 3 dD (ac (af 4) (ac (af 5) (ac (af 6) am)))) am))))) (bx (vC (.bool false))) eM) (aC (cx ([7]++(([4]++([5]++[]))++([8]++(([6]++([]++[]))++([9]++([6]++([10]++(([10]++[])++([]++[]))))))))) LJ (ah 7) BI) (aC (jo (bR 3 tS (ac (af 1) (ac (vC (.int 6)) (ac (vC (.int 8)) am)))) (a8 (aq (ah 2) (aq (ah 11) (aq (ah 12) (aq (ah 13) aY)))))) (aC (aN 14 (ax bF (vC (.int 9)) (ax be (bR 1 br (ac (af 1) am)) (vC (.int 8))))) (aC (aN 3 (uk (ax bF (af 11) (ax dz (bo (ac (bo (ac (vC (.int 0)) (ac (vC (.int 1)) (ac (bo (ac (vC (.int 1)) (ac (vC (.int 2)) am))) (ac (vC (.int 3)) am))))) am)) (af 14))) fD (fg (af 14)))) (aC (aN 15 (bo (ac (aF (g2 wo) (ac (af 2) (ac (vC (.int 2)) am))) (ac (af 3) (ac (uk (ax bF (af 12) (bo (ac (vC (.int 4)) (ac (vC (.int 4)) am)))) fD (fg (aF (g2 wo) (ac (af 2) (ac (vC (.int 2)) am))))) (ac (af 13) am)))))) (bx (bR 3 lJ (ac (af 15) (ac (aF (g1 bf) (ac (bj [] 1 Mm (ah 0) a_ JV) am)) (ac (bo am) am))))))))))))))))
def qS:FM:=gQ 1 15 ([1]++([2]++([3]++(([4]++([5]++[]))++([6]++(([]++[])++(([7]++(([4]++([5]++[]))++([8]++(([6]++([]++[]))++([9]++([6]++([10]++(([10]++[])++([]++[])))))))))++(([2]++([11]++([12]++([13]++[]))))++([14]++([3]++([15]++[]))))))))))) G7
theorem DV:aH ["_law_script","_law_drawn","_law_things","_law_rows","_law_web_here","_law_groups","_law_tree","_law_most","_law_trees","_law_alone","_law_due","_law_ties_here","_law_patience","_law_asks","_law_many","_law_wide"] ["_law_script"] (au rO):=⟨rfl,rfl,rfl,by decide+kernel,rfl,by decide+kernel,by decide+kernel⟩
theorem Iz(h:eN K mg "law" rO f fd ["_law_script"])(T:iw mg)(zLdraws:Cl P w K mg base "_law_draws" nj ["_law_script"] 2 1 mY)(zLties:Cl P w K mg base "_law_ties" ox ["_law_drawn","_law_things","_law_many"] 4 3 mn)(zLfew:Cl P w K mg base "_law_few" xq ["_law_drawn","_law_given"] 5 2 o_)(zLgrown:Cl P w K mg base "_law_grown" nq ["_law_drawn","_law_web_here","_law_most"] 4 3 e_)(zLweb:Cl P w K mg base "_law_web" xu ["_law_drawn","_law_most","_law_ties_here"] 5 3 tS)(zLrefused:Cl P w K mg base "_law_refused" jN ["_law_web_here","_law_groups","_law_tree"] 6 3 lJ)(zLsame:Cl P w K mg base "_law_same" rM ["_law_found","_law_due"] 1 2 j')(zLnext:Cl P w K mg base "_law_next" kd ["_law_drawn"] 1 1 br)(z_together_worth:Cl P w K mg base "together_worth" bK ["web","groups","tree"] 5 3 a9)(zLtogether:Cl P w K mg base "_law_together" iK ["_law_web_here","_law_groups","_law_tree"] 4 3 dD)(zLtree_worth:Cl P w K mg base "_law_tree_worth" fj ["_law_web_here","_law_tree"] 5 2 cL):bu P w K mg base fx 7 f fd ["_law_script"] (fX K 1 qS):=by obtain⟨PK,PL,N6,OZ⟩:=zLdraws;obtain⟨Pe,Pf,NP,OA⟩:=zLties;obtain⟨P3,P4,OJ,Pu⟩:=zLfew;obtain⟨PM,PN,Nu,N7⟩:=zLgrown;obtain⟨P5,P6,OK,Pv⟩:=zLweb;obtain⟨Pw,Px,NE,OL⟩:=zLrefused;obtain⟨PU,PV,NT,OM⟩:=zLsame;obtain⟨Oh,Oi,M0,M1⟩:=zLnext;obtain⟨M7,M8,MX,M9⟩:=z_together_worth;obtain⟨O8,O9,Nk,NU⟩:=zLtogether;obtain⟨OU,OV,Nf,Ob⟩:=zLtree_worth;have nd:=DV.nd;exact h.fn DV rfl rfl (λcdv A outer s H E hr=>(@aj _ _ _ _ _ _ _ _ (@az _ _ _ _ _ 1 _ _ nd rfl ↥3 (@aV _ _ _ _ _ _ _ _ _ _ _ _ _ _ _ N6 OZ (hr.mono ⋯) ((¬0)∘ae) ∅ ⋯ ∅ ∅) ∅ (by trivial)) (@aj _ _ _ _ _ _ _ _ (@az _ _ _ _ _ 2 _ _ nd rfl ↥3 (@bP _ _ _ _ _ _ _ rfl ag (@bi _ _ _ _ _ _ _ (@aV _ _ _ _ _ _ _ _ _ _ _ _ _ _ _ M0 M1 (hr.mono ⋯) ((¬1)∘ae) ∅ ⋯ ∅ ∅) ag)) ∅ (by trivial)) (@aj _ _ _ _ _ _ _ _ (@az _ _ _ _ _ 3 _ _ nd rfl ↥3 (@aV _ _ _ _ _ _ _ _ _ _ _ _ _ _ _ NP OA (hr.mono ⋯) ((¬1)∘((¬2)∘((@bP _ _ _ _ _ _ _ rfl ag (@bi _ _ _ _ _ _ _ (@aV _ _ _ _ _ _ _ _ _ _ _ _ _ _ _ M0 M1 (hr.mono ⋯) ((¬1)∘ae) ∅ ⋯ ∅ ∅) ag))∘ae))) ∅ ⋯ ∅ ∅) ∅ (by trivial)) (@aj _ _ _ _ _ _ _ _ (@jm _ _ _ _ _ _ _ _ (@aV _ _ _ _ _ _ _ _ _ _ _ _ _ _ _ OJ Pu (hr.mono ⋯) ((¬1)∘((@aM _ _ _ _ _ _ ((¬2)∘((¬3)∘((@ja _ _ _ _ _ _ _ _ _ _ rfl (@aM _ _ _ _ _ _ (ag∘(ag∘(ag∘(ag∘(ag∘(ag∘(ag∘(ag∘ae))))))))) (@jb _ _) (@jc _ _ _ _ (¬2)))∘((@bP _ _ _ _ _ _ _ rfl ag (@bi _ _ _ _ _ _ _ (@aV _ _ _ _ _ _ _ _ _ _ _ _ _ _ _ M0 M1 (hr.mono ⋯) ((¬1)∘ae) ∅ ⋯ ∅ ∅) ag))∘ae)))))∘ae)) ∅ ⋯ ∅ ∅) (@cN _ _ _ _ _ _ _ _ rfl rfl (@aE _ _ _ _ _ _ _ _ (@av _ _ _ 4 _ nd rfl ↥3 (by trivial)) (@aE _ _ _ _ _ _ _ _ (@av _ _ _ 5 _ nd rfl ↥3 (by trivial)) (@bU _ _) ∅) ∅) (aL (aL cK)) ∅ ∅) ∅ ∅ ∅) (@aj _ _ _ _ _ _ _ _ (@az _ _ _ _ _ 6 _ _ nd rfl ↥3 (@aV _ _ _ _ _ _ _ _ _ _ _ _ _ _ _ Nu N7 (hr.mono ⋯) ((¬1)∘((¬4)∘(ag∘ae))) ∅ ⋯ ∅ ∅) ∅ (by trivial)) (@aj _ _ _ _ _ _ _ _ (@eK _ _ _ _ _ _ _ _ _ _ _ (@yM _ _ _ _ _ (@kc _ _ _ _ (@aV _ _ _ _ _ _ _ _ _ _ _ _ _ _ _ NT OM (hr.mono ⋯) ((@aV _ _ _ _ _ _ _ _ _ _ _ _ _ _ _ MX M9 (hr.mono ⋯) ((¬4)∘((¬5)∘((¬6)∘ae))) ∅ ⋯ ∅ ∅)∘((@aV _ _ _ _ _ _ _ _ _ _ _ _ _ _ _ Nk NU (hr.mono ⋯) ((¬4)∘((¬5)∘((¬6)∘ae))) ∅ ⋯ ∅ ∅)∘ae)) ∅ ⋯ ∅ ∅) ↥5)) (@ao _ _ _ _ _ (@aO _ _ _ _ _ (@km _ _ _ _ _))) (@bV _ _)) (@aj _ _ _ _ _ _ _ _ (@dI _ _ _ _ _ _ _ _ _ _ _ Re rfl (@dH _ _ _ _ _ rfl (@bH _ _ _ _ _ (ag∘(ag∘((@aQ _ _ _ _ _ _ _ rfl (@bH _ _ _ _ _ (ag∘(ag∘ae))) (@fP _ _ _ _ _ _ _ (@bi _ _ _ _ _ _ _ (@aV _ _ _ _ _ _ _ _ _ _ _ _ _ _ _ M0 M1 (hr.mono ⋯) ((¬1)∘ae) ∅ ⋯ ∅ ∅) ag) ag) ↥4)∘ae))))) (@av _ _ _ 7 _ nd rfl ↥3 (by trivial)) (@aj _ _ _ _ _ _ _ _ (@jm _ _ _ _ _ _ _ _ (@aV _ _ _ _ _ _ _ _ _ _ _ _ _ _ _ OJ Pu (hr.mono ⋯) ((¬1)∘((@aV _ _ _ _ _ _ _ _ _ _ _ _ _ _ _ OK Pv (hr.mono ⋯) ((¬1)∘(ag∘((¬7)∘ae))) ∅ ⋯ ∅ ∅)∘ae)) ∅ ⋯ ∅ ∅) (@cN _ _ _ _ _ _ _ _ rfl rfl (@aE _ _ _ _ _ _ _ _ (@av _ _ _ 4 _ nd rfl ↥3 (by trivial)) (@aE _ _ _ _ _ _ _ _ (@av _ _ _ 5 _ nd rfl ↥3 (by trivial)) (@bU _ _) ∅) ∅) (aL (aL cK)) ∅ ∅) ∅ ∅ ∅) (@aj _ _ _ _ _ _ _ _ (@az _ _ _ _ _ 8 _ _ nd rfl ↥3 (@bH _ _ _ _ _ ((@aV _ _ _ _ _ _ _ _ _ _ _ _ _ _ _ Nu N7 (hr.mono ⋯) ((¬1)∘((¬4)∘(ag∘ae))) ∅ ⋯ ∅ ∅)∘((@aM _ _ _ _ _ _ ae)∘((@aV _ _ _ _ _ _ _ _ _ _ _ _ _ _ _ Nu N7 (hr.mono ⋯) ((¬1)∘((¬4)∘(ag∘ae))) ∅ ⋯ ∅ ∅)∘((@aV _ _ _ _ _ _ _ _ _ _ _ _ _ _ _ Nu N7 (hr.mono ⋯) ((¬1)∘((¬4)∘(ag∘ae))) ∅ ⋯ ∅ ∅)∘ae))))) ∅ (by trivial)) (@aj _ _ _ _ _ _ _ _ (@dI _ _ _ _ _ _ _ _ _ _ _ Re rfl (@dH _ _ _ _ _ rfl (¬8)) (@av _ _ _ 6 _ nd rfl ↥3 (by trivial)) (@ao _ _ _ _ _ (@eK _ _ _ _ _ _ _ _ _ _ _ (@yM _ _ _ _ _ (@kc _ _ _ _ (@aV _ _ _ _ _ _ _ _ _ _ _ _ _ _ _ NT OM (hr.mono ⋯) ((@aV _ _ _ _ _ _ _ _ _ _ _ _ _ _ _ MX M9 (hr.mono ⋯) ((¬4)∘((¬5)∘((¬6)∘ae))) ∅ ⋯ ∅ ∅)∘((@aV _ _ _ _ _ _ _ _ _ _ _ _ _ _ _ Nk NU (hr.mono ⋯) ((¬4)∘((¬5)∘((¬6)∘ae))) ∅ ⋯ ∅ ∅)∘ae)) ∅ ⋯ ∅ ∅) ↥5)) (@ao _ _ _ _ _ (@aO _ _ _ _ _ (@km _ _ _ _ _))) (@bV _ _))) ↥5) (@aj _ _ _ _ _ _ _ _ (@az _ _ _ _ _ 9 _ _ nd rfl ↥3 (@aU _ _ _ _ _ _ _ _ _ (@b_tuple _ _ rfl) ∅ T.b_tuple ((@cy _ _ _ _ _ _ _ _ _ _ _ _ _ [] ["_law_tie"] rfl rfl (@bY _ _ _ _ _ _ _ rfl T.b_range ((@aU _ _ _ _ _ _ _ _ _ (@b_len _ _ rfl) ∅ T.b_len ((@aQ _ _ _ _ _ _ _ rfl (¬4) ag ↥4)∘ae) ⋯ ⋯ ∅ ∅)∘ae) ∅) (λC s0 H0 fp=>(@av _ _ _ 0 _ (show QO (["_law_tie"]:List Str) by decide+kernel) rfl ↥3 (by trivial))) (λC s0 H0 fp=>(@cO _ _)) (λC s0 H0 fp=>(@aM _ _ _ _ _ _ ((¬0)∘ae))) rfl ∅ ↥5)∘ae) ⋯ ⋯ ∅ ∅) ∅ (by trivial)) (@ao _ _ _ _ _ (@dI _ _ _ _ _ _ _ _ _ _ _ Re rfl (@dH _ _ _ _ _ rfl (¬8)) (@av _ _ _ 6 _ nd rfl ↥3 (by trivial)) (@aj _ _ _ _ _ _ _ _ (@az _ _ _ _ _ 10 _ _ nd rfl ↥3 (@aM _ _ _ _ _ _ (ag∘(ag∘ae))) ∅ (by trivial)) (@aj _ _ _ _ _ _ _ _ (@eK _ _ _ _ _ _ _ _ _ _ _ (@bh _ _ _ _ _ _ _ _ _ (@yd _ _) (@aU _ _ _ _ _ _ _ _ _ (@b_len _ _ rfl) ∅ T.b_len ((¬9)∘ae) ⋯ ⋯ ∅ ∅) ag (bg _)) (@ao _ _ _ _ _ (@az _ _ _ _ _ 10 _ _ nd rfl ↥3 (@aV _ _ _ _ _ _ _ _ _ _ _ _ _ _ _ Nf Ob (hr.mono ⋯) ((¬4)∘((¬6)∘ae)) ∅ ⋯ ∅ ∅) ∅ (by trivial))) (@bV _ _)) (@ao _ _ _ _ _ (@eK _ _ _ _ _ _ _ _ _ _ _ (@yN _ _ _ _ (@rH _ _ _ _ _ _ _ _ (@bh _ _ _ _ _ _ _ _ _ (@yd _ _) (@aU _ _ _ _ _ _ _ _ _ (@b_len _ _ rfl) ∅ T.b_len ((¬9)∘ae) ⋯ ⋯ ∅ ∅) ag (bg _)) (@pX _ _ _ _ _ (@yM _ _ _ _ _ (@kc _ _ _ _ (@aV _ _ _ _ _ _ _ _ _ _ _ _ _ _ _ NT OM (hr.mono ⋯) ((@aV _ _ _ _ _ _ _ _ _ _ _ _ _ _ _ MX M9 (hr.mono ⋯) ((¬4)∘((¬9)∘((¬6)∘ae))) ∅ ⋯ ∅ ∅)∘((¬10)∘ae)) ∅ ⋯ ∅ ∅) ↥5))))) (@ao _ _ _ _ _ (@aO _ _ _ _ _ (@km _ _ _ _ _))) (@bV _ _))))) ↥5)))))) ↥5) (@aj _ _ _ _ _ _ _ _ (@jm _ _ _ _ _ _ _ _ (@aV _ _ _ _ _ _ _ _ _ _ _ _ _ _ _ OK Pv (hr.mono ⋯) ((¬1)∘(ag∘(ag∘ae))) ∅ ⋯ ∅ ∅) (@cN _ _ _ _ _ _ _ _ rfl rfl (@aE _ _ _ _ _ _ _ _ (@av _ _ _ 2 _ nd rfl ↥3 (by trivial)) (@aE _ _ _ _ _ _ _ _ (@av _ _ _ 11 _ nd rfl ↥3 (by trivial)) (@aE _ _ _ _ _ _ _ _ (@av _ _ _ 12 _ nd rfl ↥3 (by trivial)) (@aE _ _ _ _ _ _ _ _ (@av _ _ _ 13 _ nd rfl ↥3 (by trivial)) (@bU _ _) ∅) ∅) ∅) ∅) (aL (aL (aL (aL cK)))) ∅ ∅) ∅ ∅ ∅) (@aj _ _ _ _ _ _ _ _ (@az _ _ _ _ _ 14 _ _ nd rfl ↥3 (@bP _ _ _ _ _ _ _ rfl ag (@bi _ _ _ _ _ _ _ (@aV _ _ _ _ _ _ _ _ _ _ _ _ _ _ _ M0 M1 (hr.mono ⋯) ((¬1)∘ae) ∅ ⋯ ∅ ∅) ag)) ∅ (by trivial)) (@aj _ _ _ _ _ _ _ _ (@az _ _ _ _ _ 3 _ _ nd rfl ↥3 (@ja _ _ _ _ _ _ _ _ _ _ rfl (@bP _ _ _ _ _ _ _ rfl (¬11) (@gJ _ _ _ _ _ _ _ rfl (@aM _ _ _ _ _ _ ((@aM _ _ _ _ _ _ (ag∘(ag∘((@aM _ _ _ _ _ _ (ag∘(ag∘ae)))∘(ag∘ae)))))∘ae)) (¬14))) (@jb _ _) (@jc _ _ _ _ (¬14))) ∅ (by trivial)) (@aj _ _ _ _ _ _ _ _ (@az _ _ _ _ _ 15 _ _ nd rfl ↥3 (@aM _ _ _ _ _ _ ((@aU _ _ _ _ _ _ _ _ _ (@b_max _ _ rfl) ∅ T.b_max ((¬2)∘(ag∘ae)) ⋯ ⋯ ∅ ∅)∘((¬3)∘((@ja _ _ _ _ _ _ _ _ _ _ rfl (@bP _ _ _ _ _ _ _ rfl (¬12) (@aM _ _ _ _ _ _ (ag∘(ag∘ae)))) (@jb _ _) (@jc _ _ _ _ (@aU _ _ _ _ _ _ _ _ _ (@b_max _ _ rfl) ∅ T.b_max ((¬2)∘(ag∘ae)) ⋯ ⋯ ∅ ∅)))∘((¬13)∘ae))))) ∅ (by trivial)) (@ao _ _ _ _ _ (@aO _ _ _ _ _ (@aV _ _ _ _ _ _ _ _ _ _ _ _ _ _ _ NE OL (hr.mono ⋯) ((¬15)∘((@aU _ _ _ _ _ _ _ _ _ (@b_tuple _ _ rfl) ∅ T.b_tuple ((@cy _ _ _ _ _ _ _ _ _ _ _ _ _ [] ["_law_tie"] rfl rfl (@bY _ _ _ _ _ _ _ rfl T.b_range ((¬14)∘ae) ∅) (λC s0 H0 fp=>(@av _ _ _ 0 _ (show QO (["_law_tie"]:List Str) by decide+kernel) rfl ↥3 (by trivial))) (λC s0 H0 fp=>(@cO _ _)) (λC s0 H0 fp=>(@aM _ _ _ _ _ _ ((¬0)∘ae))) rfl ∅ ↥5)∘ae) ⋯ ⋯ ∅ ∅)∘((@aM _ _ _ _ _ _ ae)∘ae))) ∅ ⋯ ∅ ∅)))))))))))))))
local macro_rules|`(tactic|simp?[$ts,*])=>`(tactic|simp[$ts,*,gQ,k',aC,ky,bx,eM,aN,dm,jo,pM,rD,aX,ax,um,af,vC,cQ,am,ac,bo,aF,bR,lV,Am,nM,Bs,pC,xR,pE,uk,fD,fg,cG,bD,wN,fM,iB,mM,eR,bL,sE,vE,a8,aq,ah,aY,cA,aS,bw,vd,eC,cW,dy,iX,i7,i5,iZ,iY,gw,eZ,gy,eF,gu,oV,gv,kQ,oW,kU,i6,kR,kS,gB,gA,eG,gC,l5,fF,fH,jT,jU,oI,eE,eD,dU,i4,Qu,-Rw,-QB,-QI,-Su,-QC,-RP,-getElem?_pos,-RF,oS,oR,oM,oK,oP,oQ,oO,oT])
theorem wc{n k:Int}(h:0<k):0<=n%k:=Vk _ (Int.ne_of_gt h)
theorem wd{n k:Int}(h:0<k):n%k<k:=Vm _ h
def nx:List Int->Int|[]=>0|d::_=>d
def jz(ds:List Int):Prop:=∀d∈ds,0<=d/\d<2147483648
theorem Hf{ds:List Int}(h:jz ds):0<=nx ds/\nx ds<2147483648:=by cases ds with|nil=>exact⟨Int.le_refl 0,by show(0:Int)<2147483648;decide⟩|cons d r=>exact h d ↥1
theorem K6{ds:List Int}(h:jz ds):jz ds.tail:=λd hd=>h d (List.mem_of_mem_tail hd)
theorem Jr(ds:List Int):br [.l (ds.map .int)]=some (.d (.int (nx ds)),[.l (ds.tail.map .int)]):=by have hq:∀e:En,e[0]?=some (some (.l (ds.map .int)))->eh false e (.s 0) (.l [])=some (.d (.bool (ds.map PyData.int).isEmpty)):=λe he=>mQ he (pA ds).1;cases ds with|nil=>simp?[br,x_,hq,nx]|cons d r=>simp?[br,x_,hq,nx]
theorem iS{ds:List Int}(hd:jz ds):∃(n:Int) (ds':List Int),br [.l (ds.map .int)]=some (.d (.int n),[.l (ds'.map .int)])/\0<=n/\n<2147483648/\jz ds':=⟨nx ds,ds.tail,Jr ds,(Hf hd).1,(Hf hd).2,K6 hd⟩
theorem Ah(cell k:Int)(h0:0<=k)(h1:k<=1000):∃r,lI [.d (.int cell),.d (.int k)]=some (.d (.int r),[.d (.int cell),.d (.int k)])/\0<=r/\r<2147483648:=by
 have a1:mq (cell%2147483647) 48271=true:=u_ ⋯ ⋯;have a2:mq 7919 k=true:=CL ⋯ ⋯;have a3:mq (7919*k) k=true:=u_ ↥0 ↥0;have a4:mq ((cell%2147483647*48271+7919*k*k+104729)%2147483647) ((cell%2147483647*48271+7919*k*k+104729)%2147483647)=true:=u_ ↥0 ↥0;refine⟨_,by simp?[lI,zc,aW,cD,a1,a2,a3,a4];rfl,?_,?_⟩;·lia
 ·lia
theorem uH{ds:List Int}(h:jz ds){r:Int}(h0:0<=r)(h1:r<2147483648):jz (ds++[r]):=λd hd=>by
 rcases P' hd with hd|hd;·exact h d hd
 ·simp at hd;subst hd;exact⟨h0,h1⟩
abbrev dE(ns ds:List Int)(v2 v3 v4:Option Sv):En:=[some (.d (.list (ns.map .int))),some (.l (ds.map .int)),v2,v3,v4]
inductive DI (ns:List Int) (i:Nat):En->Prop|mk{ds v2 v3 v4}(hd:jz ds) (hl:ds.length<=1000*i):DI ns i (dE ns ds v2 v3 v4)
inductive DJ (ns:List Int) (k cell:Int) (n i:Nat):En->Prop|mk{ds v4}(hd:jz ds) (hl:ds.length=n+i):DJ ns k cell n i (dE ns ds (some (.d (.int k))) (some (.d (.int cell))) v4)
inductive DW (ns:List Int) (k:Int) (v4:Option Sv) (n:Nat):En->Prop|mk{cell ds}(hc:0<=cell) (hd:jz ds) (hl:ds.length<=max n 900):DW ns k v4 n (dE ns ds (some (.d (.int k))) (some (.d (.int cell))) v4)
theorem GH(ns:List Int)(hn:ns.length<=63):∃ds,mY [.d (.list (ns.map .int))]=some (.l (ds.map .int),[.d (.list (ns.map .int))])/\jz ds:=by
 have inner:∀(cell k:Int) (ds:List Int) (v4:Option Sv),0<=k->k<=63->jz ds->ds.length<=63000->∃ds' v4',(∀W,cx W lD (ah 4) jt (dE ns ds (some (.d (.int k))) (some (.d (.int cell))) v4)=some (.nx (dE ns ds' (some (.d (.int k))) (some (.d (.int cell))) v4')))/\jz ds'/\ds'.length=ds.length+12:=by
  intro cell k ds v4 k0 k1 hd hl;obtain⟨e',h1,h2⟩:=cn (own:=[]) (g:=ah 4) (f:=jt) (DJ ns k cell ds.length) (aT 0 12) 0 (dE ns ds (some (.d (.int k))) (some (.d (.int cell))) v4) (λi x e hx hI=>by
   obtain⟨rfl,hi⟩:=cP hx;obtain⟨hd',hl'⟩:=hI;rename_i ds' v4';obtain⟨r1,c1,_,_⟩:=Ah cell (3*(0+(i:Int))+1) ↥0 ↥0;obtain⟨r2,c2,c3,c4⟩:=Ah r1 (0+(i:Int)+k+2) ↥0 ↥0;have a1:mq 3 (0+(i:Int))=true:=CL ⋯ ⋯;refine⟨_,dE ns (ds'++[r2]) (some (.d (.int k))) (some (.d (.int cell))) (some (.d (.int (0+(i:Int))))),rfl,?_,bB,.mk (uH hd' c3 c4) ↥7⟩;have hlen:ds'.length<1000000:=by lia
   simp only[Th]at a1 c1 c2;simp?[dE,jt,c1,c2,cD,a1,hlen]) (.mk hd rfl);obtain⟨hd',hl'⟩:=h2;rename_i ds' v4';rw[bI]at hl';refine⟨ds',v4',λW=>?_,hd',by lia⟩;rw[dn (show lD _=some (aT 0 12,[],_) from cf (n:=12) rfl ⋯ ⋯)];exact h1
 have wh:∀(cell k:Int) (ds:List Int) (v4:Option Sv),0<=cell->jz ds->ds.length<=63100->∃cell' ds',fV (2^4200) ig ly (dE ns ds (some (.d (.int k))) (some (.d (.int cell))) v4)=some (.nx (dE ns ds' (some (.d (.int k))) (some (.d (.int cell'))) v4))/\0<=cell'/\jz ds'/\ds'.length<=max ds.length 900:=by
  intro cell k ds v4 hc hd hl;have tst:∀(cell:Int) (ds:List Int),ig (dE ns ds (some (.d (.int k))) (some (.d (.int cell))) v4)=some (decide (1000000000000000000<=cell)&&decide ((ds.length:Int)<900),dE ns ds (some (.d (.int k))) (some (.d (.int cell))) v4):=by
   intro cell ds;by_cases h:(1000000000000000000:Int)<=cell;·simp?[dE,ig,mS,m9,h]
   ·simp?[dE,ig,mS,m9,h]
  obtain⟨e0,e',h1,hI,h3⟩:=fY (ft:=ig) (f:=ly) (DW ns k v4 ds.length) (λe=>1000000-i_ 1 e) (λe hI=>by
   obtain⟨hc',hd',hl'⟩:=hI;rename_i cell' ds';rw[tst];by_cases c1:(1000000000000000000:Int)<=cell'
   ·by_cases c2:(ds'.length:Int)<900
    ·refine .inr ⟨_,dE ns (ds'++[cell'%2147483629]) (some (.d (.int k))) (some (.d (.int (cell'/2147483629)))) v4,by rw[decide_eq_true c1,decide_eq_true c2];rfl,?_,.mk ↥0 (uH hd' ↥0 ↥0) ↥7,?_⟩
     ·have hlen:ds'.length<1000000:=by lia
      have b8:Bt 8000 2147483629:=jX ⋯ ⋯;simp?[dE,ly,aW,dN,b8,hlen]
     ·simp[i_,dE];lia
    ·exact .inl ⟨_,by rw[decide_eq_true c1,decide_eq_false c2];rfl,trivial⟩
   ·exact .inl ⟨_,by rw[decide_eq_false c1];rfl,trivial⟩) (2^4200) _ (.mk hc hd ↥0) (lH (m:=20) (Vy (Nat.sub_le _ _) ⋯) ⋯);obtain⟨hc',hd',hl'⟩:=hI;rename_i cell' ds';rw[tst]at h3;have h4:=(Prod.mk.inj (QY h3)).2;subst h4;exact⟨cell',ds',h1,hc',hd',hl'⟩
 have turn:∀(i:Nat) (ds:List Int) (v3 v4:Option Sv) (hi:i<ns.length),jz ds->ds.length<=1000*i->∃ds2 v3' v4',ie (dE ns ds (some (.d (.int (i:Int)))) v3 v4)=some (.nx (dE ns ds2 (some (.d (.int (i:Int)))) v3' v4'))/\jz ds2/\ds2.length<=1000*(i+1):=by
  intro i ds v3 v4 hi hd hl;have hcell:atI (ns.map PyData.int) (i:Int)=some (.int ns[i]):=by rw[jf ↥0 (by rw[Qz];lia)];simp[hi]
  have c0:(0:Int)<=(ns[i].natAbs:Int):=by lia
  have st:aN 3 (aF (g1 yj) (ac (ax ba (af 0) (af 2)) am)) (dE ns ds (some (.d (.int (i:Int)))) v3 v4)=some (.nx (dE ns ds (some (.d (.int (i:Int)))) (some (.d (.int (ns[i].natAbs:Int)))) v4)):=by simp?[dE,hcell]
  generalize (ns[i].natAbs:Int)=cell at c0 st;have mid:∃ds1 v4',ky (aX (ax Cd (af 3) (ax yk (vC (.int 10)) (vC (.int 18))))) (cx ([4]++[]) lD (ah 4) jt) eM (dE ns ds (some (.d (.int (i:Int)))) (some (.d (.int cell))) v4)=some (.nx (dE ns ds1 (some (.d (.int (i:Int)))) (some (.d (.int cell))) v4'))/\jz ds1/\ds1.length<=ds.length+12:=by
   by_cases cb:cell<1000000000000000000;·obtain⟨ds1,v4',f1,f2,f3⟩:=inner cell (i:Int) ds v4 ↥0 ↥0 hd ↥0;refine⟨ds1,v4',?_,f2,by lia⟩;rw[KM (e1:=dE ns ds (some (.d (.int (i:Int)))) (some (.d (.int cell))) v4) (by simp?[dE,mS,m9,cb])];exact f1 _
   ·refine⟨ds,v4,?_,hd,by lia⟩;rw[KL (e1:=dE ns ds (some (.d (.int (i:Int)))) (some (.d (.int cell))) v4) (by simp?[dE,mS,m9,cb])];rfl
  obtain⟨ds1,v4',m1,m2,m3⟩:=mid;obtain⟨cell2,ds2,w1,w2,w3,w4⟩:=wh cell (i:Int) ds1 v4' c0 m2 ↥0;by_cases c2:(2147483629:Int)<=cell2
  ·refine⟨ds2++[cell2%2147483629],some (.d (.int cell2)),v4',?_,uH w3 ↥0 ↥0,by simp;lia⟩;have hlen:ds2.length<1000000:=by lia
   unfold ie;rw[lO st,lO m1,lO w1];simp?[dE,c2,aW,hlen]
  ·refine⟨ds2,some (.d (.int cell2)),v4',?_,w3,by lia⟩;unfold ie;rw[lO st,lO m1,lO w1];simp?[dE,c2]
 obtain⟨e',h1,hI⟩:=cn (own:=[]) (g:=ah 2) (f:=ie) (DI ns) (aT 0 (min (ns.length:Int) 63).toNat) 0 (dE ns [] none none none) (λi x e hx hI=>by obtain⟨rfl,hi⟩:=cP hx;obtain⟨hd,hl⟩:=hI;rename_i ds v2 v3 v4;rw[Ti]at hl⊢;obtain⟨ds2,v3',v4',t1,t2,t3⟩:=turn i ds v3 v4 ↥0 hd hl;exact⟨dE ns ds (some (.d (.int (i:Int)))) v3 v4,_,by simp[ah,dE],t1,bB,.mk t2 t3⟩) (.mk (λd hd=>by cases hd) ↥1);obtain⟨hd,hl⟩:=hI;rename_i ds v2 v3 v4;refine⟨ds,?_,hd⟩;have hf:∀W,cx W nV (ah 2) ie (dE ns [] none none none)=some (.nx (dE ns ds v2 v3 v4)):=λW=>by rw[dn (show nV _=some (aT 0 (min (ns.length:Int) 63).toNat,[],dE ns [] none none none) from cf (n:=min (ns.length:Int) 63) (by simp?[dE]) ↥0 ↥0)];exact h1
 unfold dE at hf;simp only[Rw]at hf;simp?[mY,y_,hf]
theorem K3(a b:Int)(hb:Bt 4000 b):wM [.d (.int a),.d (.int b)]=some (.d (.int (Qy a b)),[.d (.int a),.d (.int b)]):=by
 have tst:∀x y:Int,mI [some (.d (.int x)),some (.d (.int y))]=some (!(y==0),[some (.d (.int x)),some (.d (.int y))]):=λx y=>by simp?[mI]
 obtain⟨e0,e',h1,⟨x,y,he,hg,hy⟩,h3⟩:=fY (ft:=mI) (f:=pQ) (λe=>∃x y,e=[some (.d (.int x)),some (.d (.int y))]/\Qy x y=Qy a b/\Bt 4000 y) (tT 1) (λe⟨x,y,he,hg,hy⟩=>by
  subst he;rw[tst];by_cases c:y=0;·subst c;exact .inl ⟨_,rfl,trivial⟩
  ·refine .inr ⟨_,[some (.d (.int y)),some (.d (.int (x.fmod y)))],by rw[beq_false_of_ne c];rfl,by simp?[pQ,Cf c],⟨y,x.fmod y,rfl,by rw[wy,hg],?_⟩,?_⟩;·have:=iW x c;exact Bt.of_le hy ↥0
   ·have:=iW x c;simpa[tT]using this) (2^4200) _ ⟨a,b,rfl,rfl,hb⟩ (lH (m:=4000) (by simpa[tT,Bt]using hb) ⋯);subst he;rw[tst]at h3;have h4:=Prod.mk.inj (QY h3);have hy0:y=0:=by simpa using h4.1
 subst hy0;have h5:=h4.2;subst h5;have hs:fV (2^4200) mI pQ [some (.d (.int a)),some (.d (.int b))]=some (.nx [some (.d (.int x)),some (.d (.int 0))]):=h1;have hg':(x.natAbs:Int)=(Qy a b:Int):=by rw[<-hg];simp
 simp only[wM,G4,gQ,k',aC,ky,bx,eM,aN,dm,jo,pM,rD,aX,ax,um,af,vC,cQ,am,ac,bo,aF,bR,lV,Am,nM,Bs,pC,xR,pE,uk,fD,fg,cG,bD,wN,fM,iB,mM,eR,bL,sE,vE,a8,aq,ah,aY,cA,aS,bw,vd,eC,cW,dy,iX,i7,i5,iZ,iY,gw,eZ,gy,eF,gu,oV,gv,kQ,oW,kU,i6,kR,kS,gB,gA,eG,gC,l5,fF,fH,jT,jU,oI,eE,eD,dU,i4,Qu,-Rw,-QB,-QI,-Su,-QC,-RP,-getElem?_pos,-RF,oS,oR,oM,oK,oP,oQ,oO,oT];simp?[hs,hg']
theorem Ag(t b:Int)(hb:0<b)(h:Bt 4000 b):l8 [.d (.int t),.d (.int b)]=some (.d (.tuple [.int (lowM t b).1,.int (lowM t b).2]),[.d (.int t),.d (.int b)]):=by
 have g0:=uP (t:=t) (b:=b) ↥0;have g1:(Qy t b:Int)≠0:=by lia
 have g8:Bt 8000 (Qy t b:Int):=(Ci (t:=t) ↥0 h).mono ⋯;have e:lowM t b=(t.fdiv (Qy t b:Int),b.fdiv (Qy t b:Int)):=by unfold lowM;rw[if_neg ↥0]
 rw[e];simp?[l8,G5,K3 t b h,zr g1 g8]
theorem G8{i:Int}{n:Nat}(h1:-2147483648<i)(h2:i<2147483648)(hn:31<=n):Bt n i:=Bt.mono (m:=31) (by unfold Bt;lia) hn
def qm(t b:Int):Prop:=0<=t/\t<=b/\1<=b/\b<=100/\Qy t b=1
theorem xJ(n k:Int)(hn:0<=n):∃t b,dW [.d (.int n),.d (.int k)]=some (.d (.tuple [.int t,.int b]),[.d (.int n),.d (.int k)])/\qm t b:=by
 have b9:Bt 8000 9:=jX ⋯ ⋯;have b100:Bt 8000 100:=jX ⋯ ⋯;have low:∀t b:Int,0<b->0<=t->t<=b->b<=100->qm (lowM t b).1 (lowM t b).2:=λt b hb h0 h1 h2=>by obtain⟨r1,r2,r3,r4⟩:=yy hb h0 h1 h2;exact⟨r1,r2,r3,r4,qR ↥0⟩
 by_cases c0:k=0
 ·subst c0;obtain⟨x,hx,ha⟩:=md (xs:=[PyData.tuple [.int 1,.int 2],.tuple [.int 1,.int 3],.tuple [.int 2,.int 3],.tuple [.int 1,.int 1],.tuple [.int 0,.int 1],.tuple [.int 3,.int 4]]) (i:=n%6) ↥0 ↥7;obtain⟨t,b,rfl,hc⟩:∃t b,x=.tuple [.int t,.int b]/\qm t b:=by simp only[QV,Rq,or_false]at hx;rcases hx with rfl|rfl|rfl|rfl|rfl|rfl<;>exact⟨_,_,rfl,by unfold qm;decide⟩
  exact⟨t,b,by simp?[dW,kD,aW,ha],hc⟩
 ·by_cases c1:k=1;·subst c1;have hm:(n/9)%(2+n%9-1)<2+n%9-1:=Vm _ ↥0;have hm0:0<=(n/9)%(2+n%9-1):=Vk _ ↥0;refine⟨_,_,?_,low (1+(n/9)%(2+n%9-1)) (2+n%9) ↥0 ↥0 ↥0 ↥0⟩;have hpos:∀e:En,be e (.d (.int (n/9))) (.d (.int (2+n%9-1)))=_:=λe=>aW ↥0;have hl:=Ag (1+(n/9)%(2+n%9-1)) (2+n%9) ↥0 (G8 ↥0 ↥0 ⋯);simp?[dW,kD,aW,dN,b9,hpos,hl]
  ·by_cases c2:k=2;·subst c2;have hm:(n/100)%(1+n%100+1)<1+n%100+1:=Vm _ ↥0;have hm0:0<=(n/100)%(1+n%100+1):=Vk _ ↥0;refine⟨_,_,?_,low ((n/100)%(1+n%100+1)) (1+n%100) ↥0 ↥0 ↥0 ↥0⟩;have hpos:∀e:En,be e (.d (.int (n/100))) (.d (.int (1+n%100+1)))=_:=λe=>aW ↥0;have hl:=Ag ((n/100)%(1+n%100+1)) (1+n%100) ↥0 (G8 ↥0 ↥0 ⋯);simp?[dW,kD,aW,dN,b100,hpos,hl]
   ·refine⟨1,1,?_,by unfold qm;decide⟩;simp?[dW,kD,c0,c1,c2]
theorem GI(n k:Int):∃r,m4 [.d (.int n),.d (.int k)]=some (.d (.int r),[.d (.int n),.d (.int k)])/\0<=r/\r<=1000:=by
 obtain⟨x,hx,ha⟩:=md (xs:=[PyData.int (n%7),.int (5+n%2),.int (n%1001),.int (1000-n%3)]) (i:=k%4) ↥0 ↥7;obtain⟨r,rfl,hr⟩:∃r,x=.int r/\0<=r/\r<=1000:=by simp only[QV,Rq,or_false]at hx;rcases hx with rfl|rfl|rfl|rfl<;>exact⟨_,rfl,by lia,by lia⟩
 exact⟨r,by simp?[m4,zg,aW,ha],hr⟩
abbrev tE(ds:List Int)(things many shape odds ws:Int)(ts:List gf)(v7 v8 v9 v10 v11 v12:Option Sv):En:=[some (.l (ds.map .int)),some (.d (.int things)),some (.d (.int many)),some (.d (.int shape)),some (.d (.int odds)),some (.d (.int ws)),some (.l (ts.map aI)),v7,v8,v9,v10,v11,v12]
inductive TR (things many shape odds ws:Int) (ts:List gf) (k:Option Sv):En->Prop|mk{t ds w8 w9 w10 w11 w12}(hd:jz ds) (ht:t.Ok things):TR things many shape odds ws ts k (tE ds things many shape odds ws (ts++[t]) k w8 w9 w10 w11 w12)
inductive TI (things many a b c:Int) (i:Nat):En->Prop|mk{ts ds w7 w8 w9 w10 w11 w12}(hd:jz ds) (hl:ts.length=i) (ht:∀t∈ts,t.Ok things):TI things many a b c i (tE ds things many a b c ts w7 w8 w9 w10 w11 w12)
theorem K5(ds:List Int)(things many shape odds ws:Int)(ts:List gf)(k:Int)(v8 v9 v10 v11 v12:Option Sv)(hd:jz ds)(h2:2<=things)(h12:things<=100)(s0:0<=shape)(s1:shape<6)(k0:0<=k)(hl:ts.length<=1000):∃e',jv (tE ds things many shape odds ws ts (some (.d (.int k))) v8 v9 v10 v11 v12)=some (.nx e')/\TR things many shape odds ws ts (some (.d (.int k))) e':=by
 obtain⟨n,d1,tn,-,-,hd1⟩:=iS hd;obtain⟨m,d2,tm,m0,-,hd2⟩:=iS hd1;obtain⟨x,hx,ha⟩:=md (xs:=[PyData.int (n%things),.int 0,.int (k%things),.int (n%things),.int (n%2),.int (n%things)]) (i:=shape) s0 ↥7;have tp:0<things:=VN ⋯ h2;have tq:0<things-1:=Int.sub_pos_of_lt (VN ⋯ h2);have nt:0<=n%things/\n%things<things:=⟨wc tp,wd tp⟩;have kt:0<=k%things/\k%things<things:=⟨wc tp,wd tp⟩;obtain⟨one,rfl,o0,o1⟩:∃r,x=.int r/\0<=r/\r<things:=by simp only[QV,Rq,or_false]at hx;rcases hx with rfl|rfl|rfl|rfl|rfl|rfl<;>exact⟨_,rfl,by lia,by lia⟩
 have r0:0<=(n/12)%(things-1):=wc tq;have r1:(n/12)%(things-1)<things-1:=wd tq;have q0:0<=(one+1+(n/12)%(things-1))%things:=wc tp;have q1:(one+1+(n/12)%(things-1))%things<things:=wd tp;have qn:(one+1+(n/12)%(things-1))%things≠one:=λz=>by
  by_cases c:one+1+(n/12)%(things-1)<things;·rw[Int.emod_eq_of_lt ↥0 c]at z;lia
  ·have e:(one+1+(n/12)%(things-1))%things=(one+1+(n/12)%(things-1)-things)%things:=by rw[Int.sub_emod_right]
   rw[e,Int.emod_eq_of_lt ↥0 ↥0]at z;lia
 obtain⟨t,b,c1,c2,c3,c4,c5,c6⟩:=xJ m odds m0;obtain⟨w,w1,w2,w3⟩:=GI (m/10007) ws;have b12:Bt 8000 12:=jX ⋯ ⋯;have b107:Bt 8000 10007:=jX ⋯ ⋯;have g1:∀(e:En) (i:Int),be e (.d (.int i)) (.d (.int things))=some (.d (.int (i%things))):=λe i=>aW tp;have g2:∀(e:En) (i:Int),be e (.d (.int i)) (.d (.int (things-1)))=some (.d (.int (i%(things-1)))):=λe i=>aW tq;have hlen:ts.length<1000000:=by lia
 by_cases c:shape=4;·subst c;refine⟨tE d2 things many 4 odds ws (ts++[⟨0,1,t,b,w⟩]) (some (.d (.int k))) (some (.d (.int n))) (some (.d (.int 0))) (some (.d (.int 1))) (some (.d (.int m))) (some (.d (.tuple [.int 0,.int 1]))),?_,.mk hd2 ⟨by show(0:Int)<=0;decide,by show(0:Int)<1;decide,by show(1:Int)<things;lia,c2,c3,c4,c5,w2,w3,c6⟩⟩;simp?[tE,jv,tn,tm,aW,g1,g2,dN,b12,b107,ha,c1,w1,j6,aI,hlen];decide
 ·refine⟨tE d2 things many shape odds ws (ts++[⟨min one ((one+1+(n/12)%(things-1))%things),max one ((one+1+(n/12)%(things-1))%things),t,b,w⟩]) (some (.d (.int k))) (some (.d (.int n))) (some (.d (.int one))) (some (.d (.int ((one+1+(n/12)%(things-1))%things)))) (some (.d (.int m))) (some (.d (.tuple [.int (min one ((one+1+(n/12)%(things-1))%things)),.int (max one ((one+1+(n/12)%(things-1))%things))]))),?_,.mk hd2 ⟨by show 0<=min _ _;lia,by show min _ _<max _ _;lia,by show max _ _<_;lia,c2,c3,c4,c5,w2,w3,c6⟩⟩;simp?[tE,jv,tn,tm,aW,g1,g2,dN,b12,b107,ha,c1,w1,j6,aI,hlen,c]
theorem D_(ds:List Int)(things many:Int)(hd:jz ds)(h2:2<=things)(h12:things<=100)(m0:0<=many)(m1:many<=1000):∃(ts:List gf) (ds':List Int),mn [.l (ds.map .int),.d (.int things),.d (.int many)]=some (.d (.tuple (ts.map aI)),[.l (ds'.map .int),.d (.int things),.d (.int many)])/\jz ds'/\(ts.length:Int)=many/\∀t∈ts,t.Ok things:=by
 obtain⟨n0,d1,t0,-,-,hd1⟩:=iS hd;obtain⟨n1,d2,t1,-,-,hd2⟩:=iS hd1;obtain⟨n2,d3,t2,-,-,hd3⟩:=iS hd2;obtain⟨e',h1,hI⟩:=cn (own:=[]) (g:=ah 7) (f:=jv) (TI things many (n0%6) (n1%4) (n2%4)) (aT 0 many.toNat) 0 (tE d3 things many (n0%6) (n1%4) (n2%4) [] none none none none none none) (λi x e hx hI=>by obtain⟨rfl,hi⟩:=cP hx;obtain⟨hd',hl,ht⟩:=hI;rename_i ts ds' w7 w8 w9 w10 w11 w12;obtain⟨e9,s1,⟨s2,s3⟩⟩:=K5 ds' things many (n0%6) (n1%4) (n2%4) ts (0+(i:Int)) w8 w9 w10 w11 w12 hd' h2 h12 (wc ⋯) (wd ⋯) ↥0 ↥0;exact⟨_,_,rfl,s1,bB,.mk s2 ↥7 λz hz=>by
  rcases P' hz with hz|hz;·exact ht z hz
  ·simp at hz;subst hz;exact s3⟩) (.mk hd3 rfl λt ht=>by cases ht);obtain⟨hd',hl,ht⟩:=hI;rename_i ts ds' w7 w8 w9 w10 w11 w12;refine⟨ts,ds',?_,hd',by rw[hl,bI];lia,ht⟩;have hf:∀W,cx W qF (ah 7) jv (tE d3 things many (n0%6) (n1%4) (n2%4) [] none none none none none none)=some (.nx (tE ds' things many (n0%6) (n1%4) (n2%4) ts w7 w8 w9 w10 w11 w12)):=λW=>by rw[dn (show qF _=some (aT 0 many.toNat,[],tE d3 things many (n0%6) (n1%4) (n2%4) [] none none none none none none) from cf (n:=many) (by simp?[tE]) ↥0 ↥0)];exact h1
 unfold tE at hf;simp only[Rw]at hf;simp?[mn,BO,t0,t1,t2,aW,hf]
abbrev wE(ds:List Int)(most tn things many:Int)(ts:List gf)(way:Int)(ps:List Int)(v8 v9:Option Sv):En:=[some (.l (ds.map .int)),some (.d (.int most)),some (.d (.int tn)),some (.d (.int things)),some (.d (.int many)),some (.d (.tuple (ts.map aI))),some (.d (.int way)),some (.l (ps.map .int)),v8,v9]
inductive WI (most tn things many:Int) (ts:List gf) (way:Int) (i:Nat):En->Prop|mk{ps ds w8}(hd:jz ds) (hpl:ps.length=i) (hps:∀p∈ps,0<=p/\p<=20):WI most tn things many ts way i (wE ds most tn things many ts way ps w8 none)
theorem Hr(ds:List Int)(most tn:Int)(hd:jz ds)(m0:0<=most)(m1:most<=12)(k0:0<=tn)(k1:tn<=16):∃(W:aZ) (ds':List Int),tS [.l (ds.map .int),.d (.int most),.d (.int tn)]=some (.d (ay W),[.l (ds'.map .int),.d (.int most),.d (.int tn)])/\jz ds'/\W.Ok/\W.things<=most/\(W.ties.length:Int)<=tn:=by
 obtain⟨n0,d1,t0,-,-,hd1⟩:=iS hd;obtain⟨n1,d2,t1,-,-,hd2⟩:=iS hd1;have mp:0<most+1:=Int.lt_add_one_of_le m0;have kp:0<tn+1:=Int.lt_add_one_of_le k0;have g0:∀(e:En),be e (.d (.int n0)) (.d (.int (most+1)))=some (.d (.int (n0%(most+1)))):=λe=>aW mp;have g1':∀(e:En),be e (.d (.int n1)) (.d (.int (tn+1)))=some (.d (.int (n1%(tn+1)))):=λe=>aW kp;have th0:0<=n0%(most+1):=wc mp;have th1:n0%(most+1)<most+1:=wd mp;have ti0:0<=n1%(tn+1):=wc kp;have ti1:n1%(tn+1)<tn+1:=wd kp;clear mp kp;generalize n0%(most+1)=things at th0 th1 g0;generalize n1%(tn+1)=tm at ti0 ti1 g1';obtain⟨many,hmany,mm,m00,m01⟩:∃many:Int,many=tm*(if decide (1<things)=true then 1 else 0)/\(1<things\/many=0)/\0<=many/\many<=tn:=by
  by_cases c:1<things;·exact⟨tm,by simp[c],.inl c,ti0,by lia⟩
  ·exact⟨0,by simp[c],.inr rfl,by lia,by lia⟩
 have gm:∀e:En,dz e (.d (.int tm)) (.d (.int (if decide (1<things)=true then 1 else 0)))=some (.d (.int many)):=λe=>by rw[cD (u_ (by split<;>decide) (by split<;>decide)),hmany]
 have gi:∀e:En,g1 mR e [.d (.bool (decide (1<things)))]=some (.d (.int (if decide (1<things)=true then 1 else 0))):=λe=>rfl;generalize (if decide (1<things)=true then 1 else 0:Int)=one at gm gi;obtain⟨ts,d3,t3,hd3,hlen,hts⟩:=D_ d2 (max 2 things) many hd2 ↥0 ↥0 m00 ↥0;obtain⟨n4,d4,t4,-,-,hd4⟩:=iS hd3;obtain⟨e',h1,hI⟩:=cn (own:=[]) (g:=ah 8) (f:=pR) (WI most tn things many ts (n4%3)) (aT 0 things.toNat) 0 (wE d4 most tn things many ts (n4%3) [] none none) (λi x e hx hI=>by
  obtain⟨rfl,hi⟩:=cP hx;obtain⟨hd5,hpl,hps⟩:=hI;rename_i ps d5 w8;obtain⟨p1,d6,t6,-,-,hd6⟩:=iS hd5;obtain⟨p2,d7,t7,-,-,hd7⟩:=iS hd6;obtain⟨z,hz,ha⟩:=md (xs:=[PyData.int 20,.int (1+p1%3),.int (p2%21)]) (i:=n4%3) (wc ⋯) (wd (k:=3) ⋯);obtain⟨p,rfl,hp⟩:∃r,z=.int r/\0<=r/\r<=20:=by simp only[QV,Rq,or_false]at hz;rcases hz with rfl|rfl|rfl<;>exact⟨_,rfl,by lia,by lia⟩
  refine⟨wE d5 most tn things many ts (n4%3) ps (some (.d (.int (0+(i:Int))))) none,wE d7 most tn things many ts (n4%3) (ps++[p]) (some (.d (.int (0+(i:Int))))) none,rfl,?_,bB,.mk hd7 ↥7 λq hq=>by
   rcases P' hq with hq|hq;·exact hps q hq
   ·simp at hq;subst hq;exact hp⟩;have hlen:ps.length<1000000:=by lia
  simp?[wE,pR,t6,t7,aW,ha,hlen]) (.mk hd4 rfl λp hp=>by cases hp);obtain⟨hd5,hpl,hps⟩:=hI;rename_i ps d5 w8;have hf:∀W,cx W uR (ah 8) pR (wE d4 most tn things many ts (n4%3) [] none none)=some (.nx (wE d5 most tn things many ts (n4%3) ps w8 none)):=λW=>by rw[dn (show uR _=some (aT 0 things.toNat,[],wE d4 most tn things many ts (n4%3) [] none none) from cf (n:=things) (by simp?[wE]) ↥0 ↥0)];exact h1
 obtain⟨p1,d6,t6,-,-,hd6⟩:=iS hd5;obtain⟨p2,d7,t7,-,-,hd7⟩:=iS hd6;obtain⟨p3,d8,t8,-,-,hd8⟩:=iS hd7;have xp:0<max 1 many:=VN SA (Int.le_max_left _ _);have gx:∀(e:En),be e (.d (.int p1)) (.d (.int (max 1 many)))=some (.d (.int (p1%max 1 many))):=λe=>aW xp;have x0:0<=p1%max 1 many:=wc xp;have x1:p1%max 1 many<max 1 many:=wd xp;obtain⟨z,hz,ha⟩:=md (xs:=[PyData.int 40,.int (1+p1%max 1 many),.int (p2%41)]) (i:=p3%3) (wc ⋯) (wd (k:=3) ⋯);obtain⟨asks,rfl,hasks⟩:∃r,z=.int r/\0<=r/\r<=40:=by simp only[QV,Rq,or_false]at hz;rcases hz with rfl|rfl|rfl<;>exact⟨_,rfl,by lia,by lia⟩
 rw[bI]at hpl;refine⟨⟨things,ts,ps,asks⟩,d8,?_,hd8,⟨th0,by show things<=12;lia,λt ht=>?_,by show ts.length<=16;lia,by show(ps.length:Int)=things;lia,hps,hasks.1,hasks.2⟩,by show things<=most;lia,by show(ts.length:Int)<=tn;lia⟩;·unfold wE at hf;simp only[Rw]at hf;simp?[tS,G6,t0,t1,g0,g1',gm,gi,t3,t4,aW,hf,t6,t7,t8,gx,ha,ay]
 ·rcases mm with c|c;·have:=hts t ht;rw[show max 2 things=things by lia]at this;exact this
  ·have:ts=[]:=List.length_eq_zero_iff.mp ↥0;subst this;cases ht
theorem uh{W:aZ}{asked:List Int}{thing:Int}(h:∀k∈asked,lR W k)(hl:asked.length<=1000):iq [.d (ay W),.d (.tuple (asked.map .int)),.d (.int thing)]=some (.d (.int (W.many asked thing)),[.d (ay W),.d (.tuple (asked.map .int)),.d (.int thing)]):=by
 let cs:En:=[some (.d (.int thing)),some (.d (ay W))];have hc:∀x∈asked.map PyData.int,gh (cs++[some (.d x)])=some (Bz (λk=>W.has k thing) x,cs++[some (.d x)]):=λx hx=>by obtain⟨k,hk,rfl⟩:=Qa hx;simp?[Bz,cs,gh,ay,eP (h k hk),aI,aZ.has]
 have he:∀x∈asked.map PyData.int,Bz (λk=>W.has k thing) x=true->gq (cs++[some (.d x)])=some (.d (id x),cs++[some (.d x)]):=λx hx _=>by simp?[cs,gq]
 obtain⟨t',hf⟩:=bE (cs:=cs) (ft:=gh) (fe:=gq) (b:=Bz (λk=>W.has k thing)) (y:=id) (asked.map PyData.int) none [] hc he ↥7;have hv:=gN (cp:=[(2,"_law_thing"),(0,"_law_web_here")]) (nT:=1) (fi:=o5) (g:=ah 2) (ft:=gh) (fe:=gq) (e:=[some (.d (ay W)),some (.d (.tuple (asked.map PyData.int))),some (.d (.int thing))]) (cs:=cs) (t:=[none]) (t':=[t']) (uS (fa:=af 1) rfl) rfl rfl hf;have hlen:(([]++List.map id (List.filter (Bz (λk=>W.has k thing)) (asked.map PyData.int))).length:Int)=W.many asked thing:=by unfold aZ.many;simp[List.filter_map];rfl
 simp only[iq,sT,gQ,k',aC,ky,bx,eM,aN,dm,jo,pM,rD,aX,ax,um,af,vC,cQ,am,ac,bo,aF,bR,lV,Am,nM,Bs,pC,xR,pE,uk,fD,fg,cG,bD,wN,fM,iB,mM,eR,bL,sE,vE,a8,aq,ah,aY,cA,aS,bw,vd,eC,cW,dy,iX,i7,i5,iZ,iY,gw,eZ,gy,eF,gu,oV,gv,kQ,oW,kU,i6,kR,kS,gB,gA,eG,gC,l5,fF,fH,jT,jU,oI,eE,eD,dU,i4,Qu,-Rw,-QB,-QI,-Su,-QC,-RP,-getElem?_pos,-RF,oS,oR,oM,oK,oP,oQ,oO,oT];simp?[hv];simpa using hlen
theorem C2{W:aZ}(ok:W.Ok){thing:Int}(h0:0<=thing)(h1:thing<W.things):atI (W.pat.map PyData.int) thing=some (.int (W.pat.getD thing.toNat 0)):=vO h0 (by have:=ok.pl;lia)
theorem K4{W:aZ}(ok:W.Ok){asked taken:List Int}{k:Int}(h:∀k∈asked,lR W k)(hl:asked.length<=1000)(hk:lR W k):mZ [.d (ay W),.d (oJ asked taken),.d (.int k)]=some (.d (.bool (W.may asked taken k)),[.d (ay W),.d (oJ asked taken),.d (.int k)]):=by
 have tk:=hk.ok ok;have t0:=tk.o0;have t1:=tk.o1;have t2:=tk.o2;have p1:=C2 ok (thing:=(W.tie k).one) ↥0 ↥0;have p2:=C2 ok (thing:=(W.tie k).other) ↥0 ↥0;have a1:=uh (W:=W) (asked:=asked) (thing:=(W.tie k).one) h hl;have a2:=uh (W:=W) (asked:=asked) (thing:=(W.tie k).other) h hl;rw[cT]at a1 a2⊢;unfold aZ.may aZ.bears;by_cases c1:asked.contains k=true;·simp?[mZ,sV,oJ,c1];simp at c1;simp[c1]
 ·by_cases c2:W.asks<=(asked.length:Int)
  ·have c1':k∉asked:=by simpa using c1
   simp?[mZ,sV,oJ,c1',c2]
  ·have c1':k∉asked:=by simpa using c1
   have turn:∀(thing:Int) (v5:Option Sv),iq [.d (.tuple [.int W.things,.tuple (W.ties.map aI),.tuple (W.pat.map .int),.int W.asks]),.d (.tuple (asked.map .int)),.d (.int thing)]=some (.d (.int (W.many asked thing)),[.d (.tuple [.int W.things,.tuple (W.ties.map aI),.tuple (W.pat.map .int),.int W.asks]),.d (.tuple (asked.map .int)),.d (.int thing)])->atI (W.pat.map PyData.int) thing=some (.int (W.pat.getD thing.toNat 0))->jV [some (.d (.tuple [.int W.things,.tuple (W.ties.map aI),.tuple (W.pat.map .int),.int W.asks])),some (.d (oJ asked taken)),some (.d (.int k)),some (.d (.tuple (asked.map .int))),some (.d (.tuple (taken.map .int))),some (.d (.int thing))]=(if (!taken.contains thing&&decide (W.many asked thing<W.pat.getD thing.toNat 0))=true then some (.nx [some (.d (.tuple [.int W.things,.tuple (W.ties.map aI),.tuple (W.pat.map .int),.int W.asks])),some (.d (oJ asked taken)),some (.d (.int k)),some (.d (.tuple (asked.map .int))),some (.d (.tuple (taken.map .int))),some (.d (.int thing))]) else some (.rt (.d (.bool false)) [some (.d (.tuple [.int W.things,.tuple (W.ties.map aI),.tuple (W.pat.map .int),.int W.asks])),some (.d (oJ asked taken)),some (.d (.int k)),some (.d (.tuple (asked.map .int))),some (.d (.tuple (taken.map .int))),some (.d (.int thing))])):=by
    intro thing v5 ha hp;by_cases d1:taken.contains thing=true
    ·have d1':thing∈taken:=by simpa using d1
     simp?[jV,d1']
    ·have d1':thing∉taken:=by simpa using d1
     by_cases d2:W.many asked thing<W.pat.getD thing.toNat 0
     ·have d2':¬W.pat.getD thing.toNat 0<=W.many asked thing:=by lia
      simp only[Tf]at d2 d2' hp;simp?[jV,d1',ha,hp,d2,d2']
     ·have d2':W.pat.getD thing.toNat 0<=W.many asked thing:=by lia
      simp only[Tf]at d2 d2' hp;simp?[jV,d1',ha,hp,d2,d2']
   have u1:=turn (W.tie k).one none a1 p1;have u2:=turn (W.tie k).other none a2 p2;have hf:∀Wl,cx Wl zt (ah 5) jV [some (.d (.tuple [.int W.things,.tuple (W.ties.map aI),.tuple (W.pat.map .int),.int W.asks])),some (.d (oJ asked taken)),some (.d (.int k)),some (.d (.tuple (asked.map .int))),some (.d (.tuple (taken.map .int))),none]=j5 [] (ah 5) jV [.int (W.tie k).one,.int (W.tie k).other] [some (.d (.tuple [.int W.things,.tuple (W.ties.map aI),.tuple (W.pat.map .int),.int W.asks])),some (.d (oJ asked taken)),some (.d (.int k)),some (.d (.tuple (asked.map .int))),some (.d (.tuple (taken.map .int))),none]:=λWl=>by rw[dn];exact uS (by simp?[eP hk,aI])
   unfold oJ at u1 u2 hf⊢;by_cases e1:(!taken.contains (W.tie k).one&&decide (W.many asked (W.tie k).one<W.pat.getD (W.tie k).one.toNat 0))=true
   ·by_cases e2:(!taken.contains (W.tie k).other&&decide (W.many asked (W.tie k).other<W.pat.getD (W.tie k).other.toNat 0))=true;·rw[if_pos e1]at u1;rw[if_pos e2]at u2;rw[e1,e2];simp only[mZ,sV,gQ,k',aC,ky,bx,eM,aN,dm,jo,pM,rD,aX,ax,um,af,vC,cQ,am,ac,bo,aF,bR,lV,Am,nM,Bs,pC,xR,pE,uk,fD,fg,cG,bD,wN,fM,iB,mM,eR,bL,sE,vE,a8,aq,ah,aY,cA,aS,bw,vd,eC,cW,dy,iX,i7,i5,iZ,iY,gw,eZ,gy,eF,gu,oV,gv,kQ,oW,kU,i6,kR,kS,gB,gA,eG,gC,l5,fF,fH,jT,jU,oI,eE,eD,dU,i4,Qu,-Rw,-QB,-QI,-Su,-QC,-RP,-getElem?_pos,-RF,oS,oR,oM,oK,oP,oQ,oO,oT];simp?[c1',c2,hf,j5,u1,u2,bB]
    ·rw[if_pos e1]at u1;rw[if_neg e2]at u2;rw[e1,Bool.not_eq_true _|>.mp e2];simp only[mZ,sV,gQ,k',aC,ky,bx,eM,aN,dm,jo,pM,rD,aX,ax,um,af,vC,cQ,am,ac,bo,aF,bR,lV,Am,nM,Bs,pC,xR,pE,uk,fD,fg,cG,bD,wN,fM,iB,mM,eR,bL,sE,vE,a8,aq,ah,aY,cA,aS,bw,vd,eC,cW,dy,iX,i7,i5,iZ,iY,gw,eZ,gy,eF,gu,oV,gv,kQ,oW,kU,i6,kR,kS,gB,gA,eG,gC,l5,fF,fH,jT,jU,oI,eE,eD,dU,i4,Qu,-Rw,-QB,-QI,-Su,-QC,-RP,-getElem?_pos,-RF,oS,oR,oM,oK,oP,oQ,oO,oT];simp?[c1',c2,hf,j5,u1,u2,bB]
   ·rw[if_neg e1]at u1;rw[Bool.not_eq_true _|>.mp e1];simp only[mZ,sV,gQ,k',aC,ky,bx,eM,aN,dm,jo,pM,rD,aX,ax,um,af,vC,cQ,am,ac,bo,aF,bR,lV,Am,nM,Bs,pC,xR,pE,uk,fD,fg,cG,bD,wN,fM,iB,mM,eR,bL,sE,vE,a8,aq,ah,aY,cA,aS,bw,vd,eC,cW,dy,iX,i7,i5,iZ,iY,gw,eZ,gy,eF,gu,oV,gv,kQ,oW,kU,i6,kR,kS,gB,gA,eG,gC,l5,fF,fH,jT,jU,oI,eE,eD,dU,i4,Qu,-Rw,-QB,-QI,-Su,-QC,-RP,-getElem?_pos,-RF,oS,oR,oM,oK,oP,oQ,oO,oT];simp?[c1',c2,hf,j5,u1,bB]
theorem xI{W:aZ}{asked taken:List Int}{k:Int}(truth:Bool)(hk:lR W k)(h1:asked.length<60)(h2:taken.length<60):iG [.d (ay W),.d (oJ asked taken),.d (.int k),.d (.bool truth)]=some (.d (oJ (aZ.askd asked k) (W.took taken k truth)),[.d (ay W),.d (oJ asked taken),.d (.int k),.d (.bool truth)]):=by
 have s1:∀e,g1 j7 e [.d (.tuple (asked.map PyData.int++[.int k]))]=some (.l ((lq (asked++[k])).map .int)):=λe=>by have:=qE (e:=e) (ns:=asked++[k]) ↥7;simpa using this
 have s2:∀e,g1 j7 e [.d (.tuple (taken.map PyData.int++[.int (W.tie k).one,.int (W.tie k).other]))]=some (.l ((lq (taken++[(W.tie k).one,(W.tie k).other])).map .int)):=λe=>by have:=qE (e:=e) (ns:=taken++[(W.tie k).one,(W.tie k).other]) ↥7;simpa using this
 have g1':∀e,bF e (.d (.tuple (asked.map .int))) (.d (.tuple [.int k]))=some (.d (.tuple (asked.map .int++[.int k]))):=λe=>j6 ↥7;have g2':∀e,bF e (.d (.tuple (taken.map .int))) (.d (.tuple [.int (W.tie k).one,.int (W.tie k).other]))=some (.d (.tuple (taken.map .int++[.int (W.tie k).one,.int (W.tie k).other]))):=λe=>j6 ↥7;rw[cT];cases truth with|true=>simp?[iG,qf,oJ,eP hk,aI,g1',g2',s1,s2,aZ.askd,aZ.took]|false=>simp?[iG,qf,oJ,g1',s1,aZ.askd,aZ.took]
theorem Bj{W:aZ}(ok:W.Ok){asked taken:List Int}(h:∀k∈asked,lR W k)(hl:asked.length<=1000):jC [.d (ay W),.d (oJ asked taken)]=some (.l ((W.can asked taken).map .int),[.d (ay W),.d (oJ asked taken)]):=by
 let cs:En:=[some (.d (ay W)),some (.d (oJ asked taken))];have wl:=ok.len;have hc:∀x∈aT 0 W.ties.length,gg (cs++[some (.d x)])=some (Bz (λk=>W.may asked taken k) x,cs++[some (.d x)]):=λx hx=>by obtain⟨i,hi⟩:=Tg hx;obtain⟨rfl,hi⟩:=cP hi;have:=K4 ok (taken:=taken) h hl (k:=0+(i:Int)) ⟨by lia,by lia⟩;simp only[Th]at this;simp?[Bz,cs,gg,this]
 have he:∀x∈aT 0 W.ties.length,Bz (λk=>W.may asked taken k) x=true->gn (cs++[some (.d x)])=some (.d (id x),cs++[some (.d x)]):=λx hx _=>by simp?[cs,gn]
 obtain⟨t',hf⟩:=bE (cs:=cs) (ft:=gg) (fe:=gn) (b:=Bz (λk=>W.may asked taken k)) (y:=id) (aT 0 W.ties.length) none [] hc he (by rw[bI];simp;lia);have hv:=gN (cp:=[(0,"_law_web_here"),(1,"_law_stand")]) (nT:=1) (fi:=kX) (g:=ah 2) (ft:=gg) (fe:=gn) (e:=[some (.d (ay W)),some (.d (oJ asked taken))]) (cs:=cs) (t:=[none]) (t':=[t']) (show kX [some (.d (ay W)),some (.d (oJ asked taken))]=some (aT 0 W.ties.length,[],[some (.d (ay W)),some (.d (oJ asked taken))]) from cf (n:=(W.ties.length:Int)) (by rw[cT];simp?[Qu]) ↥0 ↥0) rfl rfl hf;rw[QI,List.map_id,Bb]at hv;simp only[jC,sS,gQ,k',aC,ky,bx,eM,aN,dm,jo,pM,rD,aX,ax,um,af,vC,cQ,am,ac,bo,aF,bR,lV,Am,nM,Bs,pC,xR,pE,uk,fD,fg,cG,bD,wN,fM,iB,mM,eR,bL,sE,vE,a8,aq,ah,aY,cA,aS,bw,vd,eC,cW,dy,iX,i7,i5,iZ,iY,gw,eZ,gy,eF,gu,oV,gv,kQ,oW,kU,i6,kR,kS,gB,gA,eG,gC,l5,fF,fH,jT,jU,oI,eE,eD,dU,i4,Qu,-Rw,-QB,-QI,-Su,-QC,-RP,-getElem?_pos,-RF,oS,oR,oM,oK,oP,oQ,oO,oT];simp?[hv]
def gE(ds:List Int)(W:aZ)(most:Int)(T:List Nd)(ws:List Wt)(v5 v6 v7 v8 v9 v10:Option Sv):En:=[some (.l (ds.map .int)),some (.d (ay W)),some (.d (.int most)),some (.n (T.map AW)),some (.l (ws.map By)),v5,v6,v7,v8,v9,v10]
theorem Jt{W:aZ}(ok:W.Ok){ds:List Int}{most:Int}{T:List Nd}{S:Nat->Std}{w:Wt}{ws:List Wt}{v5 v6 v7 v8 v9 v10:Option Sv}(hd:jz ds)(h:uo W T S (w::ws))(hT:T.length<=1000)(hw:ws.length<=5000):∃ds' T' S' ws' u5 u6 u7 u8 u9 u10,cY (gE ds W most T (w::ws) v5 v6 v7 v8 v9 v10)=some (.nx (gE ds' W most T' ws' u5 u6 u7 u8 u9 u10))/\jz ds'/\uo W T' S' ws'/\((T'.length=T.length/\ws'.length=ws.length)\/((T.length:Int)<most/\T'.length=T.length+1/\ws'.length=ws.length+2)):=by
 obtain⟨n,d1,t1,-,-,hd1⟩:=iS hd;obtain⟨hs,hp⟩:=h.wt w ↥1;have hl:=hs.len;have hl2:=hs.tk;have wl:=ok.len;have ta:=Bj ok (asked:=w.st.1) (taken:=w.st.2) hs.inw ↥0;have q8:∀e:En,e[8]?=some (some (.l ((W.can w.st.1 w.st.2).map .int)))->eh true e (.s 8) (.l [])=some (.d (.bool (!((W.can w.st.1 w.st.2).map PyData.int).isEmpty))):=λe he=>by have:=mQ (neg:=true) he (pA _).1;simpa using this
 have gm:∀e:En,be e (.d (.int n)) (.d (.int 7))=some (.d (.int (n%7))):=λe=>aW ⋯;have gd:∀e:En,dj e (.d (.int n)) (.d (.int 7))=some (.d (.int (n/7))):=λe=>dN ⋯ (jX ⋯ ⋯);by_cases c:(W.can w.st.1 w.st.2)≠[]/\(T.length:Int)<most/\(n%7≠6\/w.par<0);case neg=>
  refine⟨d1,T,S,ws,some (.d (oJ w.st.1 w.st.2)),some (.d (.int w.par)),some (.d (.int w.side)),some (.l ((W.can w.st.1 w.st.2).map .int)),some (.d (.int n)),v10,?_,hd1,h.less,.inl ⟨rfl,rfl⟩⟩;by_cases c1:W.can w.st.1 w.st.2=[];·rw[c1]at ta q8;simp?[gE,cY,t1,ta,By,q8,c1]
  ·by_cases c2:(T.length:Int)<most
   ·have c3:n%7=6:=by
     by_cases z:n%7=6;·exact z
     ·exact absurd ⟨c1,c2,.inl z⟩ c
    have c4:¬w.par<0:=λz=>c ⟨c1,c2,.inr z⟩;simp?[gE,cY,t1,ta,By,q8,gm,gd,c1,c2,c3,c4,lu,ck]
   ·simp?[gE,cY,t1,ta,By,q8,gm,gd,c1,c2,lu,ck]
 case pos=>
  obtain⟨c1,c2,c3⟩:=c;have cl:0<(W.can w.st.1 w.st.2).length:=VO.mpr c1;have gx:∀e:En,be e (.d (.int (n/7))) (.d (.int (W.can w.st.1 w.st.2).length))=some (.d (.int (n/7%(W.can w.st.1 w.st.2).length))):=λe=>aW ↥0;have x0:0<=n/7%((W.can w.st.1 w.st.2).length:Int):=Vk _ ↥0;have x1:n/7%((W.can w.st.1 w.st.2).length:Int)<(W.can w.st.1 w.st.2).length:=Vm _ ↥0;obtain⟨z,hz,hat⟩:=md (xs:=(W.can w.st.1 w.st.2).map PyData.int) x0 (by rw[Qz];exact x1);obtain⟨k,hk,rfl⟩:=Qa hz;obtain⟨k1,k2⟩:=EF hk;have b1:=xI (W:=W) (asked:=w.st.1) (taken:=w.st.2) true k1 ↥0 ↥0;have b2:=xI (W:=W) (asked:=w.st.1) (taken:=w.st.2) false k1 ↥0 ↥0;have more:=h.more ok k1 k2;have tl:T.length<1000000:=by lia
  have wl1:ws.length<1000000:=by lia
  have wl2:ws.length+1<1000000:=by lia
  have c3':n%7=6->w.par<0:=λz=>by
   rcases c3 with c3|c3;·exact absurd z c3
   ·exact c3
  refine⟨d1,_,_,_,some (.d (oJ w.st.1 w.st.2)),some (.d (.int w.par)),some (.d (.int w.side)),some (.l ((W.can w.st.1 w.st.2).map .int)),some (.d (.int n)),some (.d (.int k)),?_,hd1,more,.inr ⟨c2,by simp;split<;>simp,by simp⟩⟩;rcases hp with z|⟨p,x,z1,z2,z3⟩
  ·have g0:¬0<=w.par:=by lia
   have g1:w.par<0:=by lia
   rw[if_neg g0];simp?[gE,cY,t1,ta,By,q8,gm,gd,gx,c1,c2,hat,b1,b2,g0,g1,tl,wl1,wl2,lu,ck,nL,nxt,AW]
  ·have g0:0<=w.par:=by lia
   have g1:¬n%7=6:=λz=>by have:=c3' z;lia
   have pt:w.par.toNat=p:=by lia
   have pl:p<T.length:=(P_ z2).1;rw[if_pos g0,pt];have hix:yp T.length w.par=some p:=by unfold yp;rw[if_pos g0,if_pos ↥0,pt]
   have i1:yp 3 1=some 1:=rfl;have i2:yp 3 2=some 2:=rfl;rcases z3 with⟨s0,s1⟩|⟨s0,s1⟩;·have sl:=Be (n:=T.length) z2;rw[s0];simp?[gE,cY,t1,ta,By,q8,gm,gd,gx,c1,c2,hat,b1,b2,g0,g1,tl,wl1,wl2,lu,ck,nL,xw,CM,nC,qU,hix,i1,i2,z2,s0,nxt,AW,<-sl]
   ·have sl:=Bf (n:=T.length) z2;rw[s0];simp?[gE,cY,t1,ta,By,q8,gm,gd,gx,c1,c2,hat,b1,b2,g0,g1,tl,wl1,wl2,lu,ck,nL,xw,CM,nC,qU,hix,i1,i2,z2,s0,nxt,AW,<-sl]
def Fo(i:Nat)(e:En):Nat:=match ck e i with|some x=>x.length|none=>0
def Jw:Qg->Qg|.list xs=>.tuple xs|d=>d
theorem p6{W:aZ}(ok:W.Ok){ds:List Int}{most:Int}(hd:jz ds)(m0:0<=most)(m1:most<=400):∃ds' T S,e_ [.l (ds.map .int),.d (ay W),.d (.int most)]=some (.d (.tuple (T.map iA)),[.l (ds'.map .int),.d (ay W),.d (.int most)])/\jz ds'/\gU W T S/\(T.length:Int)<=most:=by
 have q4:∀(ws:List Wt) (e:En),e[4]?=some (some (.l (ws.map By)))->eh true e (.s 4) (.l [])=some (.d (.bool (!(ws.map By).isEmpty))):=λws e he=>by have:=mQ (neg:=true) he ((Sh.list (n:=8) λd hd=>by obtain⟨k,_,rfl⟩:=Qa hd;exact Sh.wt).ok ⋯);simpa using this
 have tst:∀ds T ws v5 v6 v7 v8 v9 v10,jy (gE ds W most T ws v5 v6 v7 v8 v9 v10)=some (!(ws.map By).isEmpty,gE ds W most T ws v5 v6 v7 v8 v9 v10):=λds T ws v5 v6 v7 v8 v9 v10=>by have:=q4 ws (gE ds W most T ws v5 v6 v7 v8 v9 v10) rfl;unfold gE at this⊢;simp?[jy,this]
 obtain⟨e0,e',hw,⟨d1,T,S,ws,v5,v6,v7,v8,v9,v10,rfl,hd1,hG,hT,hws⟩,hf⟩:=fY (ft:=jy) (f:=cY) (λe=>∃ds T S ws v5 v6 v7 v8 v9 v10,e=gE ds W most T ws v5 v6 v7 v8 v9 v10/\jz ds/\uo W T S ws/\(T.length:Int)<=most/\ws.length<=T.length+1) (λe=>i_ 4 e+2*(most.toNat-Fo 3 e)) (λe⟨d1,T,S,ws,v5,v6,v7,v8,v9,v10,he,hd1,hG,hT,hws⟩=>by subst he;cases ws with|nil=>exact .inl ⟨_,tst _ _ _ _ _ _ _ _ _,trivial⟩|cons w ws=>
  obtain⟨d2,T',S',ws',u5,u6,u7,u8,u9,u10,hb,hd2,hG2,hc⟩:=Jt ok (most:=most) (v5:=v5) (v6:=v6) (v7:=v7) (v8:=v8) (v9:=v9) (v10:=v10) hd1 hG ↥0 (by simp at hws;lia);simp only[Rk]at hws;refine .inr ⟨_,_,tst _ _ _ _ _ _ _ _ _,hb,⟨d2,T',S',ws',u5,u6,u7,u8,u9,u10,rfl,hd2,hG2,?_,?_⟩,?_⟩;·rcases hc with hc|hc<;>lia
  ·rcases hc with hc|hc<;>lia
  ·have l1:∀ds T ws v5 v6 v7 v8 v9 v10,i_ 4 (gE ds W most T ws v5 v6 v7 v8 v9 v10)=ws.length:=λds T ws v5 v6 v7 v8 v9 v10=>by simp[gE,i_]
   have l2:∀ds T ws v5 v6 v7 v8 v9 v10,Fo 3 (gE ds W most T ws v5 v6 v7 v8 v9 v10)=T.length:=λds T ws v5 v6 v7 v8 v9 v10=>by simp[gE,Fo,ck]
   simp only[l1,l2,Rk];rcases hc with hc|hc<;>lia) (2^4200) (gE ds W most [] [⟨([],[]),-1,0⟩] none none none none none none) ⟨ds,[],λ_=>([],[]),[⟨([],[]),-1,0⟩],none,none,none,none,none,none,rfl,hd,⟨λi x h=>(by simp at h),λw hw=>(by simp at hw;subst hw;exact⟨qb.first W,.inl rfl⟩),λw hw=>(by simp at hw;subst hw;exact .inl rfl)⟩,m0,by simp⟩ (lH (m:=20) (by simp[gE,i_,Fo,ck];lia) ⋯);rw[tst]at hf;have hw0:ws=[]:=by cases ws with|nil=>rfl|cons a r=>simp at hf
 subst hw0;simp at hf;subst hf;refine⟨d1,T,S,?_,hd1,hG.tr,hT⟩;obtain⟨t',hc⟩:=bE (cs:=[]) (ft:=a_) (fe:=lB) (b:=λ_=>true) (y:=Jw) ((T.map AW).map PyData.list) none [] (λx hx=>rfl) (λx hx _=>by obtain⟨xs,_,rfl⟩:=Qa hx;simp?[lB,Jw]) ↥7;have hv:=gN (cp:=[]) (nT:=1) (fi:=tL) (g:=ah 0) (ft:=a_) (fe:=lB) (e:=gE d1 W most T [] v5 v6 v7 v8 v9 v10) (e1:=(gE d1 W most T [] v5 v6 v7 v8 v9 v10).set 3 (some (.d (.list ((T.map AW).map .list))))) (cs:=[]) (t:=[none]) (t':=[t']) rfl rfl rfl hc;have hl:([]++(((T.map AW).map PyData.list).filter λ_=>true).map Jw)=T.map iA:=by rw[QI,SJ.mpr ↥4,QE,QE];exact SV λx _=>rfl
 rw[hl]at hv;have hw':fV (2^4200) jy cY (gE ds W most [] [⟨([],[]),-1,0⟩] none none none none none none)=some (.nx (gE d1 W most T [] v5 v6 v7 v8 v9 v10)):=hw;unfold gE at hv hw';simp only[QB,Rw,By,oJ]at hw' hv;simp only[VP,VQ]at hv;simp?[e_,za,xx,hw',hv]
theorem oA(a b:Int)(hb:Bt 4000 b):cE [.d (.int a),.d (.int b)]=some (.d (.int (Qy a b)),[.d (.int a),.d (.int b)]):=by
 have tst:∀x y:Int,b_ [some (.d (.int x)),some (.d (.int y))]=some (!(y==0),[some (.d (.int x)),some (.d (.int y))]):=λx y=>by simp?[b_]
 obtain⟨e0,e',h1,⟨x,y,he,hg,hy⟩,h3⟩:=fY (ft:=b_) (f:=cH) (λe=>∃x y,e=[some (.d (.int x)),some (.d (.int y))]/\Qy x y=Qy a b/\Bt 4000 y) (tT 1) (λe⟨x,y,he,hg,hy⟩=>by
  subst he;rw[tst];by_cases c:y=0;·subst c;exact .inl ⟨_,rfl,trivial⟩
  ·refine .inr ⟨_,[some (.d (.int y)),some (.d (.int (x.fmod y)))],by rw[beq_false_of_ne c];rfl,by simp?[cH,Cf c],⟨y,x.fmod y,rfl,by rw[wy,hg],?_⟩,?_⟩;·have:=iW x c;exact Bt.of_le hy ↥0
   ·have:=iW x c;simpa[tT]using this) (2^4200) _ ⟨a,b,rfl,rfl,hb⟩ (lH (m:=4000) (by simpa[tT,Bt]using hb) ⋯);subst he;rw[tst]at h3;have h4:=Prod.mk.inj (QY h3);have hy0:y=0:=by simpa using h4.1
 subst hy0;have h5:=h4.2;subst h5;have hs:fV (2^4200) b_ cH [some (.d (.int a)),some (.d (.int b))]=some (.nx [some (.d (.int x)),some (.d (.int 0))]):=h1;have hg':(x.natAbs:Int)=(Qy a b:Int):=by rw[<-hg];simp
 simp only[cE,jw,gQ,k',aC,ky,bx,eM,aN,dm,jo,pM,rD,aX,ax,um,af,vC,cQ,am,ac,bo,aF,bR,lV,Am,nM,Bs,pC,xR,pE,uk,fD,fg,cG,bD,wN,fM,iB,mM,eR,bL,sE,vE,a8,aq,ah,aY,cA,aS,bw,vd,eC,cW,dy,iX,i7,i5,iZ,iY,gw,eZ,gy,eF,gu,oV,gv,kQ,oW,kU,i6,kR,kS,gB,gA,eG,gC,l5,fF,fH,jT,jU,oI,eE,eD,dU,i4,Qu,-Rw,-QB,-QI,-Su,-QC,-RP,-getElem?_pos,-RF,oS,oR,oM,oK,oP,oQ,oO,oT];simp?[hs,hg']
theorem rZ(t b:Int)(hb:0<b)(h:Bt 4000 b):ff [.d (.int t),.d (.int b)]=some (.d (dF (lowM t b)),[.d (.int t),.d (.int b)]):=by
 have g0:=uP (t:=t) (b:=b) ↥0;have g1:(Qy t b:Int)≠0:=by lia
 have g8:Bt 8000 (Qy t b:Int):=(Ci (t:=t) ↥0 h).mono ⋯;have e:lowM t b=(t.fdiv (Qy t b:Int),b.fdiv (Qy t b:Int)):=by unfold lowM;rw[if_neg ↥0]
 have nb:¬b<0:=by lia
 rw[e];simp?[ff,vP,oA t b h,zr g1 g8,nb,dF]
theorem Ai{a b:Fr}{n:Nat}(a2:0<a.2)(b2:0<b.2)(ha1:Bt n a.1)(ha:Bt n a.2)(hb1:Bt n b.1)(hb:Bt n b.2)(hn:n<=1900):ia [.d (dF a),.d (dF b)]=some (.d (dF (tm a b)),[.d (dF a),.d (dF b)]):=by have g1:∀e:En,dz e (.d (.int a.1)) (.d (.int b.1))=some (.d (.int (a.1*b.1))):=λe=>cD (jk (ha1.mono ↥0) (hb1.mono ↥0));have g2:∀e:En,dz e (.d (.int a.2)) (.d (.int b.2))=some (.d (.int (a.2*b.2))):=λe=>cD (jk (ha.mono ↥0) (hb.mono ↥0));have tl:=rZ (a.1*b.1) (a.2*b.2) (Rx a2 b2) ((ha.mul hb).mono ↥0);unfold tm;unfold dF at*;simp?[ia,zh,g1,g2,tl]
theorem vy{a b:Fr}{n:Nat}(a2:0<a.2)(b2:0<b.2)(ha1:Bt n a.1)(ha:Bt n a.2)(hb1:Bt n b.1)(hb:Bt n b.2)(hn:n<=1900):f9 [.d (dF a),.d (dF b)]=some (.d (dF (tm a b)),[.d (dF a),.d (dF b)]):=by have g1:∀e:En,dz e (.d (.int a.1)) (.d (.int b.1))=some (.d (.int (a.1*b.1))):=λe=>cD (jk (ha1.mono ↥0) (hb1.mono ↥0));have g2:∀e:En,dz e (.d (.int a.2)) (.d (.int b.2))=some (.d (.int (a.2*b.2))):=λe=>cD (jk (ha.mono ↥0) (hb.mono ↥0));have tl:=Ag (a.1*b.1) (a.2*b.2) (Rx a2 b2) ((ha.mul hb).mono ↥0);unfold tm;unfold dF at*;simp?[f9,ze,g1,g2,tl]
theorem Js{a b:Fr}{n:Nat}(a2:0<a.2)(b2:0<b.2)(ha1:Bt n a.1)(ha:Bt n a.2)(hb1:Bt n b.1)(hb:Bt n b.2)(hn:n<=1900):nY [.d (dF a),.d (dF b)]=some (.d (dF (pl a b)),[.d (dF a),.d (dF b)]):=by have g1:∀e:En,dz e (.d (.int a.1)) (.d (.int b.2))=some (.d (.int (a.1*b.2))):=λe=>cD (jk (ha1.mono ↥0) (hb.mono ↥0));have g3:∀e:En,dz e (.d (.int b.1)) (.d (.int a.2))=some (.d (.int (b.1*a.2))):=λe=>cD (jk (hb1.mono ↥0) (ha.mono ↥0));have g2:∀e:En,dz e (.d (.int a.2)) (.d (.int b.2))=some (.d (.int (a.2*b.2))):=λe=>cD (jk (ha.mono ↥0) (hb.mono ↥0));have tl:=rZ (a.1*b.2+b.1*a.2) (a.2*b.2) (Rx a2 b2) ((ha.mul hb).mono ↥0);unfold pl;unfold dF at*;simp?[nY,BP,g1,g2,g3,tl]
theorem D7{a b:Fr}{n:Nat}(a2:0<a.2)(b2:0<b.2)(ha1:Bt n a.1)(ha:Bt n a.2)(hb1:Bt n b.1)(hb:Bt n b.2)(hn:n<=1900):mj [.d (dF a),.d (dF b)]=some (.d (dF (pl a b)),[.d (dF a),.d (dF b)]):=by have g1:∀e:En,dz e (.d (.int a.1)) (.d (.int b.2))=some (.d (.int (a.1*b.2))):=λe=>cD (jk (ha1.mono ↥0) (hb.mono ↥0));have g3:∀e:En,dz e (.d (.int b.1)) (.d (.int a.2))=some (.d (.int (b.1*a.2))):=λe=>cD (jk (hb1.mono ↥0) (ha.mono ↥0));have g2:∀e:En,dz e (.d (.int a.2)) (.d (.int b.2))=some (.d (.int (a.2*b.2))):=λe=>cD (jk (ha.mono ↥0) (hb.mono ↥0));have tl:=Ag (a.1*b.2+b.1*a.2) (a.2*b.2) (Rx a2 b2) ((ha.mul hb).mono ↥0);unfold pl;unfold dF at*;simp?[mj,BL,g1,g2,g3,tl]
theorem xN{n:Int}{t:gf}(o:t.Ok n):iI [.d (.tuple [.int t.top,.int t.bot])]=some (.d (dF (qo t false)),[.d (.tuple [.int t.top,.int t.bot])]):=by have b0:=o.b0;have b1:=o.b1;have tl:=rZ (t.bot-t.top) t.bot ↥0 (Bt.mono (m:=7) (by unfold Bt;lia) ⋯);rw[CJ ↥0 o.cop]at tl;simp?[iI,qj,tl,qo]
theorem Ad{t:gf}:ml [.d (.tuple [.int t.top,.int t.bot])]=some (.d (dF (qo t false)),[.d (.tuple [.int t.top,.int t.bot])]):=by simp?[ml,BM,qo,dF]
theorem rj:xY 1 ((1,1):Fr):=⟨by decide,by decide,by decide,UF _⟩
theorem l7{n:Int}{c0 a0:Option Sv}:∀(ts:List gf) (bs:List Bool) (M:Int) (k:Nat) (a:Fr) (v3 v4:Option Sv),(∀t∈ts,t.Ok n)->bs.length=ts.length->0<M->Bt k M->k+7*ts.length<=120->xY M a->∃w3 w4,j5 [] (a8 (aq (ah 3) (aq (ah 4) aY))) cX (gP (ts.map aI) (bs.map .bool)) [c0,a0,some (.d (dF a)),v3,v4]=some (.nx [c0,a0,some (.d (dF (m_ a ts bs))),w3,w4])
 |[],[],M,k,a,v3,v4,_,_,_,_,_,_=>⟨v3,v4,rfl⟩|[],_::_,_,_,_,_,_,_,hl,_,_,_,_=>by simp at hl|_::_,[],_,_,_,_,_,_,hl,_,_,_,_=>by simp at hl|t::ts,b::bs,M,k,a,v3,v4,ho,hl,hM,hb,hk,h=>by
  have o:=ho t ↥1;have b0:=o.b0;have b1:=o.b1;have rc:=uu o b;simp only[Rk]at hk;obtain⟨c1,c2⟩:=h.bt hb hM;obtain⟨c3,c4⟩:=rc.bt (n:=7) (by unfold Bt;lia) ↥0;have tt:=vy (a:=a) (b:=qo t b) (n:=300) h.pos rc.pos (c1.mono ↥0) (c2.mono ↥0) (c3.mono ↥0) (c4.mono ↥0) ↥0;have to:=Ad (t:=t);obtain⟨w3,w4,ih⟩:=l7 (c0:=c0) (a0:=a0) ts bs (M*t.bot) (k+7) (tm a (qo t b)) (some (.d (aI t))) (some (.d (.bool b))) (λx hx=>ho x (by simp[hx])) (by simpa using hl) (Rx hM ↥0) (hb.mul (show Bt 7 t.bot by unfold Bt;lia)) ↥0 (h.tm rc);refine⟨w3,w4,?_⟩;have hg:a8 (aq (ah 3) (aq (ah 4) aY)) (.tuple [aI t,.bool b]) [c0,a0,some (.d (dF a)),v3,v4]=some [c0,a0,some (.d (dF a)),some (.d (aI t)),some (.d (.bool b))]:=rfl;have hbd:cX [c0,a0,some (.d (dF a)),some (.d (aI t)),some (.d (.bool b))]=some (.nx [c0,a0,some (.d (dF (tm a (qo t b)))),some (.d (aI t)),some (.d (.bool b))]):=by cases b with|true=>have e:dF (qo t true)=.tuple [.int t.top,.int t.bot]:=rfl;have gi:∀e:En,g1 mR e [.d (.bool true)]=some (.d (.int 1)):=λe=>rfl;rw[e]at tt;simp?[cX,to,tt,gi,aI]|false=>have gi:∀e:En,g1 mR e [.d (.bool false)]=some (.d (.int 0)):=λe=>rfl;simp?[cX,to,tt,gi,aI]
  simp only[QB,gP,j5,hg,QC,hbd];rw[if_pos bB];exact ih
theorem xH{W:aZ}(ok:W.Ok){bs:List Bool}(hl:bs.length=W.ties.length):gG [.d (ay W),.d (.tuple (bs.map .bool))]=some (.d (dF (m_ (1,1) W.ties bs)),[.d (ay W),.d (.tuple (bs.map .bool))]):=by
 have wl:=ok.len;have g1':∀e,ba e (.d (ay W)) (.d (.int 1))=some (.d (.tuple (W.ties.map aI))):=λe=>by rw[cT,gv,fH];rfl
 obtain⟨w3,w4,hf⟩:=l7 (c0:=some (.d (ay W))) (a0:=some (.d (.tuple (bs.map .bool)))) W.ties bs 1 1 (1,1) none none (λt ht=>ok.ties t ht) hl ⋯ (by unfold Bt;decide) ↥0 rj;have hs:∀Wl,cx Wl ji (a8 (aq (ah 3) (aq (ah 4) aY))) cX [some (.d (ay W)),some (.d (.tuple (bs.map .bool))),some (.d (.tuple [.int 1,.int 1])),none,none]=some (.nx [some (.d (ay W)),some (.d (.tuple (bs.map .bool))),some (.d (dF (m_ (1,1) W.ties bs))),w3,w4]):=λWl=>by rw[dn (items:=gP (W.ties.map aI) (bs.map .bool)) (e1:=[some (.d (ay W)),some (.d (.tuple (bs.map .bool))),some (.d (.tuple [.int 1,.int 1])),none,none]) (by simp?[ji,tM,g1'])];exact hf
 generalize dF (m_ (1,1) W.ties bs)=q at hs⊢;simp?[gG,oF,hs]
theorem LR{L:List Qg}{e:En}(h:e[0]?=some (some (.l L))):keeps [(0,L)] e:=λp hp=>by simp at hp;subst hp;exact h
theorem qp{n:Int}{L:List Qg}{a0:Option Sv}:∀(ts:List gf) (bs:List Bool) (M:Int) (k:Nat) (a:Fr) (v3 v4:Option Sv),(∀t∈ts,t.Ok n)->bs.length=ts.length->0<M->Bt k M->k+7*ts.length<=120->xY M a->∃w3 w4,j5 [(0,L)] (a8 (aq (ah 3) (aq (ah 4) aY))) cZ (gP (ts.map λt=>.tuple [.int t.top,.int t.bot]) (bs.map .bool)) [some (.l L),a0,some (.d (dF a)),v3,v4]=some (.nx [some (.l L),a0,some (.d (dF (m_ a ts bs))),w3,w4])
 |[],[],M,k,a,v3,v4,_,_,_,_,_,_=>⟨v3,v4,rfl⟩|[],_::_,_,_,_,_,_,_,hl,_,_,_,_=>by simp at hl|_::_,[],_,_,_,_,_,_,hl,_,_,_,_=>by simp at hl|t::ts,b::bs,M,k,a,v3,v4,ho,hl,hM,hb,hk,h=>by
  have o:=ho t ↥1;have b0:=o.b0;have b1:=o.b1;have rc:=uu o b;simp only[Rk]at hk;obtain⟨c1,c2⟩:=h.bt hb hM;obtain⟨c3,c4⟩:=rc.bt (n:=7) (by unfold Bt;lia) ↥0;have tt:=Ai (a:=a) (b:=qo t b) (n:=300) h.pos rc.pos (c1.mono ↥0) (c2.mono ↥0) (c3.mono ↥0) (c4.mono ↥0) ↥0;have to:=xN o;obtain⟨w3,w4,ih⟩:=qp (L:=L) (a0:=a0) ts bs (M*t.bot) (k+7) (tm a (qo t b)) (some (.d (.tuple [.int t.top,.int t.bot]))) (some (.d (.bool b))) (λx hx=>ho x (by simp[hx])) (by simpa using hl) (Rx hM ↥0) (hb.mul (show Bt 7 t.bot by unfold Bt;lia)) ↥0 (h.tm rc);refine⟨w3,w4,?_⟩;have hg:a8 (aq (ah 3) (aq (ah 4) aY)) (.tuple [.tuple [.int t.top,.int t.bot],.bool b]) [some (.l L),a0,some (.d (dF a)),v3,v4]=some [some (.l L),a0,some (.d (dF a)),some (.d (.tuple [.int t.top,.int t.bot])),some (.d (.bool b))]:=rfl;have hbd:cZ [some (.l L),a0,some (.d (dF a)),some (.d (.tuple [.int t.top,.int t.bot])),some (.d (.bool b))]=some (.nx [some (.l L),a0,some (.d (dF (tm a (qo t b)))),some (.d (.tuple [.int t.top,.int t.bot])),some (.d (.bool b))]):=by cases b with|true=>have e:dF (qo t true)=.tuple [.int t.top,.int t.bot]:=rfl;rw[e]at tt;simp?[cZ,tt]|false=>simp?[cZ,to,tt]
  simp only[QB,gP,j5,hg,QC,hbd];rw[if_pos (LR rfl)];exact ih
theorem xK{W:aZ}(ok:W.Ok){bs:List Bool}(hl:bs.length=W.ties.length):eJ [.l (W.ties.map λt=>.tuple [.int t.top,.int t.bot]),.d (.tuple (bs.map .bool))]=some (.d (dF (m_ (1,1) W.ties bs)),[.l (W.ties.map λt=>.tuple [.int t.top,.int t.bot]),.d (.tuple (bs.map .bool))]):=by
 have wl:=ok.len;obtain⟨w3,w4,hf⟩:=qp (L:=W.ties.map λt=>.tuple [.int t.top,.int t.bot]) (a0:=some (.d (.tuple (bs.map .bool)))) W.ties bs 1 1 (1,1) none none (λt ht=>ok.ties t ht) hl ⋯ (by unfold Bt;decide) ↥0 rj;have hs:∀Wl,(0∉Wl)->cx Wl jj (a8 (aq (ah 3) (aq (ah 4) aY))) cZ [some (.l (W.ties.map λt=>.tuple [.int t.top,.int t.bot])),some (.d (.tuple (bs.map .bool))),some (.d (.tuple [.int 1,.int 1])),none,none]=some (.nx [some (.l (W.ties.map λt=>.tuple [.int t.top,.int t.bot])),some (.d (.tuple (bs.map .bool))),some (.d (dF (m_ (1,1) W.ties bs))),w3,w4]):=λWl hW=>by
  unfold cx;have hc:(([(0,W.ties.map λt=>PyData.tuple [.int t.top,.int t.bot])]:jq).all λq=>!Wl.contains q.1)=true:=by simpa using hW
  rw[show jj _=some (gP (W.ties.map λt=>.tuple [.int t.top,.int t.bot]) (bs.map .bool),[(0,W.ties.map λt=>.tuple [.int t.top,.int t.bot])],[some (.l (W.ties.map λt=>.tuple [.int t.top,.int t.bot])),some (.d (.tuple (bs.map .bool))),some (.d (.tuple [.int 1,.int 1])),none,none]) from rfl,QC,if_pos hc];exact hf
 have hs':=hs (([3]++([4]++[]))++[2]) ⋯;generalize dF (m_ (1,1) W.ties bs)=q at hs'⊢;generalize W.ties.map (λt=>PyData.tuple [.int t.top,.int t.bot])=L at hs'⊢;simp only[Su,QI]at hs';simp?[eJ,oG,hs']
def dB(bs:List Bool):Qg:=.tuple (bs.map .bool)
theorem yJ{n:Nat}(h:n<=10):2^n<=1024:=QP (Vz ⋯ h) ⋯
theorem uM{e:En}{bs:List Bool}{b:Bool}(h:bs.length<=1000):bF e (.d (dB bs)) (.d (.tuple [.bool b]))=some (.d (dB (bs++[b]))):=by unfold dB;rw[j6 ↥7];simp
theorem sO{n:Nat}(hn:n<=10):c_ [.d (.int (n:Int))]=some (.l ((bv n).map dB),[.d (.int (n:Int))]):=by
 have step:∀(k:Nat) (v0 v2:Option Sv),k<=9->cS [v0,some (.l ((bv k).map dB)),v2]=some (.nx [v0,some (.l ((bv (k+1)).map dB)),v2]):=by
  intro k v0 v2 hk;obtain⟨pl,pr⟩:=jH k;have key:∀(rs:List (List Bool)) (t:En) (acc:List Qg),t.length=2->(∀r∈rs,r.length<=1000)->acc.length+2*rs.length<=1000000->∃t',kN (ah 0) a_ ef (ah 1) a_ cV (rs.map dB) t acc=some (acc++(rs.flatMap λr=>[r++[true],r++[false]]).map dB,t'):=by intro rs;induction rs with|nil=>intro t acc _ _ _;exact⟨t,by simp[kN]⟩|cons r rs ih=>
   intro t acc ht hr hl;obtain⟨a1,a2,rfl⟩:∃a1 a2,t=[a1,a2]:=by match t,ht with|[a1,a2],_=>exact⟨a1,a2,rfl⟩
   have hrl:=hr r ↥1;have gT:∀e,bF e (.d (dB r)) (.d (.tuple [.bool true]))=some (.d (dB (r++[true]))):=λe=>uM hrl;have gF:∀e,bF e (.d (dB r)) (.d (.tuple [.bool false]))=some (.d (dB (r++[false]))):=λe=>uM hrl;simp only[Rk]at hl;have l1:acc.length<1000000:=by lia
   have l2:acc.length+1<1000000:=by lia
   obtain⟨t',h⟩:=ih [some (.d (dB r)),some (.d (.bool false))] (acc++[dB (r++[true]),dB (r++[false])]) rfl (λx hx=>hr x (by simp[hx])) ↥7;refine⟨t',?_⟩;have hi:ef [some (.d (dB r)),a2]=some ([.bool true,.bool false],[],[some (.d (dB r)),a2]):=rfl;have hc:dh (ah 1) a_ cV [.bool true,.bool false] [some (.d (dB r)),a2] acc=some (acc++[dB (r++[true]),dB (r++[false])],[some (.d (dB r)),some (.d (.bool false))]):=by simp?[dh,a_,cV,gT,gF,l1,l2]
   have hg:ah 0 (dB r) [a1,a2]=some [some (.d (dB r)),a2]:=rfl;simp only[QB,kN,hg,QC,a_,if_true,hi,hc];rw[h];simp
  obtain⟨t',h3⟩:=key (bv k) [none,none] [] rfl (λr hr=>by have:=pr r hr;lia) (by have:=yJ (n:=k) ↥0;simp;lia);have hi:gY [v0,some (.l ((bv k).map dB)),v2]=some ((bv k).map dB,[(1,(bv k).map dB)],[v0,some (.l ((bv k).map dB)),v2]):=rfl;have hv:oC [] 2 gY (ah 0) a_ ef (ah 1) a_ cV [v0,some (.l ((bv k).map dB)),v2]=some (.l ((bv (k+1)).map dB),[v0,some (.l ((bv k).map dB)),v2]):=by unfold oC;rw[hi];simp only[QC];rw[if_pos ↥1,show mi [] 2 [v0,some (.l ((bv k).map dB)),v2]=[none,none]from rfl,h3];simp only[QC];rw[if_pos (by simp[iz])];congr 2;refine Sx λi=>?_;rw[ci];match h:([v0,some (.l ((bv k).map dB)),v2]:En)[i]? with|none=>rfl|some none=>rfl|some (some (.d x))=>rfl|some (some (.n x))=>rfl|some (some (.l x))=>rfl
  generalize (bv k).map dB=A at hv;generalize (bv (k+1)).map dB=B at hv⊢;simp?[cS,hv]
 obtain⟨e',h1,⟨v2,rfl⟩⟩:=cn (own:=[]) (g:=ah 2) (f:=cS) (λi e=>∃v2,e=[some (.d (.int (n:Int))),some (.l ((bv i).map dB)),v2]) (aT 0 n) 0 [some (.d (.int (n:Int))),some (.l ((bv 0).map dB)),none] (λi x e hx⟨v2,he⟩=>by subst he;obtain⟨rfl,hi⟩:=cP hx;rw[Ti];exact⟨_,_,rfl,step i _ _ ↥0,bB,_,rfl⟩) ⟨none,rfl⟩;rw[bI,Ti]at h1;have hs:∀Wl,cx Wl gZ (ah 2) cS [some (.d (.int (n:Int))),some (.l [.tuple []]),none]=some (.nx [some (.d (.int (n:Int))),some (.l ((bv n).map dB)),v2]):=λWl=>by have:=cf (fs:=ac (af 0) am) (e:=[some (.d (.int (n:Int))),some (.l [.tuple []]),none]) (e1:=[some (.d (.int (n:Int))),some (.l [.tuple []]),none]) (n:=(n:Int)) rfl ↥0 ↥0;rw[Sg]at this;rw[dn (show gZ _=_ from this)];exact h1
 generalize (bv n).map dB=A at hs⊢;simp?[c_,lZ,hs]
theorem ma{n:Nat}(hn:n<=10):cv [.d (.int (n:Int))]=some (.l ((aP n).map dB),[.d (.int (n:Int))]):=by
 have step:∀(k:Nat) (v0 v2:Option Sv),k<=9->cR [v0,some (.l ((aP k).map dB)),v2]=some (.nx [v0,some (.l ((aP (k+1)).map dB)),v2]):=by
  intro k v0 v2 hk;obtain⟨pl,pr⟩:=fQ k;have pw:=yJ (n:=k) ↥0;have one:∀(fe:FE) (b:Bool),(∀r:List Bool,r.length<=1000->fe [some (.d (dB r))]=some (.d (dB (r++[b])),[some (.d (dB r))]))->∃t',dh (ah 0) a_ fe ((aP k).map dB) [none] []=some (((aP k).map (·++[b])).map dB,t'):=λfe b hfe=>by
   obtain⟨t',h3⟩:=bE (cs:=[]) (ft:=a_) (fe:=fe) (b:=λ_=>true) (y:=λd=>match d with|.tuple ds=>.tuple (ds++[.bool b])|_=>.none) ((aP k).map dB) none [] ↥4 (λx hx _=>by obtain⟨r,hr,rfl⟩:=Qa hx;have:=hfe r (by have:=pr r hr;lia);rw[QI,this];simp[dB]) ↥7;refine⟨[]++[t'],?_⟩;rw[SJ.mpr ↥4,QE,QI]at h3;rw[QE];have e:Function.comp (λd:Qg=>match d with|.tuple ds=>PyData.tuple (ds++[.bool b])|_=>.none) dB=Function.comp dB (·++[b]):=by funext r;simp[dB]
   rw[e]at h3;exact h3
  obtain⟨t1,h1⟩:=one d_ true (λr hr=>by simp?[d_,uM hr]);obtain⟨t2,h2⟩:=one ed false (λr hr=>by simp?[ed,uM hr]);have hv1:bj [] 1 ki (ah 0) a_ d_ [v0,some (.l ((aP k).map dB)),v2]=some (.l (((aP k).map (·++[true])).map dB),[v0,some (.l ((aP k).map dB)),v2]):=jQ (own:=[(1,(aP k).map dB)]) rfl h1;have hv2:bj [] 1 kj (ah 0) a_ ed [v0,some (.l ((aP k).map dB)),v2]=some (.l (((aP k).map (·++[false])).map dB),[v0,some (.l ((aP k).map dB)),v2]):=jQ (own:=[(1,(aP k).map dB)]) rfl h2;have ga:∀e,bF e (.l (((aP k).map (·++[true])).map dB)) (.l (((aP k).map (·++[false])).map dB))=some (.l ((aP (k+1)).map dB)):=λe=>by rw[EU ↥7];simp[aP]
  generalize ((aP k).map (·++[true])).map dB=A at hv1 ga;generalize ((aP k).map (·++[false])).map dB=B at hv2 ga;generalize (aP (k+1)).map dB=C at ga⊢;generalize (aP k).map dB=D at hv1 hv2;simp?[cR,hv1,hv2,ga]
 obtain⟨e',h1,⟨v2,rfl⟩⟩:=cn (own:=[]) (g:=ah 2) (f:=cR) (λi e=>∃v2,e=[some (.d (.int (n:Int))),some (.l ((aP i).map dB)),v2]) (aT 0 n) 0 [some (.d (.int (n:Int))),some (.l ((aP 0).map dB)),none] (λi x e hx⟨v2,he⟩=>by subst he;obtain⟨rfl,hi⟩:=cP hx;rw[Ti];exact⟨_,_,rfl,step i _ _ ↥0,bB,_,rfl⟩) ⟨none,rfl⟩;rw[bI,Ti]at h1;have hs:∀Wl,cx Wl gW (ah 2) cR [some (.d (.int (n:Int))),some (.l [.tuple []]),none]=some (.nx [some (.d (.int (n:Int))),some (.l ((aP n).map dB)),v2]):=λWl=>by have:=cf (fs:=ac (af 0) am) (e:=[some (.d (.int (n:Int))),some (.l [.tuple []]),none]) (e1:=[some (.d (.int (n:Int))),some (.l [.tuple []]),none]) (n:=(n:Int)) rfl ↥0 ↥0;rw[Sg]at this;rw[dn (show gW _=_ from this)];exact h1
 generalize (aP n).map dB=A at hs⊢;simp?[cv,lW,hs]
def uE(T:List Nd)(ans:List Bool)(r:List (Int×Bool))(a:Int)(v4 v5 v6:Option Sv):En:=[some (.d (.tuple (T.map iA))),some (.d (.tuple (ans.map .bool))),some (.l (r.map dR)),some (.d (.int a)),v4,v5,v6]
theorem rY{W:aZ}(ok:W.Ok){T:List Nd}{S:Nat->Std}{ans:List Bool}(hT:gU W T S)(ha:ans.length=W.ties.length):et [.d (.tuple (T.map iA)),.d (.tuple (ans.map .bool))]=some (.d (.tuple ((rn T ans 17 (rt T)).map dR)),[.d (.tuple (T.map iA)),.d (.tuple (ans.map .bool))]):=by
 have tst:∀r a v4 v5 v6,eT (uE T ans r a v4 v5 v6)=some (decide (0<=a),uE T ans r a v4 v5 v6):=λr a v4 v5 v6=>by simp?[uE,eT]
 obtain⟨e0,e',hw,⟨r,a,v4,v5,v6,rfl,hr⟩,hf⟩:=fY (ft:=eT) (f:=hV) (λe=>∃r a v4 v5 v6,e=uE T ans r a v4 v5 v6/\jr W T S ans r a) (λe=>17-i_ 2 e) (λe⟨r,a,v4,v5,v6,he,hr⟩=>by
  subst he;by_cases c:0<=a
  ·obtain⟨h1,h2,h3,h4⟩:=hr.step ok hT c;have l1:∀r a v4 v5 v6,i_ 2 (uE T ans r a v4 v5 v6)=r.length:=λr a v4 v5 v6=>by simp[uE,i_]
   refine .inr ⟨uE T ans r a v4 v5 v6,uE T ans _ _ (some (.d (.int (gH T a).tie))) (some (.d (.int (gH T a).yes))) (some (.d (.int (gH T a).no))),(by rw[tst,decide_eq_true c]),?_,⟨_,_,_,_,_,rfl,h4⟩,by rw[l1,l1];simp;lia⟩;have n1:=BH c h1;have b1:=nO (bs:=ans) h3.1 (by rw[ha];exact h3.2);have rl:r.length<1000000:=by lia
   generalize ans.getD (gH T a).tie.toNat false=b at b1 h4;cases b<;>simp?[uE,hV,n1,iA,b1,dR,rl]
  ·exact .inl ⟨_,(by rw[tst,decide_eq_false c]),trivial⟩) (2^4200) (uE T ans [] (rt T) none none none) ⟨[],rt T,none,none,none,rfl,jr.first⟩ (lH (m:=20) (by simp[uE,i_]) ⋯);rw[tst]at hf;have c:¬0<=a:=by intro c;rw[decide_eq_true c]at hf;simp at hf
 rw[decide_eq_false c]at hf;simp at hf;subst hf;have hd:=hr.done ↥0;rw[<-hd];have hw':fV (2^4200) eT hV (uE T ans [] (rt T) none none none)=some (.nx (uE T ans r a v4 v5 v6)):=hw;have hrt:((-1:Int)+if 0<T.length then 1 else 0)=rt T:=by
  unfold rt;by_cases z:T.length=0;·simp[z]
  ·have:0<T.length:=by lia
   simp[z,this]
 unfold uE at hw';simp only[Rw]at hw';simp?[et,qh,hrt,hw']
def y3(W:aZ)(T:List Nd)(ans:List Bool)(r:List (Int×Bool))(a:Int)(v5 v6 v7:Option Sv):En:=[some (.d (ay W)),some (.d (.tuple (T.map iA))),some (.d (.tuple (ans.map .bool))),some (.l (r.map dR)),some (.d (.int a)),v5,v6,v7]
theorem yU{W:aZ}(ok:W.Ok){T:List Nd}{S:Nat->Std}{ans:List Bool}(hT:gU W T S)(ha:ans.length=W.ties.length):eu [.d (ay W),.d (.tuple (T.map iA)),.d (.tuple (ans.map .bool))]=some (.d (.tuple ((rn T ans 17 (rt T)).map dR)),[.d (ay W),.d (.tuple (T.map iA)),.d (.tuple (ans.map .bool))])/\Sz 1000 6 (.tuple ((rn T ans 17 (rt T)).map dR)):=by
 have tst:∀r a v5 v6 v7,eU (y3 W T ans r a v5 v6 v7)=some (!(a==-1),y3 W T ans r a v5 v6 v7):=λr a v5 v6 v7=>by simp?[y3,eU]
 obtain⟨e0,e',hw,⟨r,a,v5,v6,v7,rfl,hr⟩,hf⟩:=fY (ft:=eU) (f:=hX) (λe=>∃r a v5 v6 v7,e=y3 W T ans r a v5 v6 v7/\jr W T S ans r a) (λe=>17-i_ 3 e) (λe⟨r,a,v5,v6,v7,he,hr⟩=>by
  subst he;by_cases z:a=-1;·exact .inl ⟨y3 W T ans r a v5 v6 v7,(by rw[tst];simp[z]),trivial⟩
  ·have c:0<=a:=by rcases hr.at' with y|y<;>lia
   obtain⟨h1,h2,h3,h4⟩:=hr.step ok hT c;have l1:∀r a v5 v6 v7,i_ 3 (y3 W T ans r a v5 v6 v7)=r.length:=λr a v5 v6 v7=>by simp[y3,i_]
   refine .inr ⟨y3 W T ans r a v5 v6 v7,y3 W T ans _ _ (some (.d (.int (gH T a).tie))) (some (.d (.int (gH T a).yes))) (some (.d (.int (gH T a).no))),(by rw[tst];simp[z]),?_,⟨_,_,_,_,_,rfl,h4⟩,by rw[l1,l1];simp;lia⟩;have n1:=BH c h1;have b1:=nO (bs:=ans) h3.1 (by rw[ha];exact h3.2);have rl:r.length<1000000:=by lia
   generalize ans.getD (gH T a).tie.toNat false=b at b1 h4;cases b<;>simp?[y3,hX,n1,iA,b1,dR,rl]) (2^4200) (y3 W T ans [] (rt T) none none none) ⟨[],rt T,none,none,none,rfl,jr.first⟩ (lH (m:=20) (by simp[y3,i_]) ⋯);rw[tst]at hf;have c:a=-1:=by
  by_cases c:a=-1;·exact c
  ·simp[c]at hf
 simp[c]at hf;subst hf;have hd:=hr.done ↥0;rw[<-hd];refine⟨?_,Sz.run ok hr.len hr.inw⟩;have hw':fV (2^4200) eU hX (y3 W T ans [] (rt T) none none none)=some (.nx (y3 W T ans r a v5 v6 v7)):=by rw[c];exact hw
 unfold y3 rt at hw';simp only[Rw]at hw';by_cases z:T.length=0;·simp only[if_pos z]at hw';simp?[eu,me,z,hw']
 ·have z2:0<T.length:=by lia
  simp only[if_neg z]at hw';simp?[eu,me,z2,hw']
theorem DM{W:aZ}(ok:W.Ok){T:List Nd}{S:Nat->Std}(hT:gU W T S){ans:List Bool}:∀(n:Nat) (r:List (Int×Bool)) (a:Int),16-r.length=n->jr W T S ans r a->(rn T ans 17 (rt T)).length<=16/\∀p∈rn T ans 17 (rt T),lR W p.1
 |n,r,a,hn,h=>by
  by_cases c:0<=a;·obtain⟨_,h2,_,h4⟩:=h.step ok hT c;cases n with|zero=>lia|succ n=>exact DM ok hT n _ _ ↥7 h4
  ·rw[<-h.done ↥0];exact⟨h.len,h.inw⟩
theorem tW{W:aZ}(ok:W.Ok){T:List Nd}{S:Nat->Std}(hT:gU W T S)(ans:List Bool):(rn T ans 17 (rt T)).length<=16/\∀p∈rn T ans 17 (rt T),lR W p.1:=DM ok hT _ [] (rt T) rfl jr.first
def qN(r:List (Int×Bool)):List Int:=(r.filter (·.2)).map (·.1)
def kw(W:aZ)(r:List (Int×Bool)):Int:=((qN r).map λk=>(W.tie k).worth).sum
theorem zC{r:List (Int×Bool)}{k:Int}(h:k∈qN r):∃p∈r,p.1=k:=by unfold qN at h;obtain⟨p,hp,e⟩:=Qa h;exact⟨p,(Tv.mp hp).1,e⟩
theorem zB{r:List (Int×Bool)}:(qN r).length<=r.length:=by unfold qN;rw[Qz];exact List.length_filter_le _ _
theorem yR{W:aZ}(ok:W.Ok):∀(ks:List Int),(∀k∈ks,lR W k)->0<=(ks.map λk=>(W.tie k).worth).sum/\(ks.map λk=>(W.tie k).worth).sum<=1000*(ks.length:Int)|[],_=>by simp|k::ks,h=>by obtain⟨a,b⟩:=yR ok ks λk hk=>h k (by simp[hk]);have o:=(h k ↥1).ok ok;have:=o.w0;have:=o.w1;simp only[QB,UE,Rk];lia
theorem Cz{W:aZ}(ok:W.Ok){r:List (Int×Bool)}(hr:r.length<=16/\∀p∈r,lR W p.1):0<=kw W r/\kw W r<=16000:=by
 obtain⟨a,b⟩:=yR ok (qN r) λk hk=>by obtain⟨p,hp,rfl⟩:=zC hk;exact hr.2 p hp
 have:=zB (r:=r);unfold kw;lia
def wj:Qg->Qg|.tuple [a,_]=>a|_=>.none
def xG:Qg->Qg|.tuple [_,b]=>b|_=>.none
def tj:Qg->Bool|.bool b=>b|_=>false
def tN:Qg->Int|.int i=>i|_=>0
theorem zA{r:List (Int×Bool)}:((r.map dR).filter λd=>tj (xG d)).map wj=(qN r).map .int:=by induction r with|nil=>rfl|cons p r ih=>
 obtain⟨a,b⟩:=p;unfold qN at ih⊢;cases b;·exact ih
 ·exact congrArg (PyData.int a::·) ih
theorem Ij{W:aZ}{r:List (Int×Bool)}:((r.map dR).filter λd=>tj (xG d)).map (λd=>PyData.int (W.tie (tN (wj d))).worth)=((qN r).map λk=>(W.tie k).worth).map .int:=by
 have:((r.map dR).filter λd=>tj (xG d)).map (λd=>PyData.int (W.tie (tN (wj d))).worth)=(((r.map dR).filter λd=>tj (xG d)).map wj).map λd=>PyData.int (W.tie (tN d)).worth:=by rw[QE];rfl
 rw[this,zA,QE,QE];rfl
theorem Bl{r:List (Int×Bool)}(hl:r.length<=1000):jD [.d (.tuple (r.map dR))]=some (.d (.tuple ((qN r).map .int)),[.d (.tuple (r.map dR))]):=by obtain⟨t',e1,hf⟩:=fJ (cs:=[]) (g:=a8 (aq (ah 0) (aq (ah 1) aY))) (ft:=kM) (fe:=kO) (b:=λd=>tj (xG d)) (y:=wj) (u:=λd=>[some (.d (wj d)),some (.d (xG d))]) 2 (r.map dR) [none,none] [] rfl (λx hx t ht=>by obtain⟨p,hp,rfl⟩:=Qa hx;match t,ht with|[a1,a2],_=>rfl) (λx hx=>rfl) (λx hx=>by obtain⟨p,hp,rfl⟩:=Qa hx;rfl) (λx hx _=>by obtain⟨p,hp,rfl⟩:=Qa hx;rfl) ↥7;rw[QI,zA]at hf;have hv:bj [] 2 o8 (a8 (aq (ah 0) (aq (ah 1) aY))) kM kO [some (.d (.tuple (r.map dR)))]=some (.l ((qN r).map .int),[some (.d (.tuple (r.map dR)))]):=jQ (own:=[]) rfl hf;generalize (qN r).map PyData.int=A at*;generalize r.map dR=B at*;simp?[jD,sW,hv]
theorem KP{e:En}{ws:List Int}:g1 (oY tK) e [.l (ws.map .int)]=some (.d (.int ws.sum)):=by simp[g1,oY,gL,tK,nW]
theorem vA{W:aZ}{r:List (Int×Bool)}(hr:r.length<=16/\∀p∈r,lR W p.1):cM [.d (ay W),.d (.tuple (r.map dR))]=some (.d (.int (kw W r)),[.d (ay W),.d (.tuple (r.map dR))]):=by
 have g1':∀e:En,ba e (.d (ay W)) (.d (.int 1))=some (.d (.tuple (W.ties.map aI))):=λe=>by rw[cT,gv,fH];rfl
 have kl:=zB (r:=r);have tk:=Bl (r:=r) ↥0;obtain⟨t1,hf1⟩:=bE (cs:=[some (.d (ay W))]) (ft:=a_) (fe:=eY) (b:=λ_=>true) (y:=λx=>.int (W.tie (tN x)).worth) ((qN r).map .int) none [] (λx hx=>rfl) (λx hx _=>by obtain⟨k,hk',rfl⟩:=Qa hx;obtain⟨p,hp,rfl⟩:=zC hk';have ai:=eP (W:=W) (k:=p.1) (hr.2 p hp);show eY [some (.d (ay W)),some (.d (.int p.1))]=some (.d (.int (W.tie p.1).worth),[some (.d (ay W)),some (.d (.int p.1))]);unfold aI at ai g1';generalize (W.tie p.1).worth=w at*;generalize (W.ties.map λt=>PyData.tuple [.int t.one,.int t.other,.tuple [.int t.top,.int t.bot],.int t.worth])=TT at*;simp?[eY,g1',ai]) ↥7;rw[QI,SJ.mpr ↥4,show(((qN r).map PyData.int).map λx=>PyData.int (W.tie (tN x)).worth)=((qN r).map λk=>(W.tie k).worth).map .int by rw[QE,QE];rfl]at hf1;have hi:kZ [some (.d (ay W)),some (.d (.tuple (r.map dR)))]=some ((qN r).map .int,[],[some (.d (ay W)),some (.d (.tuple (r.map dR)))]):=uS (by generalize (qN r).map PyData.int=A at*;simp?[tk]);have hv:=iP (cp:=[(0,"web")]) (nT:=1) (g:=ah 1) hi hf1 rfl;have s:=λe:En=>KP (e:=e) (ws:=(qN r).map λk=>(W.tie k).worth);unfold kw;generalize ((qN r).map λk=>(W.tie k).worth).sum=w at*;generalize ((qN r).map λk=>(W.tie k).worth).map PyData.int=A at*;simp?[cM,mH,hv,s]
theorem D6{W:aZ}{r:List (Int×Bool)}(hr:r.length<=16/\∀p∈r,lR W p.1):k_ [.d (ay W),.d (.tuple (r.map dR))]=some (.d (.int (kw W r)),[.d (ay W),.d (.tuple (r.map dR))]):=by
 have g1':∀e:En,ba e (.d (ay W)) (.d (.int 1))=some (.d (.tuple (W.ties.map aI))):=λe=>by rw[cT,gv,fH];rfl
 obtain⟨t',e1,hf⟩:=fJ (cs:=[some (.d (ay W))]) (g:=a8 (aq (ah 1) (aq (ah 2) aY))) (ft:=vQ) (fe:=mO) (b:=λd=>tj (xG d)) (y:=λd=>.int (W.tie (tN (wj d))).worth) (u:=λd=>[some (.d (wj d)),some (.d (xG d))]) 2 (r.map dR) [none,none] [] rfl (λx hx t ht=>by obtain⟨p,hp,rfl⟩:=Qa hx;match t,ht with|[a1,a2],_=>rfl) (λx hx=>rfl) (λx hx=>by obtain⟨p,hp,rfl⟩:=Qa hx;rfl) (λx hx _=>by obtain⟨p,hp,rfl⟩:=Qa hx;have ai:=eP (W:=W) (k:=p.1) (hr.2 p hp);show mO [some (.d (ay W)),some (.d (.int p.1)),some (.d (.bool p.2))]=some (.d (.int (W.tie p.1).worth),[some (.d (ay W)),some (.d (.int p.1)),some (.d (.bool p.2))]);unfold aI at ai g1';generalize (W.tie p.1).worth=w at*;generalize (W.ties.map λt=>PyData.tuple [.int t.one,.int t.other,.tuple [.int t.top,.int t.bot],.int t.worth])=TT at*;simp?[mO,g1',ai]) ↥7;rw[QI,Ij]at hf;have hv:=iP (cp:=[(0,"_law_web_here")]) (nT:=2) (fi:=wz) (e:=[some (.d (ay W)),some (.d (.tuple (r.map dR)))]) rfl hf rfl;have s:=λe:En=>KP (e:=e) (ws:=(qN r).map λk=>(W.tie k).worth);unfold kw;generalize ((qN r).map λk=>(W.tie k).worth).sum=w at*;generalize ((qN r).map λk=>(W.tie k).worth).map PyData.int=A at*;simp?[k_,BK,hv,s]
theorem m5{W:aZ}(ok:W.Ok)(hn:W.ties.length<=10):0<qT 1 W.ties/\Bt 71 (qT 1 W.ties):=by obtain⟨a,b⟩:=wR (ts:=W.ties) (M:=1) (k:=1) (λt ht=>ok.ties t ht) ⋯ (by unfold Bt;decide);exact⟨a,b.mono ↥0⟩
theorem zJ{W:aZ}(ok:W.Ok)(hn:W.ties.length<=10){bs:List Bool}(hl:bs.length=W.ties.length):0<(m_ (1,1) W.ties bs).2/\Bt 300 (m_ (1,1) W.ties bs).1/\Bt 300 (m_ (1,1) W.ties bs).2:=by obtain⟨m0,m1⟩:=m5 ok hn;have pr:=vg (λt ht=>ok.ties t ht) hl rj;obtain⟨c1,c2⟩:=pr.bt m1 m0;exact⟨pr.pos,c1.mono ⋯,c2.mono ⋯⟩
def EC(W:aZ)(x:List Bool->Fr):Prop:=∀b,b.length=W.ties.length->sv (qT 1 W.ties) 16000 (x b)
def sQ(W:aZ)(T:List Nd)(bs:List Bool):Fr:=tm (m_ (1,1) W.ties bs) (kw W (rn T bs 17 (rt T)),1)
theorem Ea{W:aZ}(ok:W.Ok){T:List Nd}{S:Nat->Std}(hT:gU W T S):EC W (sQ W T):=λbs hl=>by have pr:=vg (λt ht=>ok.ties t ht) hl rj;have hv:=Cz ok (tW ok hT bs);have:=pr.tmS (M:=1) (i:=16000) (y:=(kw W (rn T bs 17 (rt T)),1)) ⟨SA,hv.1,by show kw _ _<=16000*1;lia,UF _⟩;rw[Int.mul_one]at this;exact this
theorem J9{W:aZ}(ok:W.Ok){T:List Nd}{S:Nat->Std}(hT:gU W T S)(bs:List Bool):Bt 300 (kw W (rn T bs 17 (rt T)))/\Bt 300 (1:Int):=by have hv:=Cz ok (tW ok hT bs);exact⟨Bt.mono (m:=20) (by unfold Bt;lia) ⋯,Bt.mono (m:=1) (by unfold Bt;decide) ⋯⟩
theorem D2{W:aZ}(ok:W.Ok)(hn:W.ties.length<=10){x:List Bool->Fr}(hx:EC W x){L:List (List Bool)}(hL:∀b∈L,b.length=W.ties.length)(hl:L.length<=1024):0<(bM (0,1) (L.map x)).2/\Bt 300 (bM (0,1) (L.map x)).1/\Bt 300 (bM (0,1) (L.map x)).2:=by
 obtain⟨m0,m1⟩:=m5 ok hn;obtain⟨c1,_,_⟩:=p5 (M:=qT 1 W.ties) (j:=16000) (L.map x) (a:=(0,1)) (i:=0) (y4 (Int.le_refl 0)) vG ⋯ λf hf=>by obtain⟨b,hb,rfl⟩:=Qa hf;exact hx b (hL b hb)
 have bt:=c1.bt (n:=71) (m:=30) m1 m0 (by unfold Bt;rw[Qz];lia);exact⟨c1.pos,bt.1.mono ⋯,bt.2.mono ⋯⟩
theorem Eb{W:aZ}(ok:W.Ok)(hn:W.ties.length<=10){x:List Bool->Fr}(hx:EC W x){b:List Bool}(hb:b.length=W.ties.length):0<(x b).2/\Bt 300 (x b).1/\Bt 300 (x b).2:=by obtain⟨m0,m1⟩:=m5 ok hn;have ta:=hx b hb;have bt:=ta.bt (n:=71) (m:=20) m1 m0 (by unfold Bt;decide);exact⟨ta.pos,bt.1.mono ⋯,bt.2.mono ⋯⟩
abbrev Eu(W:aZ)(T:List Nd)(f:Fr)(v3 v4:Option Sv):En:=[some (.d (ay W)),some (.d (.tuple (T.map iA))),some (.d (dF f)),v3,v4]
theorem B4{W:aZ}(ok:W.Ok)(hn:W.ties.length<=10){T:List Nd}{S:Nat->Std}(hT:gU W T S){D:List (List Bool)}{b:List Bool}(hD:∀b∈D,b.length=W.ties.length)(hb:b.length=W.ties.length)(hl:D.length<1024)(v4:Option Sv):∃w4,du (Eu W T (bM (0,1) (D.map (sQ W T))) (some (.d (dB b))) v4)=some (.nx (Eu W T (bM (0,1) ((D++[b]).map (sQ W T))) (some (.d (dB b))) w4)):=by
 have hx:=Ea ok hT;obtain⟨s0,s1,s2⟩:=D2 ok hn hx hD ↥0;obtain⟨u0,u1,u2⟩:=Eb ok hn hx hb;have tp:=D7 (a:=bM (0,1) (D.map (sQ W T))) (b:=sQ W T b) (n:=300) s0 u0 s1 s2 u1 u2 ⋯;have es:pl (bM (0,1) (D.map (sQ W T))) (sQ W T b)=bM (0,1) ((D++[b]).map (sQ W T)):=by simp[bM]
 rw[es]at tp;have tc:=xH ok hb;have tr:=rY ok hT hb;have th:=D6 (tW ok hT b);obtain⟨p0,p1,p2⟩:=zJ ok hn hb;obtain⟨q1,q2⟩:=J9 ok hT b;have tt:=vy (a:=m_ (1,1) W.ties b) (b:=(kw W (rn T b 17 (rt T)),1)) (n:=300) p0 SA p1 p2 q1 q2 ⋯;change f9 _=some (.d (dF (sQ W T b)),_) at tt;have e0:dF (kw W (rn T b 17 (rt T)),1)=.tuple [.int (kw W (rn T b 17 (rt T))),.int 1]:=rfl;rw[e0]at tt;refine⟨some (.d (.tuple [.int (kw W (rn T b 17 (rt T))),.int 1])),?_⟩;unfold dB Eu;generalize dF (bM (0,1) ((D++[b]).map (sQ W T)))=z0 at tp⊢;generalize dF (bM (0,1) (D.map (sQ W T)))=z1 at tp⊢;generalize dF (sQ W T b)=z2 at tp tt;generalize dF (m_ (1,1) W.ties b)=z3 at tc tt;generalize kw W (rn T b 17 (rt T))=z4 at*;generalize (rn T b 17 (rt T)).map dR=z5 at tr th;generalize T.map iA=TT at*;simp?[du,tr,tc,th,tt,tp]
theorem vz{W:aZ}(ok:W.Ok)(hn:W.ties.length<=10){T:List Nd}{S:Nat->Std}(hT:gU W T S):cL [.d (ay W),.d (.tuple (T.map iA))]=some (.d (dF (bM (0,1) ((aP W.ties.length).map (sQ W T)))),[.d (ay W),.d (.tuple (T.map iA))]):=by
 have g1':∀e:En,ba e (.d (ay W)) (.d (.int 1))=some (.d (.tuple (W.ties.map aI))):=λe=>by rw[cT,gv,fH];rfl
 obtain⟨ql,qr⟩:=fQ W.ties.length;have pw:=yJ (n:=W.ties.length) ↥0;obtain⟨e3,h3,⟨w5,w6,rfl⟩⟩:=cn (own:=[]) (g:=ah 3) (f:=du) (λi e=>∃v3 v4,e=Eu W T (bM (0,1) (((aP W.ties.length).take i).map (sQ W T))) v3 v4) ((aP W.ties.length).map dB) 0 (Eu W T (0,1) none none) (λi x e hx⟨v5,v6,he⟩=>by
  subst he;rw[QD]at hx;obtain⟨b,hp1,rfl⟩:=P9 hx;have hi:i<(aP W.ties.length).length:=(P_ hp1).1;obtain⟨w6,st⟩:=B4 ok hn hT (D:=(aP W.ties.length).take (0+i)) (b:=b) (λx hx=>qr x (Vn hx)) (qr b (Qc hp1)) ↥7 v6;have e2:(aP W.ties.length).take (0+i+1)=(aP W.ties.length).take (0+i)++[b]:=by rw[List.take_succ,show(aP W.ties.length)[0+i]?=some b by simpa using hp1];simp
  rw[<-e2]at st;exact⟨_,_,rfl,st,bB,_,_,rfl⟩) ⟨none,none,rfl⟩;rw[show(aP W.ties.length).take (0+((aP W.ties.length).map dB).length)=aP W.ties.length by simp]at h3;have tl:=ma (n:=W.ties.length) ↥0;have hf:∀Wl,cx Wl iD (ah 3) du (Eu W T (0,1) none none)=some (.nx (Eu W T (bM (0,1) ((aP W.ties.length).map (sQ W T))) w5 w6)):=λWl=>by rw[dn (show iD (Eu W T (0,1) none none)=some ((aP W.ties.length).map dB,[],Eu W T (0,1) none none) from uT (by simp?[g1',tl]))];exact h3
 unfold Eu at hf;have e01:dF ((0,1):Fr)=.tuple [.int 0,.int 1]:=rfl;rw[e01]at hf;generalize dF (bM (0,1) ((aP W.ties.length).map (sQ W T)))=z at*;generalize T.map iA=TT at*;simp?[cL,mG,hf]
theorem Mi{W:aZ}(e:En):ba e (.d (ay W)) (.d (.int 0))=some (.d (.int W.things)):=by rw[cT,gv,fF];rfl
theorem HR{W:aZ}(e:En):ba e (.d (ay W)) (.d (.int 1))=some (.d (.tuple (W.ties.map aI))):=by rw[cT,gv,fH];rfl
theorem Mj{W:aZ}(e:En):ba e (.d (ay W)) (.d (.int 2))=some (.d (.tuple (W.pat.map .int))):=by rw[cT,gv,jT];rfl
theorem Ml{W:aZ}(e:En):ba e (.d (ay W)) (.d (.int 3))=some (.d (.int W.asks)):=by rw[cT,gv,jU];rfl
def GO:Qg->En|.tuple [a,b]=>[some (.d a),some (.d b)]|_=>[]
theorem Hs{cs:En}{i j:Nat}(hi:i=cs.length)(hj:j=cs.length+1){x a b:Qg}(hx:x=.tuple [a,b])(t:En)(ht:t.length=2):a8 (aq (ah i) (aq (ah j) aY)) x (cs++t)=some (cs++GO x):=by subst hx hi hj;match t,ht with|[p,q],_=>simp[a8,aq,ah,aY,GO]
def k8:Qg->Int|.int i=>i|_=>0
theorem DK{n:Nat}{x:Int}(h:x∈pL n):0<=x/\x<(n:Int):=by unfold pL at h;obtain⟨i,hi,rfl⟩:=Qa h;have:=Uj.mp hi;have e:(Int.ofNat i)=(i:Int):=rfl;simp only[e];lia
theorem Gs(n:Nat):(pL n).Nodup:=by unfold pL;exact List.pairwise_map.mpr (List.Pairwise.imp (λh e=>by have:_=_:=e;simp at this;lia) List.nodup_range)
def JG(W:aZ)(a b:Int):Bool:=(W.tie a).top==(W.tie b).top&&(W.tie a).bot==(W.tie b).bot
theorem k9(ns:List Int):(ns.map PyData.int).map k8=ns:=by rw[QE];exact List.map_id' ns
def uL(gss:List (List Int)):List Int:=gss.map (·.headD 0)
theorem Gw(ns:List Int):Ru (.list (ns.map .int))=true:=(Sh.list (n:=2) λd hd=>by obtain⟨x,_,rfl⟩:=Qa hd;exact Sh.int).ok ⋯
def lx(W:aZ)(ts:List gf):aZ:=⟨W.things,ts,W.pat,W.asks⟩
structure GS (W:aZ) (ts:List gf) (gss:List (List Int)):Prop where
 ne:∀g∈gss,g≠[]pw:∀g∈gss,g.Pairwise (·<·)inr:∀g∈gss,∀k∈g,0<=k/\k<(ts.length:Int)nd:gss.flatten.Nodup
 len:gss.flatten.length=ts.length
 fs:(uL gss).Pairwise (·<=·)ch:∀g∈gss,∀k∈g,JG (lx W ts) k (g.headD 0)=true
theorem lC{g:List Int}(h:g≠[]):g.headD 0∈g:=by cases g with|nil=>exact absurd rfl h|cons x r=>simp
theorem Ak{W:aZ}{ts:List gf}{t:gf}{k:Int}(h0:0<=k)(h1:k<(ts.length:Int)):(lx W (ts++[t])).tie k=(lx W ts).tie k:=by unfold aZ.tie lx;rw[Tf,Tf];show((ts++[t])[k.toNat]?).getD default=(ts[k.toNat]?).getD default;rw[Sr ↥0]
theorem GJ{W:aZ}{ts:List gf}{t:gf}:(lx W (ts++[t])).tie (ts.length:Int)=t:=by unfold aZ.tie lx;rw[Tf];show((ts++[t])[((ts.length:Int)).toNat]?).getD default=t;rw[Sg];simp
theorem uv{W:aZ}{ts:List gf}{t:gf}{a b:Int}(h0:0<=a/\a<(ts.length:Int))(h1:0<=b/\b<(ts.length:Int)):JG (lx W (ts++[t])) a b=JG (lx W ts) a b:=by unfold JG;rw[Ak h0.1 h0.2,Ak h1.1 h1.2]
theorem pU:∀{gss:List (List Int)},(∀g∈gss,g≠[])->gss.length<=gss.flatten.length|[],_=>RJ _|g::r,h=>by have:=pU (gss:=r) λx hx=>h x (by simp[hx]);have:=VO.mpr (h g ↥1);simp only[Rk,Si,RN];lia
theorem wf{x:Int}:∀{gss:List (List Int)}{j:Nat}{g:List Int},gss[j]?=some g->(gss.set j (g++[x])).flatten.Perm (gss.flatten++[x])|[],_,_,h=>by simp at h|h::r,0,g,e=>by simp at e;subst e;rw[VQ,Si,Si,SQ,SQ];exact(List.perm_append_comm).append_left h|h::r,j+1,g,e=>by rw[VP,Si,Si,SQ];exact(wf (by simpa using e)).append_left h
theorem zp{x:Int}:∀{gss:List (List Int)}{j:Nat}{g:List Int},gss[j]?=some g->g≠[]->uL (gss.set j (g++[x]))=uL gss
 |[],_,_,h,_=>by simp at h|h::r,0,g,e,n=>by simp at e;subst e;cases h with|nil=>exact absurd rfl n|cons a b=>rfl
 |h::r,j+1,g,e,n=>by show h.headD 0::uL (r.set j (g++[x]))=h.headD 0::uL r;rw[zp (by simpa using e) n]
theorem GS.new{W:aZ}{ts:List gf}{gss:List (List Int)}(h:GS W ts gss)(t:gf):GS W (ts++[t]) (gss++[[(ts.length:Int)]]):=by
 have l1:((ts++[t]).length:Int)=(ts.length:Int)+1:=by simp
 have fl:(gss++[[(ts.length:Int)]]).flatten=gss.flatten++[(ts.length:Int)]:=by simp
 refine⟨λg hg=>?_,λg hg=>?_,λg hg k hk=>?_,?_,?_,?_,λg hg k hk=>?_⟩
 ·rcases P' hg with hg|hg;·exact h.ne g hg
  ·simp at hg;subst hg;simp
 ·rcases P' hg with hg|hg;·exact h.pw g hg
  ·simp at hg;subst hg;simp
 ·rw[l1];rcases P' hg with hg|hg;·have:=h.inr g hg k hk;lia
  ·simp at hg;subst hg;simp at hk;subst hk;lia
 ·rw[fl,Ud];refine⟨h.nd,by simp,λa ha b hb e=>?_⟩;simp at hb;obtain⟨g,h1,h2⟩:=UK.mp ha;have:=h.inr g h1 a h2;lia
 ·rw[fl,RN,h.len,RN];rfl
 ·rw[show uL (gss++[[(ts.length:Int)]])=uL gss++[(ts.length:Int)]by simp[uL],List.pairwise_append];refine⟨h.fs,by simp,λa ha b hb=>?_⟩;simp at hb;obtain⟨g,h1,rfl⟩:=Qa ha;have:=h.inr g h1 _ (lC (h.ne g h1));lia
 ·rcases P' hg with hg|hg;·rw[uv (h.inr g hg k hk) (h.inr g hg _ (lC (h.ne g hg)))];exact h.ch g hg k hk
  ·simp at hg;subst hg;simp at hk;subst hk;simp[JG]
theorem GS.add{W:aZ}{ts:List gf}{gss:List (List Int)}(h:GS W ts gss){t:gf}{j:Nat}{g:List Int}(hj:gss[j]?=some g)(hc:((lx W (ts++[t])).tie (g.headD 0)).top=t.top/\((lx W (ts++[t])).tie (g.headD 0)).bot=t.bot):GS W (ts++[t]) (gss.set j (g++[(ts.length:Int)])):=by
 have l1:((ts++[t]).length:Int)=(ts.length:Int)+1:=by simp
 have hg0:=Qc hj;have hn:=h.ne g hg0;have fl:=wf (x:=(ts.length:Int)) hj;have hd:(g++[(ts.length:Int)]).headD 0=g.headD 0:=by cases g with|nil=>exact absurd rfl hn|cons a b=>rfl
 have hh:=h.inr g hg0 _ (lC hn);refine⟨λg' hg=>?_,λg' hg=>?_,λg' hg k hk=>?_,?_,?_,?_,λg' hg k hk=>?_⟩
 ·rcases Vo hg with hg|rfl;·exact h.ne g' hg
  ·simp
 ·rcases Vo hg with hg|rfl;·exact h.pw g' hg
  ·rw[List.pairwise_append];refine⟨h.pw g hg0,by simp,λa ha b hb=>?_⟩;simp at hb;have:=h.inr g hg0 a ha;lia
 ·rw[l1];rcases Vo hg with hg|rfl;·have:=h.inr g' hg k hk;lia
  ·rcases P' hk with hk|hk;·have:=h.inr g hg0 k hk;lia
   ·simp at hk;lia
 ·rw[fl.nodup_iff,Ud];refine⟨h.nd,by simp,λa ha b hb e=>?_⟩;simp at hb;obtain⟨g,h1,h2⟩:=UK.mp ha;have:=h.inr g h1 a h2;lia
 ·rw[fl.length_eq,RN,h.len,RN];rfl
 ·rw[zp hj hn];exact h.fs
 ·rcases Vo hg with hg|rfl;·rw[uv (h.inr g' hg k hk) (h.inr g' hg _ (lC (h.ne g' hg)))];exact h.ch g' hg k hk
  ·rw[hd];rcases P' hk with hk|hk;·rw[uv (h.inr g hg0 k hk) hh];exact h.ch g hg0 k hk
   ·simp at hk;subst hk;unfold JG;rw[GJ,hc.1,hc.2];simp
abbrev l6(ds:List Int)(W:aZ)(so:List Qg)(ts:List gf)(gss:List (List Int))(v5 v6 v7 v8 v9:Option Sv):En:=[some (.l (ds.map .int)),some (.d (ay W)),some (.l so),some (.l (ts.map aI)),some (.n (gss.map λg=>g.map .int)),v5,v6,v7,v8,v9]
def yz(g:List Int):Qg:=.list (g.map .int)
def HX:Qg->Int|.tuple [.int j,_]=>j|_=>0
def JF(W:aZ)(a b:Int):Qg->Bool|.tuple [_,.list gl]=>(W.tie ((gl.map k8).headD 0)).top==a&&(W.tie ((gl.map k8).headD 0)).bot==b|_=>false
theorem AJ{ts:List gf}:bA (ts.map aI)=true:=by induction ts with|nil=>rfl|cons t r ih=>rw[QB];simp only[bA,ih,Bool.and_true];unfold aI;simp[dS,bA]
theorem GE{W:aZ}{a b:Int}{ds:List Int}{so:List Qg}{ts:List gf}{gss:List (List Int)}{v5 v6 v7 v9:Option Sv}(hn:∀g∈gss,g≠[])(hk:∀g∈gss,∀k∈g,0<=k/\k<(ts.length:Int))(hl:gss.length<=100)(fso:bA so=true)(f5:∀s,v5=some s->kP s=true)(f6:∀s,v6=some s->kP s=true)(f7:∀s,v7=some s->kP s=true):∃al:List Int,tX 4 (aN 9 (bj [(8,"_law_own"),(3,"_law_ties_here")] 2 eH (a8 (aq (ah 2) (aq (ah 3) aY))) dw gr)) (l6 ds W so ts gss v5 v6 v7 (some (.d (.tuple [.int a,.int b]))) v9)=some (.nx (l6 ds W so ts gss v5 v6 v7 (some (.d (.tuple [.int a,.int b]))) (some (.l (al.map .int)))))/\al.length<=gss.length/\∀k∈al,∃(j:Nat) (g:List Int),k=(j:Int)/\gss[j]?=some g/\((lx W ts).tie (g.headD 0)).top=a/\((lx W ts).tie (g.headD 0)).bot=b:=by
 have em:∀x∈di 0 (gss.map yz),∃(j:Nat) (g:List Int),x=.tuple [.int (j:Int),.list (g.map .int)]/\gss[j]?=some g:=λx hx=>by obtain⟨j,hj⟩:=Tg hx;rw[io,QD]at hj;obtain⟨y,h1,h2⟩:=P9 hj;obtain⟨g,h3,h4⟩:=P9 h1;refine⟨j,g,?_,h3⟩;rw[<-h2,<-h4,Ti];rfl
 obtain⟨t',lt',hf⟩:=fJ (cs:=[some (.d (.tuple [.int a,.int b])),some (.l (ts.map aI))]) (g:=a8 (aq (ah 2) (aq (ah 3) aY))) (ft:=dw) (fe:=gr) (b:=JF (lx W ts) a b) (y:=λx=>.int (HX x)) (u:=GO) 2 (di 0 (gss.map yz)) [none,none] [] rfl (λx hx t ht=>by obtain⟨j,g,rfl,_⟩:=em x hx;exact Hs (cs:=[some (.d (.tuple [.int a,.int b])),some (.l (ts.map aI))]) rfl rfl rfl t ht) (λx hx=>by obtain⟨j,g,rfl,_⟩:=em x hx;rfl) (λx hx=>by
  obtain⟨j,g,rfl,hg⟩:=em x hx;have gm:=Qc hg;have iv:=k9 g;have hh:=hk g gm _ (lC (hn g gm));have i1:=eP (W:=lx W ts) (k:=g.headD 0) hh;rw[show(lx W ts).ties=ts from rfl]at i1;have i3:atI (g.map PyData.int) 0=some (.int (g.headD 0)):=by have:=hn g gm;cases g with|nil=>exact absurd rfl this|cons x r=>rw[QB];exact fF
  have ge:=λe=>B_ (e:=e) (a:=((lx W ts).tie (g.headD 0)).top) (b:=((lx W ts).tie (g.headD 0)).bot) (c:=a) (d:=b);show dw [some (.d (.tuple [.int a,.int b])),some (.l (ts.map aI)),some (.d (.int (j:Int))),some (.d (.list (g.map .int)))]=some (((lx W ts).tie (((g.map PyData.int).map k8).headD 0)).top==a&&((lx W ts).tie (((g.map PyData.int).map k8).headD 0)).bot==b,[some (.d (.tuple [.int a,.int b])),some (.l (ts.map aI)),some (.d (.int (j:Int))),some (.d (.list (g.map .int)))]);rw[iv];clear iv;generalize g.map PyData.int=GG at*;generalize ts.map aI=TT at*;unfold aI at i1;generalize g.headD 0=h0 at*;simp?[dw,i1,i3,ge]) (λx hx _=>by obtain⟨j,g,rfl,_⟩:=em x hx;rfl) (by simp[ip];lia);have hi:eH ((l6 ds W so ts gss v5 v6 v7 (some (.d (.tuple [.int a,.int b]))) v9).set 4 (some (.d (.list (gss.map yz)))))=some (di 0 (gss.map yz),[],(l6 ds W so ts gss v5 v6 v7 (some (.d (.tuple [.int a,.int b]))) v9).set 4 (some (.d (.list (gss.map yz))))):=by generalize gss.map yz=LL at*;simp?[eH,oZ,vw]
 have hv:=gN (cp:=[(8,"_law_own"),(3,"_law_ties_here")]) (nT:=2) (fi:=eH) (g:=a8 (aq (ah 2) (aq (ah 3) aY))) (ft:=dw) (fe:=gr) (cs:=[some (.d (.tuple [.int a,.int b])),some (.l (ts.map aI))]) (t:=[none,none]) (t':=t') hi rfl rfl hf;refine⟨((di 0 (gss.map yz)).filter (JF (lx W ts) a b)).map HX,?_,?_,λk hk'=>?_⟩
 ·have eo:[]++((di 0 (gss.map yz)).filter (JF (lx W ts) a b)).map (λx=>PyData.int (HX x))=(((di 0 (gss.map yz)).filter (JF (lx W ts) a b)).map HX).map .int:=by rw[QI,QE];rfl
  rw[eo]at hv;generalize ((di 0 (gss.map yz)).filter (JF (lx W ts) a b)).map HX=al at*;have fb:∀o:Option Sv,(∀s,o=some s->kP s=true)->(match o with|some s=>kP s|none=>true)=true:=λo h=>by cases o with|none=>rfl|some s=>exact h s rfl
  have xm:(gss.map λg=>g.map PyData.int).map PyData.list=gss.map yz:=by rw[QE];rfl
  unfold tX;rw[show ck (l6 ds W so ts gss v5 v6 v7 (some (.d (.tuple [.int a,.int b]))) v9) 4=some (gss.map λg=>g.map .int) from rfl,QC,xm];unfold aN;rw[hv];have fl:j4 4 (((l6 ds W so ts gss v5 v6 v7 (some (.d (.tuple [.int a,.int b]))) v9).set 4 (some (.d (.list (gss.map yz))))).set 9 (some (.l (al.map .int))))=true:=by have q5:=fb v5 f5;have q6:=fb v6 f6;have q7:=fb v7 f7;simp[j4,kP,qC,B7,fso,AJ,dS,bA];exact⟨q5,q6,q7⟩
  rw[QC,show(rD 9 (Rv.l (al.map .int),(l6 ds W so ts gss v5 v6 v7 (some (.d (.tuple [.int a,.int b]))) v9).set 4 (some (.d (.list (gss.map yz))))).1 (Rv.l (al.map .int),(l6 ds W so ts gss v5 v6 v7 (some (.d (.tuple [.int a,.int b]))) v9).set 4 (some (.d (.list (gss.map yz))))).2).map Fl.nx=some (.nx (((l6 ds W so ts gss v5 v6 v7 (some (.d (.tuple [.int a,.int b]))) v9).set 4 (some (.d (.list (gss.map yz))))).set 9 (some (.l (al.map .int))))) from rfl,QC];dsimp only;rw[if_pos fl];rfl
 ·rw[Qz];refine QP (List.length_filter_le _ _) ?_;rw[ip,Qz];exact RJ _
 ·obtain⟨x,h1,rfl⟩:=Qa hk';obtain⟨h2,h3⟩:=Tv.mp h1;obtain⟨j,g,rfl,hg⟩:=em x h2;simp only[JF,k9,QU,beq_iff_eq]at h3;exact⟨j,g,rfl,hg,h3.1,h3.2⟩
theorem EZ{W:aZ}(ok:W.Ok){a0 b0 a1 b1:Int}(h0:qm a0 b0)(h1:qm a1 b1){ds:List Int}(hd:jz ds){ts:List gf}{gss:List (List Int)}(hG:GS W ts gss)(hts:ts.length<=16){t:gf}(hto:t.Ok W.things){v7 v8 v9:Option Sv}:∃ds' t' gss' w7 w8 w9,eB (l6 ds W [.tuple [.int a0,.int b0],.tuple [.int a1,.int b1]] ts gss (some (.d (.int (ts.length:Int)))) (some (.d (aI t))) v7 v8 v9)=some (.nx (l6 ds' W [.tuple [.int a0,.int b0],.tuple [.int a1,.int b1]] (ts++[t']) gss' (some (.d (.int (ts.length:Int)))) (some (.d (aI t))) w7 w8 w9))/\jz ds'/\GS W (ts++[t']) gss'/\t'.Ok W.things:=by
 obtain⟨n,d1,t1,n0,n1,hd1⟩:=iS hd;have q4:∀e:En,be e (.d (.int n)) (.d (.int 4))=some (.d (.int (n%4))):=λe=>aW ⋯;obtain⟨z,hz,ha⟩:=md (xs:=[PyData.tuple [.int a0,.int b0],.tuple [.int a1,.int b1],.tuple [.int a0,.int b0],.tuple [.int t.top,.int t.bot]]) (i:=n%4) (wc ⋯) (wd (k:=4) ⋯);obtain⟨a,b,rfl,hc⟩:∃a b,z=.tuple [.int a,.int b]/\qm a b:=by
  simp only[QV,Rq,or_false]at hz;rcases hz with rfl|rfl|rfl|rfl;·exact⟨_,_,rfl,h0⟩
  ·exact⟨_,_,rfl,h1⟩
  ·exact⟨_,_,rfl,h0⟩
  ·exact⟨_,_,rfl,hto.c0,hto.c1,hto.b0,hto.b1,hto.cop⟩
 obtain⟨c0,c1,c2,c3,c4⟩:=hc;have gl:=pU hG.ne;have glen:=hG.len;obtain⟨t',rfl⟩:∃t':gf,t'=⟨t.one,t.other,a,b,t.worth⟩:=⟨_,rfl⟩;have hto':gf.Ok W.things ⟨t.one,t.other,a,b,t.worth⟩:=⟨hto.o0,hto.o1,hto.o2,c0,c1,c2,c3,hto.w0,hto.w1,c4⟩;have hn:=hG.ne;have hk:∀g∈gss,∀k∈g,0<=k/\k<((ts++[(⟨t.one,t.other,a,b,t.worth⟩:gf)]).length:Int):=λg hg k hk=>by have:=hG.inr g hg k hk;simp;lia
 obtain⟨al,hal,hall,hin⟩:=GE (W:=W) (a:=a) (b:=b) (ds:=d1) (so:=[.tuple [.int a0,.int b0],.tuple [.int a1,.int b1]]) (ts:=ts++[⟨t.one,t.other,a,b,t.worth⟩]) (gss:=gss) (v5:=some (.d (.int (ts.length:Int)))) (v6:=some (.d (aI t))) (v7:=some (.d (.int n))) (v9:=v9) hn hk ↥0 (by simp[bA,dS]) (λs e=>by cases e;rfl) (λs e=>by cases e;unfold aI;simp[kP,dS,bA]) (λs e=>by cases e;rfl);have f4:∀e:En,dj e (.d (.int n)) (.d (.int 4))=some (.d (.int (n/4))):=λe=>dN ⋯ (jX ⋯ ⋯);have f12:∀e:En,dj e (.d (.int n)) (.d (.int 12))=some (.d (.int (n/12))):=λe=>dN ⋯ (jX ⋯ ⋯);have m3:∀e:En,be e (.d (.int (n/4))) (.d (.int 3))=some (.d (.int (n/4%3))):=λe=>aW ⋯;have cu:L2.cutD [PyData.int t.one,.int t.other,.tuple [.int t.top,.int t.bot],.int t.worth] none (some 2)=[.int t.one,.int t.other]:=rfl;have gad:∀e:En,bF e (.d (.tuple [.int t.one,.int t.other])) (.d (.tuple [.tuple [.int a,.int b],.int t.worth]))=some (.d (.tuple [.int t.one,.int t.other,.tuple [.int a,.int b],.int t.worth])):=λe=>j6 ↥1;have lt:(ts.map aI).length<1000000:=by rw[Qz];lia
 have eap:(ts++[(⟨t.one,t.other,a,b,t.worth⟩:gf)]).map aI=ts.map aI++[.tuple [.int t.one,.int t.other,.tuple [.int a,.int b],.int t.worth]]:=by rw[TM];rfl
 have h4:∀g:FS,aC (aN 7 (bR 1 br (ac (af 0) am))) (aC (aN 8 (ax ba (cQ (ac (ax ba (af 2) (vC (.int 0))) (ac (ax ba (af 2) (vC (.int 1))) (ac (ax ba (af 2) (vC (.int 0))) (ac (ax ba (af 6) (vC (.int 2))) am))))) (ax be (af 7) (vC (.int 4))))) (aC (dm (cG bD (af 3) (ac (ax bF (uk (af 6) fD (fg (vC (.int 2)))) (bo (ac (af 8) (ac (ax ba (af 6) (vC (.int 3))) am)))) am))) (aC (tX 4 (aN 9 (bj [(8,"_law_own"),(3,"_law_ties_here")] 2 eH (a8 (aq (ah 2) (aq (ah 3) aY))) dw gr))) g))) (l6 ds W [.tuple [.int a0,.int b0],.tuple [.int a1,.int b1]] ts gss (some (.d (.int (ts.length:Int)))) (some (.d (aI t))) v7 v8 v9)=g (l6 d1 W [.tuple [.int a0,.int b0],.tuple [.int a1,.int b1]] (ts++[⟨t.one,t.other,a,b,t.worth⟩]) gss (some (.d (.int (ts.length:Int)))) (some (.d (aI t))) (some (.d (.int n))) (some (.d (.tuple [.int a,.int b]))) (some (.l (al.map .int)))):=λg=>by unfold l6 at hal⊢;rw[eap]at hal⊢;generalize (gss.map λg=>g.map PyData.int)=GG at*;generalize al.map PyData.int=AL at*;clear eap hin hk;generalize hTT:ts.map aI=TT at*;clear hTT;generalize ay W=WW at*;unfold aI at hal⊢;simp?[t1,q4,ha,cu,gad,lt,hal]
 have gz:∀e:En,e[9]?=some (some (.l (al.map .int)))->eh true e (.s 9) (.l [])=some (.d (.bool (!(al.map PyData.int).isEmpty))):=λe he=>by have:=mQ (neg:=true) he (Gw al);simpa using this
 have hN:∀v7 v8 v9,nL 4 (cQ (ac (af 5) am)) (l6 d1 W [.tuple [.int a0,.int b0],.tuple [.int a1,.int b1]] (ts++[⟨t.one,t.other,a,b,t.worth⟩]) gss (some (.d (.int (ts.length:Int)))) (some (.d (aI t))) v7 v8 v9)=some (.d .none,l6 d1 W [.tuple [.int a0,.int b0],.tuple [.int a1,.int b1]] (ts++[⟨t.one,t.other,a,b,t.worth⟩]) (gss++[[(ts.length:Int)]]) (some (.d (.int (ts.length:Int)))) (some (.d (aI t))) v7 v8 v9):=λv7 v8 v9=>by
  have l:gss.length<1000000:=by lia
  unfold l6;rw[show(gss++[[(ts.length:Int)]]).map (λg=>g.map PyData.int)=(gss.map λg=>g.map PyData.int)++[[.int (ts.length:Int)]]by rw[TM];rfl];have l2:(gss.map λg=>g.map PyData.int).length<1000000:=by rw[Qz];exact l
  generalize (gss.map λg=>g.map PyData.int)=GG at*;generalize (ts++[(⟨t.one,t.other,a,b,t.worth⟩:gf)]).map aI=TT at*;generalize ay W=WW at*;generalize aI t=DT at*;simp?[nL,ck,l2]
 by_cases cc:al≠[]/\0<n/4%3
 ·obtain⟨ne,r0⟩:=cc;have lp:0<(al.length:Int):=by have:=VO.mpr ne;lia
  have m12:∀e:En,be e (.d (.int (n/12))) (.d (.int (al.length:Int)))=some (.d (.int (n/12%(al.length:Int)))):=λe=>aW lp;have p0:=wc (n:=n/12) lp;have p1:=wd (n:=n/12) lp;generalize n/12%(al.length:Int)=r at*;have ai:=vO (ns:=al) (k:=r) p0 p1;obtain⟨j,g,ej,hg,hc1,hc2⟩:=hin (al.getD r.toNat 0) (by rw[Tf,QR ↥0];exact Ve _);rw[ej]at ai;have hjl:j<gss.length:=(P_ hg).1;have gj:(gss.map λg=>g.map PyData.int)[j]?=some (g.map .int):=by rw[QD,hg];rfl
  have gle:g.length<=gss.flatten.length:=by have:=Qc hg;exact List.Sublist.length_le (List.sublist_flatten_of_mem this)
  refine⟨d1,⟨t.one,t.other,a,b,t.worth⟩,gss.set j (g++[(ts.length:Int)]),some (.d (.int n)),some (.d (.tuple [.int a,.int b])),some (.l (al.map .int)),?_,hd1,hG.add hg ⟨hc1,hc2⟩,hto'⟩;have hS:r8 4 (ax ba (af 9) (ax be (ax dj (af 7) (vC (.int 12))) (aF (g1 ce) (ac (af 9) am)))) (qU 5) (l6 d1 W [.tuple [.int a0,.int b0],.tuple [.int a1,.int b1]] (ts++[⟨t.one,t.other,a,b,t.worth⟩]) gss (some (.d (.int (ts.length:Int)))) (some (.d (aI t))) (some (.d (.int n))) (some (.d (.tuple [.int a,.int b]))) (some (.l (al.map .int))))=some (.d .none,l6 d1 W [.tuple [.int a0,.int b0],.tuple [.int a1,.int b1]] (ts++[⟨t.one,t.other,a,b,t.worth⟩]) (gss.set j (g++[(ts.length:Int)])) (some (.d (.int (ts.length:Int)))) (some (.d (aI t))) (some (.d (.int n))) (some (.d (.tuple [.int a,.int b]))) (some (.l (al.map .int)))):=by
   have ix:yp (gss.map λg=>g.map PyData.int).length (j:Int)=some j:=by unfold yp;rw[Qz];simp[hjl]
   have gl2:∀e:En,e[9]?=some (some (.l (al.map .int)))->g1 ce e [.s 9]=some (.d (.int (al.length:Int))):=λe h=>by simp[g1,ce,gL,h]
   have l3:(g.map PyData.int).length<1000000:=by rw[Qz];lia
   have es:(gss.set j (g++[(ts.length:Int)])).map (λg=>g.map PyData.int)=(gss.map λg=>g.map PyData.int).set j (g.map .int++[.int (ts.length:Int)]):=by rw[List.map_set,TM];rfl
   have ai2:∀e:En,e[9]?=some (some (.l (al.map .int)))->ba e (.s 9) (.d (.int r))=some (.d (.int (j:Int))):=λe h=>by unfold ba;simp only[gL,h,QC,bL,ai,RP]
   unfold l6;rw[es];clear es hal hin h4 hN eap ai hk;generalize al.map PyData.int=AL at*;generalize (al.length:Int)=LA at*;generalize (gss.map λg=>g.map PyData.int)=GG at*;generalize g.map PyData.int=G1 at*;generalize (ts++[(⟨t.one,t.other,a,b,t.worth⟩:gf)]).map aI=TT at*;generalize ay W=WW at*;generalize aI t=DT at*;simp?[r8,ck,qU,f12,m12,gl2,ai2,ix,gj,l3]
  have nb:(al.map PyData.int).isEmpty=false:=by cases al with|nil=>exact absurd rfl ne|cons=>rfl
  unfold eB;rw[h4];have gz2:=gz (l6 d1 W [.tuple [.int a0,.int b0],.tuple [.int a1,.int b1]] (ts++[⟨t.one,t.other,a,b,t.worth⟩]) gss (some (.d (.int (ts.length:Int)))) (some (.d (aI t))) (some (.d (.int n))) (some (.d (.tuple [.int a,.int b]))) (some (.l (al.map .int)))) rfl;rw[nb]at gz2;clear h4 hal hin gz hN eap ai hk;generalize (gss.set j (g++[(ts.length:Int)])).map (λg=>g.map PyData.int)=G2 at*;generalize (gss.map λg=>g.map PyData.int)=GG at*;generalize al.map PyData.int=AL at*;generalize (ts++[(⟨t.one,t.other,a,b,t.worth⟩:gf)]).map aI=TT at*;generalize ay W=WW at*;generalize aI t=DT at*;simp?[gz2,f4,m3,r0,hS]
 ·refine⟨d1,⟨t.one,t.other,a,b,t.worth⟩,gss++[[(ts.length:Int)]],some (.d (.int n)),some (.d (.tuple [.int a,.int b])),some (.l (al.map .int)),?_,hd1,hG.new _,hto'⟩;unfold eB;rw[h4];have gz2:=gz (l6 d1 W [.tuple [.int a0,.int b0],.tuple [.int a1,.int b1]] (ts++[⟨t.one,t.other,a,b,t.worth⟩]) gss (some (.d (.int (ts.length:Int)))) (some (.d (aI t))) (some (.d (.int n))) (some (.d (.tuple [.int a,.int b]))) (some (.l (al.map .int)))) rfl;have hN2:=hN (some (.d (.int n))) (some (.d (.tuple [.int a,.int b]))) (some (.l (al.map .int)));have hbool:(al.map PyData.int).isEmpty=true\/¬0<n/4%3:=by cases al with|nil=>exact .inl rfl|cons x r=>exact .inr λz=>cc ⟨by simp,z⟩
  clear h4 hal hin gz hN eap hk cc;generalize (gss++[[(ts.length:Int)]]).map (λg=>g.map PyData.int)=G2 at*;generalize (gss.map λg=>g.map PyData.int)=GG at*;generalize (al.map PyData.int).isEmpty=eb at*;generalize al.map PyData.int=AL at*;generalize (ts++[(⟨t.one,t.other,a,b,t.worth⟩:gf)]).map aI=TT at*;generalize ay W=WW at*;generalize aI t=DT at*;rcases hbool with rfl|r0;·simp?[gz2,hN2]
  ·cases eb<;>simp?[gz2,f4,m3,r0,hN2]
theorem Bk{W:aZ}(ok:W.Ok){ds:List Int}(hd:jz ds):∃ds' ts gss,eI [.l (ds.map .int),.d (ay W)]=some (.d (.tuple [ay (lx W ts),.tuple (gss.map aB)]),[.l (ds'.map .int),.d (ay W)])/\jz ds'/\GS (lx W ts) ts gss/\(lx W ts).Ok:=by
 have wl:=ok.len;obtain⟨out,e',c1,c2,c3,⟨d1,v,he,hd1⟩⟩:=tF (g:=ah 1) (ft:=a_) (fe:=iV) (λi e=>∃ds v,e=[some (.l (ds.map .int)),v]/\jz ds) (λd=>∃t b,d=.tuple [.int t,.int b]/\qm t b) (aT 0 2) 0 [some (.l (ds.map .int)),none] [] (λi x e hx⟨ds,v,he,hd⟩=>by subst he;obtain⟨n,d2,t1,n0,-,hd2⟩:=iS hd;obtain⟨m,d3,t2,-,-,hd3⟩:=iS hd2;obtain⟨t,b,t3,hc⟩:=xJ n (m%3) n0;have gm:∀e:En,be e (.d (.int m)) (.d (.int 3))=some (.d (.int (m%3))):=λe=>aW ⋯;refine⟨_,.d (.tuple [.int t,.int b]),_,_,rfl,rfl,?_,rfl,⟨t,b,rfl,hc⟩,d3,some (.d x),rfl,hd3⟩;simp?[iV,t1,t2,t3,gm]) ⟨ds,none,rfl,hd⟩ (by rw[bI];simp);subst he;rw[QI]at c1;rw[bI]at c2;obtain⟨a0,b0,a1,b1,rfl,h0,h1⟩:∃a0 b0 a1 b1,out=[PyData.tuple [.int a0,.int b0],.tuple [.int a1,.int b1]]/\qm a0 b0/\qm a1 b1:=by match out,c2,c3 with|[x,y],_,c3=>obtain⟨a,b,rfl,h⟩:=c3 x ↥1;obtain⟨c,d,rfl,h'⟩:=c3 y ↥1;exact⟨_,_,_,_,rfl,h,h'⟩
 have hv:bj [(0,"_law_drawn")] 1 kY (ah 1) a_ iV [some (.l (ds.map .int)),some (.d (ay W)),none,none,none,none,none,none,none,none]=some (.l [PyData.tuple [.int a0,.int b0],.tuple [.int a1,.int b1]],[some (.l (d1.map .int)),some (.d (ay W)),none,none,none,none,none,none,none,none]):=by rw[Bq (cp:=[(0,"_law_drawn")]) (nT:=1) (fi:=kY) (e:=[some (.l (ds.map .int)),some (.d (ay W)),none,none,none,none,none,none,none,none]) (e1:=[some (.l (ds.map .int)),some (.d (ay W)),none,none,none,none,none,none,none,none]) (items:=aT 0 2) rfl c1 rfl];rfl
 obtain⟨e3,hl,hI⟩:=cn (own:=[]) (g:=a8 (aq (ah 5) (aq (ah 6) aY))) (f:=eB) (λi e=>∃ds ts gss v5 v6 v7 v8 v9,e=l6 ds W [PyData.tuple [.int a0,.int b0],.tuple [.int a1,.int b1]] ts gss v5 v6 v7 v8 v9/\jz ds/\ts.length=i/\(∀t∈ts,t.Ok W.things)/\GS W ts gss) (di 0 (W.ties.map aI)) 0 (l6 d1 W [PyData.tuple [.int a0,.int b0],.tuple [.int a1,.int b1]] [] [] none none none none none) (λi x e hx⟨ds,ts,gss,v5,v6,v7,v8,v9,he,hd,hlen,hto,hG⟩=>by
  subst he;rw[io,QD]at hx;obtain⟨y,hx1,hx2⟩:=P9 hx;obtain⟨t,hx3,hx4⟩:=P9 hx1;subst hx4 hx2;have ht:=ok.ties t (Qc hx3);have il:i<W.ties.length:=(P_ hx3).1;obtain⟨ds',t',gss',w7,w8,w9,hb,hd',hG',hto'⟩:=EZ ok h0 h1 hd hG ↥0 ht (v7:=v7) (v8:=v8) (v9:=v9);refine⟨_,_,?_,hb,bB,ds',ts++[t'],gss',_,_,w7,w8,w9,rfl,hd',by simp;lia,λt hm=>?_,hG'⟩;·rw[hlen];rfl
  ·rcases P' hm with hm|hm;·exact hto t hm
   ·simp at hm;subst hm;exact hto') ⟨d1,[],[],none,none,none,none,none,rfl,hd1,rfl,λt h=>(by cases h),⟨λg h=>(by cases h),λg h=>(by cases h),λg h=>(by cases h),by simp,rfl,by simp[uL],λg h=>(by cases h)⟩⟩;obtain⟨d2,ts,gss,v5,v6,v7,v8,v9,rfl,hd2,hlen,hto,hG⟩:=hI;rw[ip,Qz,Ti]at hlen;have g1':=HR (W:=W);have g0':=Mi (W:=W);have g2':=Mj (W:=W);have g3':=Ml (W:=W);have hs:∀Wl,cx Wl i8 (a8 (aq (ah 5) (aq (ah 6) aY))) eB (l6 d1 W [PyData.tuple [.int a0,.int b0],.tuple [.int a1,.int b1]] [] [] none none none none none)=some (.nx (l6 d2 W [PyData.tuple [.int a0,.int b0],.tuple [.int a1,.int b1]] ts gss v5 v6 v7 v8 v9)):=λWl=>by rw[dn (show i8 (l6 d1 W [PyData.tuple [.int a0,.int b0],.tuple [.int a1,.int b1]] [] [] none none none none none)=some (di 0 (W.ties.map aI),[],l6 d1 W [PyData.tuple [.int a0,.int b0],.tuple [.int a1,.int b1]] [] [] none none none none none) by unfold l6;generalize W.ties.map aI=TT at*;generalize ay W=WW at*;simp?[i8,oZ,vw,g1'])];exact hl
 have gl:=pU hG.ne;have glen:=hG.len;obtain⟨t',hc⟩:=bE (cs:=[]) (ft:=a_) (fe:=iU) (b:=λ_=>true) (y:=λx=>match x with|.list xs=>.tuple xs|d=>d) ((gss.map λg=>g.map PyData.int).map PyData.list) none [] (λx hx=>rfl) (λx hx _=>by obtain⟨xs,_,rfl⟩:=Qa hx;simp?[iU]) ↥7;have hv2:=gN (cp:=[]) (nT:=1) (fi:=o6) (g:=ah 0) (ft:=a_) (fe:=iU) (e:=l6 d2 W [PyData.tuple [.int a0,.int b0],.tuple [.int a1,.int b1]] ts gss v5 v6 v7 v8 v9) (e1:=(l6 d2 W [PyData.tuple [.int a0,.int b0],.tuple [.int a1,.int b1]] ts gss v5 v6 v7 v8 v9).set 4 (some (.d (.list ((gss.map λg=>g.map PyData.int).map .list))))) (cs:=[]) (t:=[none]) (t':=[t']) rfl rfl rfl hc;have ho:[]++(((gss.map λg=>g.map PyData.int).map PyData.list).filter λ_=>true).map (λx=>match x with|.list xs=>PyData.tuple xs|d=>d)=gss.map aB:=by rw[QI,SJ.mpr ↥4,QE,QE];exact SV λx _=>rfl
 rw[ho]at hv2;refine⟨d2,ts,gss,?_,hd2,⟨hG.ne,hG.pw,hG.inr,hG.nd,hG.len,hG.fs,hG.ch⟩,⟨ok.t0,ok.t1,hto,by show ts.length<=16;lia,ok.pl,ok.pat,ok.a0,ok.a1⟩⟩;rw[cT (lx W ts)];show eI [.l (ds.map .int),.d (ay W)]=some (.d (.tuple [.tuple [.int W.things,.tuple (ts.map aI),.tuple (W.pat.map .int),.int W.asks],.tuple (gss.map aB)]),[.l (d2.map .int),.d (ay W)]);unfold l6 at hv2 hs;simp only[VP,VQ,Rw]at hv2 hs;clear hc ho hl c1;generalize gss.map aB=RR at*;generalize ((gss.map λg=>g.map PyData.int).map PyData.list)=G3 at*;generalize (gss.map λg=>g.map PyData.int)=GG at*;generalize ts.map aI=T2 at*;generalize W.ties.map aI=TT at*;generalize W.pat.map PyData.int=PP at*;generalize ay W=WW at*;simp?[eI,sU,xx,hv,hs,hv2,g0',g2',g3']
def xo(g:List Int)(b:Bool):List (Int×jp):=g.map λk=>(k,.vb b)
def ku:List (List Int)->List Bool->List (Int×jp)|g::gs,b::bs=>xo g b++ku gs bs|_,_=>[]
theorem nK:∀{gss:List (List Int)}{as:List Bool},gss.length=as.length->(ku gss as).map (·.1)=gss.flatten|[],[],_=>rfl|[],_::_,h=>by simp at h|_::_,[],h=>by simp at h|g::gs,b::bs,h=>by rw[ku,TM,nK (by simpa using h),Si];congr 1;unfold xo;rw[QE];exact List.map_id' g
theorem Aj:∀{gss:List (List Int)}{as:List Bool}{i:Nat}{g:List Int}{b:Bool}{k:Int},gss[i]?=some g->as[i]?=some b->k∈g->(k,jp.vb b)∈ku gss as|[],_,_,_,_,_,h,_,_=>by simp at h|_::_,[],_,_,_,_,_,h,_=>by simp at h|g::gs,b::bs,0,g',b',k,h1,h2,hk=>by simp at h1 h2;subst h1 h2;exact RK.mpr (.inl (Tu.mpr ⟨k,hk,rfl⟩))|g::gs,b::bs,i+1,g',b',k,h1,h2,hk=>RK.mpr (.inr (Aj (i:=i) (by simpa using h1) (by simpa using h2) hk))
theorem D':∀{gss:List (List Int)}{as:List Bool}{p:Int×jp},p∈ku gss as->∃b,p.2=.vb b
 |[],_,_,h=>by cases h|_::_,[],_,h=>by cases h|g::gs,b::bs,p,h=>by
  rcases P' h with h|h;·obtain⟨k,_,rfl⟩:=Qa h;exact⟨b,rfl⟩
  ·exact D' h
theorem uJ:∀{m:List (Int×jp)}{k:Int}{a:jp},(m.map (·.1)).Nodup->(k,a)∈m->(m.find? λp=>p.1==k)=some (k,a)
 |[],_,_,_,h=>by cases h|p::r,k,a,nd,h=>by
  have n2:=Tc.mp nd;rw[SW];rcases Qb h with rfl|h;·simp
  ·have:(p.1==k)=false:=by rw[beq_eq_false_iff_ne];rintro rfl;exact n2.1 (Tu.mpr ⟨_,h,rfl⟩)
   rw[this];exact uJ n2.2 h
theorem B0{g:Qg}{b:Bool}:∀(ns:List Int) (c:Option Sv) (acc:List (Int×jp)),(acc.map (·.1)++ns).Nodup->acc.length+ns.length<1000000->∃c',HI (ah 2) 2 1 (ns.map .int) [some (.d g),some (.d (.bool b)),c] acc=some (acc++xo ns b,[some (.d g),some (.d (.bool b)),c'])
 |[],c,acc,_,_=>⟨c,by simp[HI,xo]⟩|k::r,c,acc,nd,hl=>by
  simp only[Rk]at hl;have nk:(acc.any λp=>p.1==k)=false:=by rw[UC];intro p hp;simp only[beq_iff_eq];intro z;exact(Ud.mp nd).2.2 p.1 (List.mem_map_of_mem hp) k ↥1 z
  obtain⟨c',ih⟩:=B0 (g:=g) (b:=b) r (some (.d (.int k))) (acc++[(k,.vb b)]) (by rw[TM,SQ];exact nd) ↥7;refine⟨c',?_⟩;have hg:ah 2 (.int k) [some (.d g),some (.d (.bool b)),c]=some [some (.d g),some (.d (.bool b)),some (.d (.int k))]:=rfl;rw[QB];simp only[HI,hg,QC];rw[show qU 2 [some (.d g),some (.d (.bool b)),some (.d (.int k))]=some k from rfl,show BA 1 [some (.d g),some (.d (.bool b)),some (.d (.int k))]=some (.vb b) from rfl];simp only[QC];rw[if_pos ⟨by lia,nk⟩,ih,SQ];rfl
theorem B1:∀(gss:List (List Int)) (as:List Bool) (a b c:Option Sv) (acc:List (Int×jp)),gss.length=as.length->(acc.map (·.1)++gss.flatten).Nodup->acc.length+gss.flatten.length<1000000->∃e',HJ (a8 (aq (ah 0) (aq (ah 1) aY))) 0 (ah 2) 2 1 (gP (gss.map aB) (as.map .bool)) [a,b,c] acc=some (acc++ku gss as,e')
 |[],[],a,b,c,acc,_,_,_=>⟨[a,b,c],by simp[gP,HJ,ku]⟩|[],_::_,_,_,_,_,h,_,_=>by simp at h|_::_,[],_,_,_,_,h,_,_=>by simp at h|g::gs,t::ts,a,b,c,acc,h,nd,hl=>by
  rw[Si]at nd;simp only[Si,RN]at hl;rw[<-SQ]at nd;have nd1:=(Ud.mp nd).1;obtain⟨c',h1⟩:=B0 (g:=aB g) (b:=t) g c acc nd1 ↥0;have kk:(acc++xo g t).map (·.1)=acc.map (·.1)++g:=by rw[TM];congr 1;unfold xo;rw[QE];exact List.map_id' g
  obtain⟨e',h2⟩:=B1 gs ts (some (.d (aB g))) (some (.d (.bool t))) c' (acc++xo g t) (by simpa using h) (by rw[kk];exact nd) (by rw[RN];simp only[xo,Qz];lia);refine⟨e',?_⟩;have hg:a8 (aq (ah 0) (aq (ah 1) aY)) (.tuple [aB g,.bool t]) [a,b,c]=some [some (.d (aB g)),some (.d (.bool t)),c]:=rfl;rw[QB,QB];simp only[gP,HJ,hg,QC];rw[show JD 0 [some (.d (aB g)),some (.d (.bool t)),c]=some (g.map .int) from rfl];simp only[QC,h1];rw[h2,SQ];rfl
def x9(m:List (Int×jp))(k:Int):Bool:=match m.find? λp=>p.1==k with|some (_,.vb b)=>b|_=>false
structure EA (n:Nat) (gss:List (List Int)):Prop where
 nd:gss.flatten.Nodup
 inr:∀k∈gss.flatten,0<=k/\k<(n:Int)len:gss.flatten.length=n
theorem EA.all{n:Nat}{gss:List (List Int)}(h:EA n gss){k:Int}(h0:0<=k)(h1:k<(n:Int)):k∈gss.flatten:=by
 by_cases z:k∈gss.flatten;·exact z
 ·have:=qX n (k::gss.flatten) (Tc.mpr ⟨z,h.nd⟩) (λj hj=>by
  rcases Qb hj with rfl|hj;·exact⟨h0,h1⟩
  ·exact h.inr j hj);have:=h.len;simp only[Rk]at*;lia
def iR(n:Nat)(gss:List (List Int))(as:List Bool):List Bool:=(RV n).map fun(k:Nat)=>x9 (ku gss as) (k:Int)
theorem DE{n:Nat}{gss:List (List Int)}(h:EA n gss){as:List Bool}(hl:gss.length=as.length){i:Nat}{g:List Int}{b:Bool}{k:Int}(h1:gss[i]?=some g)(h2:as[i]?=some b)(hk:k∈g):x9 (ku gss as) k=b:=by unfold x9;rw[uJ (by rw[nK hl];exact h.nd) (Aj h1 h2 hk)]
theorem yV{W:aZ}(wl:W.ties.length<=16){gss:List (List Int)}(h:EA W.ties.length gss){as:List Bool}(hl:gss.length=as.length):bG [.d (ay W),.d (.tuple (gss.map aB)),.d (.tuple (as.map .bool))]=some (.d (.tuple ((iR W.ties.length gss as).map .bool)),[.d (ay W),.d (.tuple (gss.map aB)),.d (.tuple (as.map .bool))]):=by
 have g1':=HR (W:=W);have fl:=h.len;obtain⟨e',hd⟩:=B1 gss as none none none [] hl (by simpa using h.nd) (by rw[List.length_nil];lia);rw[QI]at hd;have upn:∀(ei:En) (x y z:Qg),mB (lU []) ei [some (.d x),some (.d y),some (.d z),none]=[some (.d x),some (.d y),some (.d z),none]:=λei x y z=>rfl;have hv:lQ 3 dC (a8 (aq (ah 0) (aq (ah 1) aY))) 0 (ah 2) 2 1 [some (.d (ay W)),some (.d (.tuple (gss.map aB))),some (.d (.tuple (as.map .bool))),none]=some (.d (.dict ((ku gss as).map aD)),[some (.d (ay W)),some (.d (.tuple (gss.map aB))),some (.d (.tuple (as.map .bool))),none]):=by unfold lQ;rw[show dC [some (.d (ay W)),some (.d (.tuple (gss.map aB))),some (.d (.tuple (as.map .bool))),none]=some (gP (gss.map aB) (as.map .bool),[],[some (.d (ay W)),some (.d (.tuple (gss.map aB))),some (.d (.tuple (as.map .bool))),none]) from rfl,QC];dsimp only;rw[if_pos rfl,show mi [] 3 [some (.d (ay W)),some (.d (.tuple (gss.map aB))),some (.d (.tuple (as.map .bool))),none]=[none,none,none]from rfl,hd,QC,upn]
 obtain⟨t',hf⟩:=bE (cs:=[some (.d (.dict ((ku gss as).map aD)))]) (ft:=a_) (fe:=bN) (b:=λ_=>true) (y:=λx=>.bool (x9 (ku gss as) (k8 x))) (aT 0 W.ties.length) none [] ↥4 (λx hx _=>by
  obtain⟨k,hk,rfl⟩:=Qa hx;rw[Th];have hk2:=Uj.mp hk;have hm:=h.all (k:=(k:Int)) ↥0 ↥0;rw[<-nK hl]at hm;obtain⟨p,hp,e1⟩:=Qa hm;obtain⟨b,hb⟩:=D' hp;have hp2:((k:Int),jp.vb b)∈ku gss as:=by rw[<-e1,<-hb];exact hp
  have fi:=uJ (by rw[nK hl];exact h.nd) hp2;have ea:x9 (ku gss as) (k:Int)=b:=by unfold x9;rw[fi]
  have gd:∀e:En,tJ e (.d (.dict ((ku gss as).map aD))) (.d (.int (k:Int)))=some (.d (.bool b)):=λe=>by unfold tJ;dsimp only;have:=qz (k:Int) (ku gss as);rw[fi]at this;rw[show((ku gss as).map aD)=(ku gss as).map (λp=>(PyData.int p.1,p.2.toD)) from rfl,this];rfl
  show bN [some (.d (.dict ((ku gss as).map aD))),some (.d (.int (k:Int)))]=some (.d (.bool (x9 (ku gss as) (k:Int))),[some (.d (.dict ((ku gss as).map aD))),some (.d (.int (k:Int)))]);rw[ea];generalize (ku gss as).map aD=TT at*;simp?[bN,gd]) (by simp[bI];lia);have eo:[]++((aT 0 W.ties.length).filter λ_=>true).map (λx=>PyData.bool (x9 (ku gss as) (k8 x)))=(iR W.ties.length gss as).map .bool:=by rw[QI,SJ.mpr ↥4];unfold aT iR;rw[QE,QE];exact SV λi _=>by show PyData.bool (x9 (ku gss as) ((0:Int)+(i:Int)))=_;rw[Th];rfl
 rw[eo]at hf;have gl2:∀e:En,g1 ce e [.d (.tuple (W.ties.map aI))]=some (.d (.int (W.ties.length:Int))):=λe=>by show some (Rv.d (.int (((W.ties.map aI).length:Nat):Int)))=_;rw[Qz]
 have hi:dA [some (.d (ay W)),some (.d (.tuple (gss.map aB))),some (.d (.tuple (as.map .bool))),some (.d (.dict ((ku gss as).map aD)))]=some (aT 0 W.ties.length,[],[some (.d (ay W)),some (.d (.tuple (gss.map aB))),some (.d (.tuple (as.map .bool))),some (.d (.dict ((ku gss as).map aD)))]):=by have:=cf (n:=(W.ties.length:Int)) (fs:=(ac (aF (g1 ce) (ac (ax ba (af 0) (vC (.int 1))) am)) am)) (e:=[some (.d (ay W)),some (.d (.tuple (gss.map aB))),some (.d (.tuple (as.map .bool))),some (.d (.dict ((ku gss as).map aD)))]) (e1:=[some (.d (ay W)),some (.d (.tuple (gss.map aB))),some (.d (.tuple (as.map .bool))),some (.d (.dict ((ku gss as).map aD)))]) (by generalize W.ties.map aI=TT at*;generalize gss.map aB=GG at*;generalize as.map PyData.bool=AA at*;generalize (ku gss as).map aD=MM at*;generalize ay W=WW at*;simp?[g1',gl2]) ↥0 ↥0;rw[Sg]at this;exact this
 have hc:=gN (cp:=[(3,"said")]) (nT:=1) (fi:=dA) (g:=ah 1) (ft:=a_) (fe:=bN) (cs:=[some (.d (.dict ((ku gss as).map aD)))]) (t:=[none]) (t':=[t']) hi rfl rfl hf;clear hd hf hi eo;generalize (iR W.ties.length gss as).map PyData.bool=RR at*;generalize gss.map aB=GG at*;generalize as.map PyData.bool=AA at*;generalize (ku gss as).map aD=MM at*;generalize ay W=WW at*;simp?[bG,iy,hv,hc]
theorem zQ{n:Nat}{gss:List (List Int)}{as:List Bool}:(iR n gss as).length=n:=by simp[iR]
theorem IM{W:aZ}{gss:List (List Int)}(h:GS W W.ties gss):EA W.ties.length gss:=⟨h.nd,λk hk=>by obtain⟨g,h1,h2⟩:=UK.mp hk;exact h.inr g h1 k h2,h.len⟩
def js(n:Nat):List (List Int):=(pL n).map λk=>[k]
theorem qd(n:Nat):(js n).flatten=pL n:=by unfold js;generalize pL n=l;induction l with|nil=>rfl|cons a r ih=>rw[QB,Si,ih];rfl
theorem zK(n:Nat):EA n (js n):=⟨by rw[qd];exact Gs n,λk hk=>by rw[qd]at hk;exact DK hk,by rw[qd,nh]⟩
theorem BC{n i:Nat}(h:i<n):(js n)[i]?=some [(i:Int)]:=by unfold js pL;rw[QD,QD,List.getElem?_range h];rfl
theorem Gq{n:Nat}{bs:List Bool}(h:bs.length=n):iR n (js n) bs=bs:=by
 refine Sx λi=>?_;unfold iR;rw[QD];by_cases hi:i<n;·rw[List.getElem?_range hi];have h2:bs[i]?=some bs[i]:=QR ↥0;rw[h2];show some (x9 (ku (js n) bs) (i:Int))=_;rw[DE (zK n) (by unfold js;rw[Qz,nh];exact h.symm) (BC hi) h2 ↥1]
 ·rw[UI ↥7,UI ↥0];rfl
theorem D9{d:Qg}{n dep:Nat}(hz:Sz n dep d)(h1:n<=16777216)(h2:dep<=60):j' [.d d,.d d]=some (.d (.bool true),[.d d,.d d]):=by have r:∀e,g1 oX e [.d d]=some (.d (.str d.shown)):=λe=>EX (hz.ok h1 h2);have q:∀e,eh false e (.d (.str d.shown)) (.d (.str d.shown))=some (.d (.bool true)):=λe=>EV hz.so;simp?[j',BN,r,q]
structure xX (W:aZ) (gss:List (List Int)):Prop where
 ok:W.Ok
 pr:EA W.ties.length gss
 ne:∀g∈gss,g≠[]len:gss.length<=8
def vW(W:aZ)(gss:List (List Int)):aZ:=lx W (gss.map λg=>W.tie (g.headD 0))
theorem xX.inw{W:aZ}{gss:List (List Int)}(h:xX W gss){g:List Int}(hg:g∈gss):lR W (g.headD 0):=h.pr.inr _ (UK.mpr ⟨g,hg,lC (h.ne g hg)⟩)
theorem lw{W:aZ}{gss:List (List Int)}:(vW W gss).ties.length=gss.length:=by show(gss.map _).length=_;rw[Qz]
theorem xX.vok{W:aZ}{gss:List (List Int)}(h:xX W gss):(vW W gss).Ok:=by
 have ok:=h.ok;refine⟨ok.t0,ok.t1,λt ht=>?_,?_,ok.pl,ok.pat,ok.a0,ok.a1⟩;·obtain⟨g,hg,rfl⟩:=Qa ht;exact(h.inw hg).ok ok
 ·have:=h.len;rw[lw];lia
def kG(W:aZ)(gss:List (List Int))(T:List Nd)(bs:List Bool):Int:=kw W (rn T (iR W.ties.length gss bs) 17 (rt T))
def je(W:aZ)(gss:List (List Int))(T:List Nd)(bs:List Bool):Fr:=tm (m_ (1,1) (vW W gss).ties bs) (kG W gss T bs,1)
theorem Hd{W:aZ}(ok:W.Ok){gss:List (List Int)}{T:List Nd}{S:Nat->Std}(hT:gU W T S)(bs:List Bool):0<=kG W gss T bs/\kG W gss T bs<=16000:=Cz ok (tW ok hT _)
theorem J8{W:aZ}(ok:W.Ok){gss:List (List Int)}{T:List Nd}{S:Nat->Std}(hT:gU W T S)(bs:List Bool):sv 1 16000 (kG W gss T bs,1):=by have hv:=Hd ok (gss:=gss) hT bs;exact⟨SA,hv.1,by show kG _ _ _ _<=16000*1;lia,UF _⟩
theorem yW{W:aZ}{gss:List (List Int)}(h:xX W gss){T:List Nd}{S:Nat->Std}(hT:gU W T S):EC (vW W gss) (je W gss T):=λbs hl=>by have pr:=vg (λt ht=>h.vok.ties t ht) hl rj;have:=pr.tmS (J8 h.ok (gss:=gss) hT bs);rw[Int.mul_one]at this;exact this
theorem J7{W:aZ}(ok:W.Ok){gss:List (List Int)}{T:List Nd}{S:Nat->Std}(hT:gU W T S)(bs:List Bool):Bt 300 (kG W gss T bs)/\Bt 300 (1:Int):=by have hv:=Hd ok (gss:=gss) hT bs;exact⟨Bt.mono (m:=20) (by unfold Bt;lia) ⋯,Bt.mono (m:=1) (by unfold Bt;decide) ⋯⟩
theorem vB{a b:Fr}(ha:0<a.2)(hb:0<b.2):0<(tm a b).2:=(qa.lowM (Rx ha hb)).pos
theorem GL{a b c:Fr}(ha:0<a.2)(hb:0<b.2)(hc:0<c.2):tm (tm a b) c=tm (tm a c) b:=by have p1:=vB ha hb;have p2:=vB ha hc;refine Ef (qa.lowM (Rx p1 hc)) (qa.lowM (Rx p2 hb)) ?_;change vR (tm (tm a b) c)=vR (tm (tm a c) b);rw[xS p1 hc,xS p2 hb,xS ha hb,xS ha hc];grind
theorem Dh:∀{ts:List gf}{bs:List Bool}{a c:Fr},(∀t∈ts,0<t.bot)->0<a.2->0<c.2->m_ (tm a c) ts bs=tm (m_ a ts bs) c|[],_,a,c,_,_,_=>by simp[m_]|_::_,[],a,c,_,_,_=>by simp[m_]|t::ts,b::bs,a,c,ht,ha,hc=>by have p:=EG (ht t ↥1) b;show m_ (tm (tm a c) (qo t b)) ts bs=tm (m_ (tm a (qo t b)) ts bs) c;rw[GL ha hc p,Dh (λx hx=>ht x (by simp[hx])) (vB ha p) hc]
theorem Ju{k:Int}:tm (1,1) (k,1)=(k,1):=by refine Ef (qa.lowM (Rx SA SA)) ⟨SA,by simp⟩ ?_;change vR (tm (1,1) (k,1))=vR (k,1);rw[xS (a:=((1,1):Fr)) (b:=(k,1)) SA SA,L_];grind
theorem GK{a b:Fr}:tm a b=tm b a:=by unfold tm;rw[RI a.1,RI a.2]
theorem Kr{W:aZ}{gss:List (List Int)}(h:xX W gss){T:List Nd}{bs:List Bool}:m_ (kG W gss T bs,1) (vW W gss).ties bs=je W gss T bs:=by unfold je;rw[<-Dh (λt ht=>by have:=(h.vok.ties t ht).b0;lia) SA SA,Ju]
abbrev Ew(W:aZ)(gss:List (List Int))(T:List Nd)(f:Fr)(v5 v6:Option Sv):En:=[some (.d (ay W)),some (.d (.tuple (gss.map aB))),some (.d (.tuple (T.map iA))),some (.l ((vW W gss).ties.map λt=>.tuple [.int t.top,.int t.bot])),some (.d (dF f)),v5,v6]
theorem E1{W:aZ}{gss:List (List Int)}(h:xX W gss){T:List Nd}{S:Nat->Std}(hT:gU W T S){D:List (List Bool)}{b:List Bool}(hD:∀b∈D,b.length=(vW W gss).ties.length)(hb:b.length=(vW W gss).ties.length)(hl:D.length<1024)(v6:Option Sv):∃w6,bZ (Ew W gss T (bM (0,1) (D.map (je W gss T))) (some (.d (dB b))) v6)=some (.nx (Ew W gss T (bM (0,1) ((D++[b]).map (je W gss T))) (some (.d (dB b))) w6)):=by
 have hx:=yW h hT;have hn:(vW W gss).ties.length<=10:=by have:=h.len;rw[lw];lia
 obtain⟨s0,s1,s2⟩:=D2 h.vok hn hx hD ↥0;obtain⟨u0,u1,u2⟩:=Eb h.vok hn hx hb;have tp:=Js (a:=bM (0,1) (D.map (je W gss T))) (b:=je W gss T b) (n:=300) s0 u0 s1 s2 u1 u2 ⋯;have es:pl (bM (0,1) (D.map (je W gss T))) (je W gss T b)=bM (0,1) ((D++[b]).map (je W gss T)):=by simp[bM]
 rw[es]at tp;have tc:=xK h.vok hb;have ta:=yV h.ok.len h.pr (as:=b) (by rw[lw]at hb;exact hb.symm);have tr:=(yU h.ok hT (ans:=iR W.ties.length gss b) zQ).1;have th:=vA (tW h.ok hT (iR W.ties.length gss b));obtain⟨p0,p1,p2⟩:=zJ h.vok hn hb;obtain⟨q1,q2⟩:=J7 h.ok (gss:=gss) hT b;have tt:=Ai (a:=m_ (1,1) (vW W gss).ties b) (b:=(kG W gss T b,1)) (n:=300) p0 SA p1 p2 q1 q2 ⋯;change ia _=some (.d (dF (je W gss T b)),_) at tt;change cM _=some (.d (.int (kG W gss T b)),_) at th;have e0:dF (kG W gss T b,1)=.tuple [.int (kG W gss T b),.int 1]:=rfl;rw[e0]at tt;refine⟨some (.d (.tuple ((rn T (iR W.ties.length gss b) 17 (rt T)).map dR))),?_⟩;unfold dB Ew;generalize (vW W gss).ties.map (λt=>PyData.tuple [.int t.top,.int t.bot])=LL at*;generalize dF (bM (0,1) ((D++[b]).map (je W gss T)))=z0 at tp⊢;generalize dF (bM (0,1) (D.map (je W gss T)))=z1 at tp⊢;generalize dF (je W gss T b)=z2 at tp tt;generalize dF (m_ (1,1) (vW W gss).ties b)=z3 at tc tt;generalize kG W gss T b=z4 at*;generalize (rn T (iR W.ties.length gss b) 17 (rt T)).map dR=z5 at*;generalize (iR W.ties.length gss b).map PyData.bool=z6 at*;generalize T.map iA=TT at*;generalize gss.map aB=GG at*;simp?[bZ,ta,tr,tc,th,tt,tp]
theorem xO{W:aZ}{gss:List (List Int)}(h:xX W gss){T:List Nd}{S:Nat->Std}(hT:gU W T S):a9 [.d (ay W),.d (.tuple (gss.map aB)),.d (.tuple (T.map iA))]=some (.d (dF (bM (0,1) ((bv gss.length).map (je W gss T)))),[.d (ay W),.d (.tuple (gss.map aB)),.d (.tuple (T.map iA))]):=by
 have g1':=HR (W:=W);have len:=h.len;have vl:=lw (W:=W) (gss:=gss);obtain⟨ql,qr⟩:=jH gss.length;have pw:=yJ (n:=gss.length) ↥0;have ref:dG [.d (.int (gss.length:Int)),.d (.int 8)]=some (.d .none,[.d (.int (gss.length:Int)),.d (.int 8)]):=by
  have c:¬(8:Int)<(gss.length:Int):=by lia
  simp?[dG,kJ,c]
 have gln:∀e:En,g1 ce e [.d (.tuple (gss.map aB))]=some (.d (.int (gss.length:Int))):=λe=>by show some (Rv.d (.int (((gss.map aB).length:Nat):Int)))=_;rw[Qz]
 obtain⟨t',hfc⟩:=bE (cs:=[some (.d (ay W))]) (ft:=a_) (fe:=cJ) (b:=λ_=>true) (y:=λd=>match d with|.tuple (.int k::_)=>.tuple [.int (W.tie k).top,.int (W.tie k).bot]|_=>.none) (gss.map aB) none [] ↥4 (λx hx _=>by obtain⟨g,hg,rfl⟩:=Qa hx;have hw:=h.inw hg;have hne:=h.ne g hg;cases g with|nil=>exact absurd rfl hne|cons k r=>have ai:=eP (W:=W) (k:=k) hw;unfold aI at ai g1';show cJ [some (.d (ay W)),some (.d (.tuple (.int k::r.map .int)))]=some (.d (.tuple [.int (W.tie k).top,.int (W.tie k).bot]),[some (.d (ay W)),some (.d (.tuple (.int k::r.map .int)))]);have a0:atI (PyData.int k::r.map .int) 0=some (.int k):=fF;generalize r.map PyData.int=RR at*;generalize (W.ties.map λt=>PyData.tuple [.int t.one,.int t.other,.tuple [.int t.top,.int t.bot],.int t.worth])=TT at*;simp?[cJ,g1',ai,a0]) ↥7;have ec:[]++((gss.map aB).filter λ_=>true).map (λd=>match d with|.tuple (.int k::_)=>PyData.tuple [.int (W.tie k).top,.int (W.tie k).bot]|_=>.none)=(vW W gss).ties.map λt=>.tuple [.int t.top,.int t.bot]:=by rw[QI,SJ.mpr ↥4];show _=(gss.map λg=>W.tie (g.headD 0)).map _;rw[QE,QE];refine SV λg hg=>?_;have hne:=h.ne g hg;cases g with|nil=>exact absurd rfl hne|cons k r=>rfl
 rw[ec]at hfc;have hv:=iP (cp:=[(0,"web")]) (nT:=1) (g:=ah 1) (fi:=iF) (e:=[some (.d (ay W)),some (.d (.tuple (gss.map aB))),some (.d (.tuple (T.map iA))),none,none,none,none]) rfl hfc rfl;have ta:=sO (n:=gss.length) ↥0;obtain⟨e3,h3,⟨w5,w6,rfl⟩⟩:=cn (own:=[]) (g:=ah 5) (f:=bZ) (λi e=>∃v5 v6,e=Ew W gss T (bM (0,1) (((bv gss.length).take i).map (je W gss T))) v5 v6) ((bv gss.length).map dB) 0 (Ew W gss T (0,1) none none) (λi x e hx⟨v5,v6,he⟩=>by
  subst he;rw[QD]at hx;obtain⟨b,hp1,rfl⟩:=P9 hx;have hi:i<(bv gss.length).length:=(P_ hp1).1;obtain⟨w6,st⟩:=E1 h hT (D:=(bv gss.length).take (0+i)) (b:=b) (λx hx=>by rw[vl];exact qr x (Vn hx)) (by rw[vl];exact qr b (Qc hp1)) ↥7 v6;have e2:(bv gss.length).take (0+i+1)=(bv gss.length).take (0+i)++[b]:=by rw[List.take_succ,show(bv gss.length)[0+i]?=some b by simpa using hp1];simp
  rw[<-e2]at st;exact⟨_,_,rfl,st,bB,_,_,rfl⟩) ⟨none,none,rfl⟩;rw[show(bv gss.length).take (0+((bv gss.length).map dB).length)=bv gss.length by simp]at h3;have hf:∀Wl,cx Wl el (ah 5) bZ (Ew W gss T (0,1) none none)=some (.nx (Ew W gss T (bM (0,1) ((bv gss.length).map (je W gss T))) w5 w6)):=λWl=>by rw[dn (show el (Ew W gss T (0,1) none none)=some ((bv gss.length).map dB,[],Ew W gss T (0,1) none none) from uT (by generalize gss.map aB=GG at*;simp?[gln,ta]))];exact h3
 unfold Ew at hf;have e01:dF ((0,1):Fr)=.tuple [.int 0,.int 1]:=rfl;rw[e01]at hf;clear h3 hfc ec;generalize dF (bM (0,1) ((bv gss.length).map (je W gss T)))=z at*;generalize (vW W gss).ties.map (λt=>PyData.tuple [.int t.top,.int t.bot])=LL at*;generalize T.map iA=TT at*;generalize gss.map aB=GG at*;simp?[a9,jx,gln,ref,hv,hf]
def E2(k:Int):Qg->Bool|.tuple [_,.tuple gl]=>(gl.map k8).contains k|_=>false
theorem yT{n:Nat}{gss:List (List Int)}(h:EA n gss)(hl:gss.length<=16){k:Int}(h0:0<=k)(h1:k<(n:Int)):∃(j:Nat) (g:List Int),iH [.d (.tuple (gss.map aB)),.d (.int k)]=some (.d (.int (j:Int)),[.d (.tuple (gss.map aB)),.d (.int k)])/\gss[j]?=some g/\k∈g:=by
 have em:∀x∈di 0 (gss.map aB),∃(j:Nat) (g:List Int),x=.tuple [.int (j:Int),.tuple (g.map .int)]/\gss[j]?=some g:=λx hx=>by obtain⟨j,hj⟩:=Tg hx;rw[io,QD]at hj;obtain⟨y,h1,h2⟩:=P9 hj;obtain⟨g,h3,h4⟩:=P9 h1;refine⟨j,g,?_,h3⟩;rw[<-h2,<-h4,Ti];rfl
 obtain⟨t',lt',hf⟩:=fJ (cs:=[some (.d (.int k))]) (g:=a8 (aq (ah 1) (aq (ah 2) aY))) (ft:=eS) (fe:=j3) (b:=E2 k) (y:=λx=>.int (HX x)) (u:=GO) 2 (di 0 (gss.map aB)) [none,none] [] rfl (λx hx t ht=>by obtain⟨j,g,rfl,_⟩:=em x hx;exact Hs (cs:=[some (.d (.int k))]) rfl rfl rfl t ht) (λx hx=>by obtain⟨j,g,rfl,_⟩:=em x hx;rfl) (λx hx=>by obtain⟨j,g,rfl,hg⟩:=em x hx;have iv:=k9 g;have gi:∀e:En,Cc false e (.d (.int k)) (.d (.tuple (g.map .int)))=some (.d (.bool (g.contains k))):=λe=>dU;show eS [some (.d (.int k)),some (.d (.int (j:Int))),some (.d (.tuple (g.map .int)))]=some (((g.map PyData.int).map k8).contains k,[some (.d (.int k)),some (.d (.int (j:Int))),some (.d (.tuple (g.map .int)))]);rw[iv];clear iv;generalize g.map PyData.int=GG at*;generalize g.contains k=c at*;simp?[eS,gi]) (λx hx _=>by obtain⟨j,g,rfl,_⟩:=em x hx;rfl) (by simp[ip];lia);have hi:h_ [some (.d (.tuple (gss.map aB))),some (.d (.int k))]=some (di 0 (gss.map aB),[],[some (.d (.tuple (gss.map aB))),some (.d (.int k))]):=by generalize gss.map aB=LL at*;simp?[h_,oZ,vw]
 have hv:=gN (cp:=[(1,"_law_tie")]) (nT:=2) (fi:=h_) (g:=a8 (aq (ah 1) (aq (ah 2) aY))) (ft:=eS) (fe:=j3) (cs:=[some (.d (.int k))]) (t:=[none,none]) (t':=t') hi rfl rfl hf;rw[QI]at hv;obtain⟨g,hg,hk⟩:=UK.mp (h.all h0 h1);obtain⟨j,hj⟩:=Tg hg;have xin:PyData.tuple [.int (j:Int),.tuple (g.map .int)]∈(di 0 (gss.map aB)).filter (E2 k):=by
  refine Tv.mpr ⟨Qc (i:=j) ?_,?_⟩;·rw[io,QD,hj,Ti];rfl
  ·show((g.map PyData.int).map k8).contains k=true;rw[k9];simpa using hk
 match hF:(di 0 (gss.map aB)).filter (E2 k) with
 |[]=>rw[hF]at xin;cases xin|x::r=>
  have hx:x∈(di 0 (gss.map aB)).filter (E2 k):=by rw[hF];simp
  obtain⟨hx1,hx2⟩:=Tv.mp hx;obtain⟨j,g,rfl,hj⟩:=em x hx1;refine⟨j,g,?_,hj,?_⟩;·rw[hF,QB]at hv;change bj _ _ _ _ _ _ _=some (.l (.int (j:Int)::_),_) at hv;generalize r.map (λx=>PyData.int (HX x))=RR at*;generalize gss.map aB=LL at*;have a0:atI (PyData.int (j:Int)::RR) 0=some (.int (j:Int)):=fF;simp?[iH,qg,hv,a0]
  ·change ((g.map PyData.int).map k8).contains k=true at hx2;rw[k9]at hx2;simpa using hx2
theorem sP{W:aZ}{gss:List (List Int)}(h:xX W gss){bs:List Bool}(hb:gss.length=bs.length):dX [.d (ay W),.d (.tuple (gss.map aB)),.d (.tuple (bs.map .bool))]=some (.d (.tuple ((iR W.ties.length gss bs).map .bool)),[.d (ay W),.d (.tuple (gss.map aB)),.d (.tuple (bs.map .bool))]):=by
 have g1':=HR (W:=W);have len:=h.len;have wl:=h.ok.len;have gl2:∀e:En,g1 ce e [.d (.tuple (W.ties.map aI))]=some (.d (.int (W.ties.length:Int))):=λe=>by show some (Rv.d (.int (((W.ties.map aI).length:Nat):Int)))=_;rw[Qz]
 obtain⟨t',hf⟩:=bE (cs:=[some (.d (.tuple (bs.map .bool))),some (.d (.tuple (gss.map aB)))]) (ft:=a_) (fe:=cU) (b:=λ_=>true) (y:=λx=>.bool (x9 (ku gss bs) (k8 x))) (aT 0 W.ties.length) none [] ↥4 (λx hx _=>by obtain⟨i,hi⟩:=Tg hx;obtain⟨rfl,hi'⟩:=cP hi;obtain⟨j,g,tg,hj,hk⟩:=yT h.pr ↥0 (k:=0+(i:Int)) ↥0 ↥0;have jl:j<gss.length:=(P_ hj).1;have h2:bs[j]?=some bs[j]:=QR ↥0;have ea:=DE h.pr hb hj h2 hk;have ab:=nO (bs:=bs) (k:=(j:Int)) ↥0 ↥0;rw[Sg,Tf,h2,Ux,<-ea]at ab;show cU [some (.d (.tuple (bs.map .bool))),some (.d (.tuple (gss.map aB))),some (.d (.int (0+(i:Int))))]=some (.d (.bool (x9 (ku gss bs) (0+(i:Int)))),[some (.d (.tuple (bs.map .bool))),some (.d (.tuple (gss.map aB))),some (.d (.int (0+(i:Int))))]);generalize x9 (ku gss bs) (0+(i:Int))=z at*;generalize (0+(i:Int))=q at*;generalize bs.map PyData.bool=BB at*;generalize gss.map aB=GG at*;simp?[cU,tg,ab]) (by simp[bI];lia);have eo:[]++((aT 0 W.ties.length).filter λ_=>true).map (λx=>PyData.bool (x9 (ku gss bs) (k8 x)))=(iR W.ties.length gss bs).map .bool:=by rw[QI,SJ.mpr ↥4];unfold aT iR;rw[QE,QE];refine SV λi _=>?_;show PyData.bool (x9 (ku gss bs) (0+(i:Int)))=_;rw[Th];rfl
 rw[eo]at hf;have hi:gX [some (.d (ay W)),some (.d (.tuple (gss.map aB))),some (.d (.tuple (bs.map .bool)))]=some (aT 0 W.ties.length,[],[some (.d (ay W)),some (.d (.tuple (gss.map aB))),some (.d (.tuple (bs.map .bool)))]):=by have:=cf (n:=(W.ties.length:Int)) (fs:=(ac (aF (g1 ce) (ac (ax ba (af 0) (vC (.int 1))) am)) am)) (e:=[some (.d (ay W)),some (.d (.tuple (gss.map aB))),some (.d (.tuple (bs.map .bool)))]) (e1:=[some (.d (ay W)),some (.d (.tuple (gss.map aB))),some (.d (.tuple (bs.map .bool)))]) (by generalize W.ties.map aI=TT at*;simp?[g1',gl2]) ↥0 ↥0;rw[Sg]at this;exact this
 have hv:=gN (cp:=[(2,"_law_answers"),(1,"_law_groups")]) (nT:=1) (fi:=gX) (g:=ah 2) (ft:=a_) (fe:=cU) (cs:=[some (.d (.tuple (bs.map .bool))),some (.d (.tuple (gss.map aB)))]) (t:=[none]) (t':=[t']) hi rfl rfl hf;clear hf hi eo;generalize (iR W.ties.length gss bs).map PyData.bool=RR at*;generalize gss.map aB=GG at*;generalize bs.map PyData.bool=BB at*;generalize ay W=WW at*;have gtl:∀(e:En) (xs:List Qg),g1 bf e [.l xs]=some (.d (.tuple xs)):=λe xs=>rfl;simp?[dX,lY,hv,gtl]
theorem zF{W:aZ}(ok:W.Ok){c1 c2 c3 c4:Option Sv}:∀(gss:List (List Int)) (bs:List Bool) (M:Int) (k:Nat) (a:Fr) (v6 v7 v8:Option Sv),(∀g∈gss,g≠[]/\lR W (g.headD 0))->bs.length=gss.length->0<M->Bt k M->k+7*gss.length<=120->sv M 16000 a->∃w6 w7 w8,j5 [] (a8 (aq (ah 6) (aq (ah 7) aY))) dM (gP (gss.map aB) (bs.map .bool)) [some (.d (ay W)),c1,c2,c3,c4,some (.d (dF a)),v6,v7,v8]=some (.nx [some (.d (ay W)),c1,c2,c3,c4,some (.d (dF (m_ a (gss.map λg=>W.tie (g.headD 0)) bs))),w6,w7,w8])
 |[],[],M,k,a,v6,v7,v8,_,_,_,_,_,_=>⟨v6,v7,v8,rfl⟩|[],_::_,_,_,_,_,_,_,_,hl,_,_,_,_=>by simp at hl|_::_,[],_,_,_,_,_,_,_,hl,_,_,_,_=>by simp at hl|g::gss,b::bs,M,k,a,v6,v7,v8,hg,hl,hM,hb,hk,h=>by
  obtain⟨hne,hw⟩:=hg g ↥1;have o:=hw.ok ok;have ai:=eP (W:=W) hw;have a0:atI (g.map PyData.int) 0=some (.int (g.headD 0)):=by cases g with|nil=>exact absurd rfl hne|cons x r=>rw[QB];exact fF
  generalize ht:W.tie (g.headD 0)=t at*;have g1':=HR (W:=W);have b0:=o.b0;have b1:=o.b1;have rc:=uu o b;simp only[Rk]at hk;obtain⟨c1',c2'⟩:=h.bt (m:=20) hb hM (by unfold Bt;decide);obtain⟨c3',c4'⟩:=rc.bt (n:=7) (by unfold Bt;lia) ↥0;have tt:=vy (a:=a) (b:=qo t b) (n:=300) h.pos rc.pos (c1'.mono ↥0) (c2'.mono ↥0) (c3'.mono ↥0) (c4'.mono ↥0) ↥0;have to:=Ad (t:=t);have hs:=rc.tmS h;rw[GK,RI]at hs;obtain⟨w6,w7,w8,ih⟩:=zF ok (c1:=c1) (c2:=c2) (c3:=c3) (c4:=c4) gss bs (M*t.bot) (k+7) (tm a (qo t b)) (some (.d (aB g))) (some (.d (.bool b))) (some (.d (.tuple [.int t.top,.int t.bot]))) (λx hx=>hg x (by simp[hx])) (by simpa using hl) (Rx hM ↥0) (hb.mul (show Bt 7 t.bot by unfold Bt;lia)) ↥0 hs;refine⟨w6,w7,w8,?_⟩;have hgt:a8 (aq (ah 6) (aq (ah 7) aY)) (.tuple [aB g,.bool b]) [some (.d (ay W)),c1,c2,c3,c4,some (.d (dF a)),v6,v7,v8]=some [some (.d (ay W)),c1,c2,c3,c4,some (.d (dF a)),some (.d (aB g)),some (.d (.bool b)),v8]:=rfl;have hbd:dM [some (.d (ay W)),c1,c2,c3,c4,some (.d (dF a)),some (.d (aB g)),some (.d (.bool b)),v8]=some (.nx [some (.d (ay W)),c1,c2,c3,c4,some (.d (dF (tm a (qo t b)))),some (.d (aB g)),some (.d (.bool b)),some (.d (.tuple [.int t.top,.int t.bot]))]):=by unfold aB;clear ht;unfold aI at ai g1';generalize g.map PyData.int=GG at*;generalize g.headD 0=h0 at*;generalize (W.ties.map λt=>PyData.tuple [.int t.one,.int t.other,.tuple [.int t.top,.int t.bot],.int t.worth])=TU at*;cases b with|true=>have e:dF (qo t true)=.tuple [.int t.top,.int t.bot]:=rfl;have gi:∀e:En,g1 mR e [.d (.bool true)]=some (.d (.int 1)):=λe=>rfl;rw[e]at tt;simp?[dM,g1',a0,ai,to,tt,gi]|false=>have gi:∀e:En,g1 mR e [.d (.bool false)]=some (.d (.int 0)):=λe=>rfl;simp?[dM,g1',a0,ai,to,tt,gi]
  simp only[QB,gP,j5,hgt,QC,hbd];rw[if_pos bB,ht];exact ih
abbrev Es(W:aZ)(gss:List (List Int))(T:List Nd)(f:Fr)(v4 v5 v6 v7 v8:Option Sv):En:=[some (.d (ay W)),some (.d (.tuple (gss.map aB))),some (.d (.tuple (T.map iA))),some (.d (dF f)),v4,v5,v6,v7,v8]
theorem Fj{W:aZ}{gss:List (List Int)}(h:xX W gss){T:List Nd}{S:Nat->Std}(hT:gU W T S){D:List (List Bool)}{b:List Bool}(hD:∀b∈D,b.length=(vW W gss).ties.length)(hb:b.length=(vW W gss).ties.length)(hl:D.length<1024)(v5 v6 v7 v8:Option Sv):∃w5 w6 w7 w8,eQ (Es W gss T (bM (0,1) (D.map (je W gss T))) (some (.d (dB b))) v5 v6 v7 v8)=some (.nx (Es W gss T (bM (0,1) ((D++[b]).map (je W gss T))) (some (.d (dB b))) w5 w6 w7 w8)):=by
 have hx:=yW h hT;have len:=h.len;have hn:(vW W gss).ties.length<=10:=by rw[lw];lia
 obtain⟨s0,s1,s2⟩:=D2 h.vok hn hx hD ↥0;obtain⟨u0,u1,u2⟩:=Eb h.vok hn hx hb;have tp:=D7 (a:=bM (0,1) (D.map (je W gss T))) (b:=je W gss T b) (n:=300) s0 u0 s1 s2 u1 u2 ⋯;have es:pl (bM (0,1) (D.map (je W gss T))) (je W gss T b)=bM (0,1) ((D++[b]).map (je W gss T)):=by simp[bM]
 rw[es]at tp;have hb':b.length=gss.length:=by rw[lw]at hb;exact hb
 have ta:=sP h (bs:=b) hb'.symm;have tr:=rY h.ok hT (ans:=iR W.ties.length gss b) zQ;have th:=D6 (tW h.ok hT (iR W.ties.length gss b));change k_ _=some (.d (.int (kG W gss T b)),_) at th;obtain⟨w6,w7,w8,hf⟩:=zF h.ok (c1:=some (.d (.tuple (gss.map aB)))) (c2:=some (.d (.tuple (T.map iA)))) (c3:=some (.d (dF (bM (0,1) (D.map (je W gss T)))))) (c4:=some (.d (dB b))) gss b 1 1 (kG W gss T b,1) v6 v7 v8 (λg hg=>⟨h.ne g hg,h.inw hg⟩) hb' ⋯ (by unfold Bt;decide) ↥0 (J8 h.ok (gss:=gss) hT b);have e1:m_ (kG W gss T b,1) (gss.map λg=>W.tie (g.headD 0)) b=je W gss T b:=Kr h;rw[e1]at hf;have e0:dF (kG W gss T b,1)=.tuple [.int (kG W gss T b),.int 1]:=rfl;rw[e0]at hf;refine⟨some (.d (dF (je W gss T b))),w6,w7,w8,?_⟩;have hs:∀Wl,cx Wl mU (a8 (aq (ah 6) (aq (ah 7) aY))) dM [some (.d (ay W)),some (.d (.tuple (gss.map aB))),some (.d (.tuple (T.map iA))),some (.d (dF (bM (0,1) (D.map (je W gss T))))),some (.d (dB b)),some (.d (.tuple [.int (kG W gss T b),.int 1])),v6,v7,v8]=some (.nx [some (.d (ay W)),some (.d (.tuple (gss.map aB))),some (.d (.tuple (T.map iA))),some (.d (dF (bM (0,1) (D.map (je W gss T))))),some (.d (dB b)),some (.d (dF (je W gss T b))),w6,w7,w8]):=λWl=>by rw[dn (items:=gP (gss.map aB) (b.map .bool)) (e1:=[some (.d (ay W)),some (.d (.tuple (gss.map aB))),some (.d (.tuple (T.map iA))),some (.d (dF (bM (0,1) (D.map (je W gss T))))),some (.d (dB b)),some (.d (.tuple [.int (kG W gss T b),.int 1])),v6,v7,v8]) rfl];exact hf
 unfold Es;unfold dB at hs⊢;clear hf e1;generalize dF (bM (0,1) ((D++[b]).map (je W gss T)))=z0 at*;generalize dF (bM (0,1) (D.map (je W gss T)))=z1 at*;generalize dF (je W gss T b)=z2 at*;generalize kG W gss T b=z4 at*;generalize (rn T (iR W.ties.length gss b) 17 (rt T)).map dR=z5 at*;generalize (iR W.ties.length gss b).map PyData.bool=z6 at*;generalize T.map iA=TT at*;generalize gss.map aB=GG at*;simp?[eQ,ta,tr,th,hs,tp]
theorem xM{W:aZ}{gss:List (List Int)}(h:xX W gss){T:List Nd}{S:Nat->Std}(hT:gU W T S):dD [.d (ay W),.d (.tuple (gss.map aB)),.d (.tuple (T.map iA))]=some (.d (dF (bM (0,1) ((aP gss.length).map (je W gss T)))),[.d (ay W),.d (.tuple (gss.map aB)),.d (.tuple (T.map iA))]):=by
 have len:=h.len;have vl:=lw (W:=W) (gss:=gss);obtain⟨ql,qr⟩:=fQ gss.length;have pw:=yJ (n:=gss.length) ↥0;have gln:∀e:En,g1 ce e [.d (.tuple (gss.map aB))]=some (.d (.int (gss.length:Int))):=λe=>by show some (Rv.d (.int (((gss.map aB).length:Nat):Int)))=_;rw[Qz]
 have ta:=ma (n:=gss.length) ↥0;obtain⟨e3,h3,⟨w4,w5,w6,w7,w8,rfl⟩⟩:=cn (own:=[]) (g:=ah 4) (f:=eQ) (λi e=>∃v4 v5 v6 v7 v8,e=Es W gss T (bM (0,1) (((aP gss.length).take i).map (je W gss T))) v4 v5 v6 v7 v8) ((aP gss.length).map dB) 0 (Es W gss T (0,1) none none none none none) (λi x e hx⟨v4,v5,v6,v7,v8,he⟩=>by
  subst he;rw[QD]at hx;obtain⟨b,hp1,rfl⟩:=P9 hx;have hi:i<(aP gss.length).length:=(P_ hp1).1;obtain⟨w5,w6,w7,w8,st⟩:=Fj h hT (D:=(aP gss.length).take (0+i)) (b:=b) (λx hx=>by rw[vl];exact qr x (Vn hx)) (by rw[vl];exact qr b (Qc hp1)) ↥7 v5 v6 v7 v8;have e2:(aP gss.length).take (0+i+1)=(aP gss.length).take (0+i)++[b]:=by rw[List.take_succ,show(aP gss.length)[0+i]?=some b by simpa using hp1];simp
  rw[<-e2]at st;exact⟨_,_,rfl,st,bB,_,_,_,_,_,rfl⟩) ⟨none,none,none,none,none,rfl⟩;rw[show(aP gss.length).take (0+((aP gss.length).map dB).length)=aP gss.length by simp]at h3;have hf:∀Wl,cx Wl j8 (ah 4) eQ (Es W gss T (0,1) none none none none none)=some (.nx (Es W gss T (bM (0,1) ((aP gss.length).map (je W gss T))) w4 w5 w6 w7 w8)):=λWl=>by rw[dn (show j8 (Es W gss T (0,1) none none none none none)=some ((aP gss.length).map dB,[],Es W gss T (0,1) none none none none none) from uT (by generalize gss.map aB=GG at*;simp?[gln,ta]))];exact h3
 unfold Es at hf;have e01:dF ((0,1):Fr)=.tuple [.int 0,.int 1]:=rfl;rw[e01]at hf;clear h3;generalize dF (bM (0,1) ((aP gss.length).map (je W gss T)))=z at*;generalize T.map iA=TT at*;generalize gss.map aB=GG at*;simp?[dD,qi,hf]
theorem Af{W:aZ}{gss:List (List Int)}(h:xX W gss){T:List Nd}{S:Nat->Std}(hT:gU W T S):∃f:Qg,a9 [.d (ay W),.d (.tuple (gss.map aB)),.d (.tuple (T.map iA))]=some (.d f,[.d (ay W),.d (.tuple (gss.map aB)),.d (.tuple (T.map iA))])/\dD [.d (ay W),.d (.tuple (gss.map aB)),.d (.tuple (T.map iA))]=some (.d f,[.d (ay W),.d (.tuple (gss.map aB)),.d (.tuple (T.map iA))])/\j' [.d f,.d f]=some (.d (.bool true),[.d f,.d f]):=by
 have t1:=xO h hT;have t2:=xM h hT;have len:=h.len;have vl:=lw (W:=W) (gss:=gss);obtain⟨ql,qr⟩:=fQ gss.length;have pw:=yJ (n:=gss.length) ↥0;have hx:=yW h hT;have hn:(vW W gss).ties.length<=10:=by rw[vl];lia
 have m0:=(m5 h.vok hn).1;have ep:bM (0,1) ((bv gss.length).map (je W gss T))=bM (0,1) ((aP gss.length).map (je W gss T)):=ug (M:=qT 1 (vW W gss).ties) (j:=16000) m0 ⋯ ((iu gss.length).map (je W gss T)) λf hf=>by obtain⟨b,hb,rfl⟩:=Qa hf;exact hx b (by rw[vl];exact(jH gss.length).2 b hb)
 rw[ep]at t1;obtain⟨s0,s1,s2⟩:=D2 h.vok hn hx (L:=aP gss.length) (λb hb=>by rw[vl];exact qr b hb) ↥0;have sz:=Sz.fr s1 s2 ⋯ ⋯;exact⟨_,t1,t2,D9 sz ⋯ ⋯⟩
def GA(n:Nat):List (List Int):=(RV 8).map λk:Nat=>Bg (k:Int) 8 (QW (k:Int) (n:Int) 8).toNat
theorem EQ:∀m q:Fin 8,SX ((q.val:Nat):Int) ((m.val+9:Nat):Int) 8=true/\0<=QW ((q.val:Nat):Int) ((m.val+9:Nat):Int) 8/\QW ((q.val:Nat):Int) ((m.val+9:Nat):Int) 8<=100000:=by decide+kernel
theorem ER:∀m:Fin 8,(GA (m.val+9)).flatten.Nodup/\(∀k∈(GA (m.val+9)).flatten,0<=k/\k<((m.val+9:Nat):Int))/\(GA (m.val+9)).flatten.length=m.val+9/\∀g∈GA (m.val+9),g≠[]:=by decide+kernel
theorem Ly{UU:Qg}{q wn:Int}(ea:(ac (af 1) (ac (aF (g1 ce) (ac (af 0) am)) (ac (vC (.int 8)) am))) [some (.d UU),some (.d (.int q))]=some ([.d (.int q),.d (.int wn),.d (.int 8)],[some (.d UU),some (.d (.int q))]))(cc:(0:Int)<8/\(8:Int)<2^30/\-2^60<q/\q<2^60/\-2^60<wn/\wn<2^60/\SX q wn 8=true/\0<=QW q wn 8/\QW q wn 8<=100000):iT [some (.d UU),some (.d (.int q))]=some (.d (aB (Bg q 8 (QW q wn 8).toNat)),[some (.d UU),some (.d (.int q))]):=by unfold iT GR;rw[ea];simp only[QC,bL];rw[if_pos cc];unfold aB;rfl
def B5:FS:=(aC (aN 4 (ax ba (ax ba (ax ba (af 2) (vC (.int 1))) (vC (.int 0))) (vC (.int 2)))) (aC (aN 5 (aF (g1 bf) (ac (bj [(4,"_law_chance_here")] 1 mT (ah 1) a_ j2) am))) (aC (aN 2 (bo (ac (ax ba (af 2) (vC (.int 0))) (ac (af 5) (ac (ax ba (af 2) (vC (.int 2))) (ac (ax ba (af 2) (vC (.int 3))) am)))))) (aN 3 (aF (g1 bf) (ac (bj [(5,"_law_ties_here")] 1 pV (ah 1) a_ iT) am))))))
theorem DZ{f g:FS}{e e1:En}(h:f e=some (.nx e1)):aC f g e=g e1:=by simp[aC,h]
theorem JX{X:FE}{e0 e1 e2 e3 e4 e5:Option Sv}{SS:List Qg}(h:X [e0,e1,e2,e3,e4,e5]=some (.l SS,[e0,e1,e2,e3,e4,e5])):aN 3 (aF (g1 bf) (ac X am)) [e0,e1,e2,e3,e4,e5]=some (.nx [e0,e1,e2,some (.d (.tuple SS)),e4,e5]):=by have gtl:∀(e:En) (xs:List Qg),g1 bf e [.l xs]=some (.d (.tuple xs)):=λe xs=>rfl;simp?[h,gtl]
theorem EN{d2:List Int}{X0 X C t0:Qg}{GG TT UU PP SS:List Qg}{th asx:Int}(g0':∀e:En,ba e (.d X) (.d (.int 0))=some (.d (.int th)))(g1':∀e:En,ba e (.d X) (.d (.int 1))=some (.d (.tuple TT)))(g2':∀e:En,ba e (.d X) (.d (.int 2))=some (.d (.tuple PP)))(g3':∀e:En,ba e (.d X) (.d (.int 3))=some (.d (.int asx)))(g00:∀e:En,ba e (.d (.tuple TT)) (.d (.int 0))=some (.d t0))(gc2:∀e:En,ba e (.d t0) (.d (.int 2))=some (.d C))(hv:bj [(4,"_law_chance_here")] 1 mT (ah 1) a_ j2 [some (.l (d2.map .int)),some (.d X0),some (.d X),some (.d (.tuple GG)),some (.d C),none]=some (.l UU,[some (.l (d2.map .int)),some (.d X0),some (.d X),some (.d (.tuple GG)),some (.d C),none]))(hv2:bj [(5,"_law_ties_here")] 1 pV (ah 1) a_ iT [some (.l (d2.map .int)),some (.d X0),some (.d (.tuple [.int th,.tuple UU,.tuple PP,.int asx])),some (.d (.tuple GG)),some (.d C),some (.d (.tuple UU))]=some (.l SS,[some (.l (d2.map .int)),some (.d X0),some (.d (.tuple [.int th,.tuple UU,.tuple PP,.int asx])),some (.d (.tuple GG)),some (.d C),some (.d (.tuple UU))])):B5 [some (.l (d2.map .int)),some (.d X0),some (.d X),some (.d (.tuple GG)),none,none]=some (.nx [some (.l (d2.map .int)),some (.d X0),some (.d (.tuple [.int th,.tuple UU,.tuple PP,.int asx])),some (.d (.tuple SS)),some (.d C),some (.d (.tuple UU))]):=by
 have gtl:∀(e:En) (xs:List Qg),g1 bf e [.l xs]=some (.d (.tuple xs)):=λe xs=>rfl;have hA:(aN 4 (ax ba (ax ba (ax ba (af 2) (vC (.int 1))) (vC (.int 0))) (vC (.int 2)))) [some (.l (d2.map .int)),some (.d X0),some (.d X),some (.d (.tuple GG)),none,none]=some (.nx [some (.l (d2.map .int)),some (.d X0),some (.d X),some (.d (.tuple GG)),some (.d C),none]):=by generalize d2.map PyData.int=DD at*;simp?[g1',g00,gc2]
 have hB:(aN 5 (aF (g1 bf) (ac (bj [(4,"_law_chance_here")] 1 mT (ah 1) a_ j2) am))) [some (.l (d2.map .int)),some (.d X0),some (.d X),some (.d (.tuple GG)),some (.d C),none]=some (.nx [some (.l (d2.map .int)),some (.d X0),some (.d X),some (.d (.tuple GG)),some (.d C),some (.d (.tuple UU))]):=by generalize d2.map PyData.int=DD at*;simp?[hv,gtl]
 have hC:(aN 2 (bo (ac (ax ba (af 2) (vC (.int 0))) (ac (af 5) (ac (ax ba (af 2) (vC (.int 2))) (ac (ax ba (af 2) (vC (.int 3))) am)))))) [some (.l (d2.map .int)),some (.d X0),some (.d X),some (.d (.tuple GG)),some (.d C),some (.d (.tuple UU))]=some (.nx [some (.l (d2.map .int)),some (.d X0),some (.d (.tuple [.int th,.tuple UU,.tuple PP,.int asx])),some (.d (.tuple GG)),some (.d C),some (.d (.tuple UU))]):=by generalize d2.map PyData.int=DD at*;simp?[g0',g2',g3']
 unfold B5;rw[DZ hA,DZ hB,DZ hC];exact JX hv2
theorem EO{d d2:List Int}{X0 X Y C:Qg}{GG UU SS:List Qg}{gl:Int}(tg:eI [.l (d.map .int),.d X0]=some (.d (.tuple [X,.tuple GG]),[.l (d2.map .int),.d X0]))(gln:∀e:En,g1 ce e [.d (.tuple GG)]=some (.d (.int gl)))(c':8<gl)(hb:B5 [some (.l (d2.map .int)),some (.d X0),some (.d X),some (.d (.tuple GG)),none,none]=some (.nx [some (.l (d2.map .int)),some (.d X0),some (.d Y),some (.d (.tuple SS)),some (.d C),some (.d (.tuple UU))])):o_ [.l (d.map .int),.d X0]=some (.d (.tuple [Y,.tuple SS]),[.l (d2.map .int),.d X0]):=by generalize d.map PyData.int=D at*;generalize d2.map PyData.int=DD at*;have eb:BJ=(aC (jo (bR 2 eI (ac (af 0) (ac (af 1) am))) (a8 (aq (ah 2) (aq (ah 3) aY)))) (aC (ky (aX (ax Ca (aF (g1 ce) (ac (af 3) am)) (vC (.int 8)))) B5 eM) (bx (bo (ac (af 2) (ac (af 3) am)))))):=rfl;unfold o_;rw[eb];generalize B5=FB at*;simp?[tg,gln,c',hb]
theorem Hq{W0:aZ}(ok0:W0.Ok){ds:List Int}(hd:jz ds):∃ds' W gss,o_ [.l (ds.map .int),.d (ay W0)]=some (.d (.tuple [ay W,.tuple (gss.map aB)]),[.l (ds'.map .int),.d (ay W0)])/\jz ds'/\xX W gss:=by
 obtain⟨d2,ts,gss,tg,hd2,hG,ok⟩:=Bk ok0 hd;generalize hW:lx W0 ts=W at*;have hT:ts=W.ties:=by rw[<-hW];rfl
 rw[hT]at hG;clear hW hT;have wl:=ok.len;have gl:=pU hG.ne;have glen:=hG.len;have gln:∀e:En,g1 ce e [.d (.tuple (gss.map aB))]=some (.d (.int (gss.length:Int))):=λe=>by show some (Rv.d (.int (((gss.map aB).length:Nat):Int)))=_;rw[Qz]
 by_cases c:gss.length<=8
 ·refine⟨d2,W,gss,?_,hd2,⟨ok,IM hG,hG.ne,c⟩⟩;have c':¬(8:Int)<(gss.length:Int):=by lia
  generalize (gss.length:Int)=gl at*;generalize gss.map aB=GG at*;generalize ay W=WW at*;generalize ay W0=WW0 at*;simp?[o_,BJ,tg,gln,c']
 ·have c':(8:Int)<(gss.length:Int):=by lia
  have i0:lR W 0:=⟨by decide,by lia⟩;have o0:=i0.ok ok;have ai:=eP (W:=W) i0;have g0':=Mi (W:=W);have g1':=HR (W:=W);have g2':=Mj (W:=W);have g3':=Ml (W:=W);obtain⟨C,hC⟩:∃C:Qg,C=.tuple [.int (W.tie 0).top,.int (W.tie 0).bot]:=⟨_,rfl⟩;obtain⟨us,hus⟩:∃us:List gf,us=W.ties.map λt=>⟨t.one,t.other,(W.tie 0).top,(W.tie 0).bot,t.worth⟩:=⟨_,rfl⟩;have ul:us.length=W.ties.length:=by rw[hus,Qz]
  have uok:(lx W us).Ok:=⟨ok.t0,ok.t1,λt ht=>by have ht:t∈us:=ht;rw[hus]at ht;obtain⟨u,hu,rfl⟩:=Qa ht;have o:=ok.ties u hu;exact⟨o.o0,o.o1,o.o2,o0.c0,o0.c1,o0.b0,o0.b1,o.w0,o.w1,o0.cop⟩,by show us.length<=16;lia,ok.pl,ok.pat,ok.a0,ok.a1⟩;obtain⟨m,hm⟩:∃m:Fin 8,W.ties.length=m.val+9:=⟨⟨W.ties.length-9,by lia⟩,by show _=W.ties.length-9+9;lia⟩;obtain⟨p1,p2,p3,p4⟩:=ER m;have fw:xX (lx W us) (GA W.ties.length):=by refine⟨uok,?_,by rw[hm];exact p4,by simp[GA]⟩;show EA us.length _;rw[ul,hm];exact⟨p1,p2,p3⟩
  refine⟨d2,lx W us,GA W.ties.length,?_,hd2,fw⟩;obtain⟨t',hf⟩:=bE (cs:=[some (.d C)]) (ft:=a_) (fe:=j2) (b:=λ_=>true) (y:=λd=>match d with|.tuple [a,b,_,w]=>.tuple [a,b,C,w]|_=>.none) (W.ties.map aI) none [] ↥4 (λx hx _=>by obtain⟨t,ht,rfl⟩:=Qa hx;have c1:∀(x0 x1 x2 x3:Qg),L2.cutD [x0,x1,x2,x3] none (some 2)=[x0,x1]:=λ_ _ _ _=>rfl;unfold aI;simp?[j2,l5,c1,j6]) ↥7;have eo:[]++((W.ties.map aI).filter λ_=>true).map (λd=>match d with|.tuple [a,b,_,w]=>PyData.tuple [a,b,C,w]|_=>.none)=us.map aI:=by rw[QI,SJ.mpr ↥4,hus,QE,QE,hC];rfl
  rw[eo]at hf;have hv:=iP (cp:=[(4,"_law_chance_here")]) (nT:=1) (g:=ah 1) (fi:=mT) (ft:=a_) (fe:=j2) (e:=[some (.l (d2.map .int)),some (.d (ay W0)),some (.d (ay W)),some (.d (.tuple (gss.map aB))),some (.d C),none]) (e1:=[some (.l (d2.map .int)),some (.d (ay W0)),some (.d (ay W)),some (.d (.tuple (gss.map aB))),some (.d C),none]) (uS (by generalize W.ties.map aI=TT at*;generalize gss.map aB=GG at*;simp?[g1'])) hf rfl;have glu:∀e:En,g1 ce e [.d (.tuple (us.map aI))]=some (.d (.int (W.ties.length:Int))):=λe=>by show some (Rv.d (.int (((us.map aI).length:Nat):Int)))=_;rw[Qz,ul]
  obtain⟨t2,hf2⟩:=bE (cs:=[some (.d (.tuple (us.map aI)))]) (ft:=a_) (fe:=iT) (b:=λ_=>true) (y:=λd=>aB (Bg (k8 d) 8 (QW (k8 d) (W.ties.length:Int) 8).toNat)) (aT 0 8) none [] ↥4 (λx hx _=>by
   obtain⟨i,hi⟩:=Tg hx;obtain⟨rfl,hi'⟩:=cP hi;obtain⟨n1,n2,n3⟩:=EQ m ⟨i,hi'⟩;rw[<-hm]at n1 n2 n3;change SX (i:Int) _ 8=true at n1;change 0<=QW (i:Int) _ 8 at n2;change QW (i:Int) _ 8<=100000 at n3;show iT [some (.d (.tuple (us.map aI))),some (.d (.int (0+(i:Int))))]=some (.d (aB (Bg (0+(i:Int)) 8 (QW (0+(i:Int)) (W.ties.length:Int) 8).toNat)),[some (.d (.tuple (us.map aI))),some (.d (.int (0+(i:Int))))]);rw[Th];have cc:(0:Int)<8/\(8:Int)<2^30/\-2^60<(i:Int)/\(i:Int)<2^60/\-2^60<(W.ties.length:Int)/\(W.ties.length:Int)<2^60/\SX (i:Int) (W.ties.length:Int) 8=true/\0<=QW (i:Int) (W.ties.length:Int) 8/\QW (i:Int) (W.ties.length:Int) 8<=100000:=⟨by lia,by lia,by lia,by lia,by lia,by lia,n1,n2,n3⟩;have ea:(ac (af 1) (ac (aF (g1 ce) (ac (af 0) am)) (ac (vC (.int 8)) am))) [some (.d (.tuple (us.map aI))),some (.d (.int (i:Int)))]=some ([.d (.int (i:Int)),.d (.int (W.ties.length:Int)),.d (.int 8)],[some (.d (.tuple (us.map aI))),some (.d (.int (i:Int)))]):=by generalize us.map aI=UU at*;simp?[glu]
   exact Ly ea cc) (by simp[bI]);have e8:[]++((aT 0 8).filter λ_=>true).map (λd=>aB (Bg (k8 d) 8 (QW (k8 d) (W.ties.length:Int) 8).toNat))=(GA W.ties.length).map aB:=by rw[QI,SJ.mpr ↥4];unfold aT GA;rw[QE,QE];refine SV λi _=>?_;show aB (Bg (0+(i:Int)) 8 (QW (0+(i:Int)) (W.ties.length:Int) 8).toNat)=_;rw[Th];rfl
  rw[e8]at hf2;have hv2:=iP (cp:=[(5,"_law_ties_here")]) (nT:=1) (g:=ah 1) (fi:=pV) (ft:=a_) (fe:=iT) (e:=[some (.l (d2.map .int)),some (.d (ay W0)),some (.d (ay (lx W us))),some (.d (.tuple (gss.map aB))),some (.d C),some (.d (.tuple (us.map aI)))]) (e1:=[some (.l (d2.map .int)),some (.d (ay W0)),some (.d (ay (lx W us))),some (.d (.tuple (gss.map aB))),some (.d C),some (.d (.tuple (us.map aI)))]) rfl hf2 rfl;have eW:ay (lx W us)=.tuple [.int W.things,.tuple (us.map aI),.tuple (W.pat.map .int),.int W.asks]:=rfl;have gtl:∀(e:En) (xs:List Qg),g1 bf e [.l xs]=some (.d (.tuple xs)):=λe xs=>rfl;have g00:∀e:En,ba e (.d (.tuple (W.ties.map aI))) (.d (.int 0))=some (.d (aI (W.tie 0))):=λe=>by rw[gv,ai];rfl
  have gc2:∀e:En,ba e (.d (aI (W.tie 0))) (.d (.int 2))=some (.d C):=λe=>by rw[hC];rfl
  rw[eW]at hv2⊢;exact EO tg gln c' (EN g0' g1' g2' g3' g00 gc2 hv hv2)
theorem BD{W:aZ}:(vW W (js W.ties.length)).ties=W.ties:=by
 show(js W.ties.length).map (λg=>W.tie (g.headD 0))=W.ties;refine Sx λi=>?_;rw[QD];by_cases hi:i<W.ties.length;·rw[BC hi];show some (W.tie (i:Int))=_;unfold aZ.tie;rw[Sg,Tf,QR hi];rfl
 ·rw[UI (by unfold js;simp[nh];lia),UI ↥0];rfl
theorem pO{n:Nat}:(js n).length=n:=by unfold js;rw[Qz,nh]
theorem GF{W:aZ}(ok:W.Ok)(hn:W.ties.length<7){T:List Nd}{S:Nat->Std}(hT:gU W T S):∃f:Qg,a9 [.d (ay W),.d (.tuple ((js W.ties.length).map aB)),.d (.tuple (T.map iA))]=some (.d f,[.d (ay W),.d (.tuple ((js W.ties.length).map aB)),.d (.tuple (T.map iA))])/\cL [.d (ay W),.d (.tuple (T.map iA))]=some (.d f,[.d (ay W),.d (.tuple (T.map iA))])/\j' [.d f,.d f]=some (.d (.bool true),[.d f,.d f]):=by
 have fw:xX W (js W.ties.length):=⟨ok,zK _,λg hg=>by obtain⟨k,_,rfl⟩:=Qa hg;simp,by rw[pO];lia⟩;have t1:=xO fw hT;have t2:=vz ok ↥0 hT;rw[pO]at t1;have ee:(bv W.ties.length).map (je W (js W.ties.length) T)=(bv W.ties.length).map (sQ W T):=SV λb hb=>by unfold je kG sQ;rw[BD,Gq ((jH W.ties.length).2 b hb)]
 rw[ee]at t1;obtain⟨ql,qr⟩:=fQ W.ties.length;have pw:=yJ (n:=W.ties.length) ↥0;have hx:=Ea ok hT;have m0:=(m5 ok ↥0).1;have ep:bM (0,1) ((bv W.ties.length).map (sQ W T))=bM (0,1) ((aP W.ties.length).map (sQ W T)):=ug (M:=qT 1 W.ties) (j:=16000) m0 ⋯ ((iu W.ties.length).map (sQ W T)) λf hf=>by obtain⟨b,hb,rfl⟩:=Qa hf;exact hx b ((jH W.ties.length).2 b hb)
 rw[ep]at t1;obtain⟨s0,s1,s2⟩:=D2 ok ↥0 hx (L:=aP W.ties.length) qr ↥0;have sz:=Sz.fr s1 s2 ⋯ ⋯;exact⟨_,t1,t2,D9 sz ⋯ ⋯⟩
theorem Bm{n:Nat}(h8:8<n)(h16:n<=16){a d:Qg}:lJ [.d a,.d (.tuple ((js n).map aB)),.d d]=some (.d (.bool true),[.d a,.d (.tuple ((js n).map aB)),.d d]):=by
 have gln:∀e:En,g1 ce e [.d (.tuple ((js n).map aB))]=some (.d (.int (n:Int))):=λe=>by show some (Rv.d (.int ((((js n).map aB).length:Nat):Int)))=_;rw[Qz,pO]
 generalize (js n).map aB=AL at*;refine Im rfl rfl ⟨[.int (n:Int),.int 8],[some (.d a),some (.d (.tuple AL)),some (.d d),none,none,none,none],?_,rfl,?_⟩;·simp?[gln]
 ·have c:(8:Int)<(n:Int):=by lia
  refine⟨[some (.d (.int (n:Int))),some (.d (.int 8))],?_,rfl,?_⟩;·simp?[c]
  ·have a:∀e:En,uO e (.d (.int (n:Int)))=some (.d (.str (nS (n:Int)))):=λe=>wm ↥0 ↥0;have b:∀e:En,uO e (.d (.int 8))=some (.d (.str (nS 8))):=λe=>wm ⋯ ⋯;have l1:=zE ⟨n,by lia⟩;have l2:=zE ⟨8,by lia⟩;change (nS (n:Int)).length<=4 at l1;change (nS 8).length<=4 at l2;have l3:(Rj " are more than ").length=15:=by decide
   have l:(nS (n:Int)).length+(Rj " are more than ").length+(nS 8).length<=1000000:=by lia
   generalize nS (n:Int)=x at*;generalize nS 8=y at*;refine⟨[.d (.str (Tb++x++Rj " are more than "++y))],[some (.d (.int (n:Int))),some (.d (.int 8))],?_,rfl⟩;simp?[a,b,Li,uj,l]
def tD(T:List Nd):Qg:=.tuple (T.map iA)
inductive Hy (ns:List Int) (v2 v3 v11 v12 v13 v14 v15:Option Sv):En->Prop|mk{ds v4 v5 v6 v7 v8 v9 v10}(hd:jz ds):Hy ns v2 v3 v11 v12 v13 v14 v15 [some (.d (.list (ns.map .int))),some (.l (ds.map .int)),v2,v3,v4,v5,v6,v7,v8,v9,v10,v11,v12,v13,v14,v15]
abbrev iQ(ns ds:List Int)(v2 v3:Option Sv)(W:aZ)(GG:List Qg)(v6 v7:Option Sv)(L:List Qg)(v9 v10 v11 v12 v13 v14 v15:Option Sv):En:=[some (.d (.list (ns.map .int))),some (.l (ds.map .int)),v2,v3,some (.d (ay W)),some (.d (.tuple GG)),v6,v7,some (.l L),v9,v10,v11,v12,v13,v14,v15]
theorem Ke{W:aZ}{gss:List (List Int)}(h:xX W gss){Ls:List (List Nd)}(hL:∀T∈Ls,∃S,gU W T S){ns ds:List Int}{v2 v3 v6 v7 v9 v10 v11 v12 v13 v14 v15:Option Sv}:∃w6,cx ([6]++([]++[])) LI (ah 6) La (iQ ns ds v2 v3 W (gss.map aB) v6 v7 (Ls.map tD) v9 v10 v11 v12 v13 v14 v15)=some (.nx (iQ ns ds v2 v3 W (gss.map aB) w6 v7 (Ls.map tD) v9 v10 v11 v12 v13 v14 v15)):=by obtain⟨e3,h3,⟨w6,he3⟩⟩:=cn (own:=[(8,Ls.map tD)]) (g:=ah 6) (f:=La) (λ_ e=>∃v6,e=iQ ns ds v2 v3 W (gss.map aB) v6 v7 (Ls.map tD) v9 v10 v11 v12 v13 v14 v15) (Ls.map tD) 0 (iQ ns ds v2 v3 W (gss.map aB) v6 v7 (Ls.map tD) v9 v10 v11 v12 v13 v14 v15) (λi y e hy⟨v6,he⟩=>by subst he;rw[QD]at hy;obtain⟨T,hT,rfl⟩:=P9 hy;obtain⟨S,hS⟩:=hL T (Qc hT);obtain⟨f,f1,f2,f3⟩:=Af h hS;refine⟨_,_,rfl,?_,λp hp=>by simp at hp;subst hp;rfl,some (.d (tD T)),rfl⟩;change a9 [_,_,.d (tD T)]=_ at f1;change dD [_,_,.d (tD T)]=_ at f2;unfold iQ;generalize Ls.map tD=LL at*;generalize tD T=TT at*;generalize gss.map aB=GG at*;generalize ay W=WW at*;simp?[La,f1,f2,f3]) ⟨v6,rfl⟩;subst he3;refine⟨w6,?_⟩;unfold cx;rw[show LI (iQ ns ds v2 v3 W (gss.map aB) v6 v7 (Ls.map tD) v9 v10 v11 v12 v13 v14 v15)=some (Ls.map tD,[(8,Ls.map tD)],iQ ns ds v2 v3 W (gss.map aB) v6 v7 (Ls.map tD) v9 v10 v11 v12 v13 v14 v15) from rfl];exact h3
theorem Kf{W:aZ}(ok:W.Ok){GG:List Qg}{Ls:List (List Nd)}(hL:∀T∈Ls,∃S,gU W T S){ns ds:List Int}{v2 v3 v6 v7 v10 v11 v12 v13 v14 v15:Option Sv}:∃w6 w10,cx ([6]++([10]++(([10]++[])++([]++[])))) LH (ah 6) JR (iQ ns ds v2 v3 W GG v6 v7 (Ls.map tD) (some (.d (.tuple ((js W.ties.length).map aB)))) v10 v11 v12 v13 v14 v15)=some (.nx (iQ ns ds v2 v3 W GG w6 v7 (Ls.map tD) (some (.d (.tuple ((js W.ties.length).map aB)))) w10 v11 v12 v13 v14 v15)):=by
 have gln:∀e:En,g1 ce e [.d (.tuple ((js W.ties.length).map aB))]=some (.d (.int (W.ties.length:Int))):=λe=>by show some (Rv.d (.int ((((js W.ties.length).map aB).length:Nat):Int)))=_;rw[Qz,pO]
 obtain⟨e3,h3,⟨w6,w10,he3⟩⟩:=cn (own:=[(8,Ls.map tD)]) (g:=ah 6) (f:=JR) (λ_ e=>∃v6 v10,e=iQ ns ds v2 v3 W GG v6 v7 (Ls.map tD) (some (.d (.tuple ((js W.ties.length).map aB)))) v10 v11 v12 v13 v14 v15) (Ls.map tD) 0 (iQ ns ds v2 v3 W GG v6 v7 (Ls.map tD) (some (.d (.tuple ((js W.ties.length).map aB)))) v10 v11 v12 v13 v14 v15) (λi y e hy⟨v6,v10,he⟩=>by
  subst he;rw[QD]at hy;obtain⟨T,hT,rfl⟩:=P9 hy;obtain⟨S,hS⟩:=hL T (Qc hT);by_cases c:W.ties.length<7
  ·obtain⟨f,f1,f2,f3⟩:=GF ok c hS;refine⟨_,_,rfl,?_,λp hp=>by simp at hp;subst hp;rfl,some (.d (tD T)),some (.d f),rfl⟩;change a9 [_,_,.d (tD T)]=_ at f1;change cL [_,.d (tD T)]=_ at f2;have c':(W.ties.length:Int)<7:=by lia
   unfold iQ;generalize Ls.map tD=LL at*;generalize tD T=TT at*;generalize (js W.ties.length).map aB=AA at*;generalize (W.ties.length:Int)=n at*;generalize ay W=WW at*;simp?[JR,gln,c',f1,f2,f3]
  ·refine⟨_,_,rfl,?_,λp hp=>by simp at hp;subst hp;rfl,some (.d (tD T)),some (.d (.tuple [.int 0,.int 1])),rfl⟩;have c':¬(W.ties.length:Int)<7:=by lia
   unfold iQ;generalize Ls.map tD=LL at*;generalize tD T=TT at*;generalize (js W.ties.length).map aB=AA at*;generalize (W.ties.length:Int)=n at*;generalize ay W=WW at*;simp?[JR,gln,c']) ⟨v6,v10,rfl⟩;subst he3;refine⟨w6,w10,?_⟩;unfold cx;rw[show LH (iQ ns ds v2 v3 W GG v6 v7 (Ls.map tD) (some (.d (.tuple ((js W.ties.length).map aB)))) v10 v11 v12 v13 v14 v15)=some (Ls.map tD,[(8,Ls.map tD)],iQ ns ds v2 v3 W GG v6 v7 (Ls.map tD) (some (.d (.tuple ((js W.ties.length).map aB)))) v10 v11 v12 v13 v14 v15) from rfl];exact h3
theorem Jv{W:aZ}:gU W [] (λ_=>([],[])):=λi nd h=>by cases h
theorem CC{ns ds:List Int}(hd:jz ds){most:Int}(m0:0<=most)(m1:most<=16){v2 v3 v4 v5 v6 v8 v9 v10 v11 v12 v13 v14 v15:Option Sv}:∃e2,BI [some (.d (.list (ns.map .int))),some (.l (ds.map .int)),v2,v3,v4,v5,v6,some (.d (.int most)),v8,v9,v10,v11,v12,v13,v14,v15]=some (.nx e2)/\Hy ns v2 v3 v11 v12 v13 v14 v15 e2:=by
 obtain⟨W0,d1,tw,hd1,ok0,-,-⟩:=Hr ds 8 most hd ⋯ ⋯ m0 m1;obtain⟨d2,W,gss,tf,hd2,fw⟩:=Hq ok0 hd1;have ok:=fw.ok;have wl:=ok.len;obtain⟨d3,T1,S1,t1,hd3,h1,-⟩:=p6 ok (most:=30) hd2 ⋯ ⋯;obtain⟨d4,T2,S2,t2,hd4,h2,-⟩:=p6 ok (most:=3) hd3 ⋯ ⋯;obtain⟨d5,T3,S3,t3,hd5,h3,-⟩:=p6 ok (most:=8) hd4 ⋯ ⋯;obtain⟨Ls,P7,hall⟩:∃Ls:List (List Nd),Ls.map tD=[tD T1,.tuple [],tD T2,tD T3]/\∀T∈Ls,∃S,gU W T S:=⟨[T1,[],T2,T3],rfl,λT hT=>by
  simp only[QV,Rq,or_false]at hT;rcases hT with rfl|rfl|rfl|rfl;·exact⟨S1,h1⟩
  ·exact⟨_,Jv⟩
  ·exact⟨S2,h2⟩
  ·exact⟨S3,h3⟩⟩;obtain⟨w6,l1⟩:=Ke fw hall (ns:=ns) (ds:=d5) (v2:=v2) (v3:=v3) (v6:=v6) (v7:=some (.d (.int most))) (v9:=v9) (v10:=v10) (v11:=v11) (v12:=v12) (v13:=v13) (v14:=v14) (v15:=v15);obtain⟨w6',w10,l2⟩:=Kf ok (GG:=gss.map aB) hall (ns:=ns) (ds:=d5) (v2:=v2) (v3:=v3) (v6:=w6) (v7:=some (.d (.int most))) (v10:=v10) (v11:=v11) (v12:=v12) (v13:=v13) (v14:=v14) (v15:=v15);have g1':=HR (W:=W);have gl2:∀e:En,g1 ce e [.d (.tuple (W.ties.map aI))]=some (.d (.int (W.ties.length:Int))):=λe=>by show some (Rv.d (.int (((W.ties.map aI).length:Nat):Int)))=_;rw[Qz]
 obtain⟨t',hfa⟩:=bE (cs:=[]) (ft:=a_) (fe:=JW) (b:=λ_=>true) (y:=λx=>.tuple [x]) (aT 0 W.ties.length) none [] ↥4 (λx hx _=>by show JW [some (.d x)]=some (.d (.tuple [x]),[some (.d x)]);simp?[JW]) (by simp[bI];lia);have ea:[]++((aT 0 W.ties.length).filter λ_=>true).map (λx=>PyData.tuple [x])=(js W.ties.length).map aB:=by rw[QI,SJ.mpr ↥4];unfold aT js pL;rw[QE,QE,QE];refine SV λi _=>?_;show PyData.tuple [.int ((0:Int)+(i:Int))]=.tuple [.int (i:Int)];rw[Th]
 rw[ea]at hfa;have hva:bj [] 1 Mn (ah 0) a_ JW (iQ ns d5 v2 v3 W (gss.map aB) w6 (some (.d (.int most))) (Ls.map tD) v9 v10 v11 v12 v13 v14 v15)=some (.l ((js W.ties.length).map aB),iQ ns d5 v2 v3 W (gss.map aB) w6 (some (.d (.int most))) (Ls.map tD) v9 v10 v11 v12 v13 v14 v15):=by refine jQ (items:=aT 0 W.ties.length) (own:=[]) ?_ hfa;have:=cf (n:=(W.ties.length:Int)) (fs:=(ac (aF (g1 ce) (ac (ax ba (af 4) (vC (.int 1))) am)) am)) (e:=iQ ns d5 v2 v3 W (gss.map aB) w6 (some (.d (.int most))) (Ls.map tD) v9 v10 v11 v12 v13 v14 v15) (e1:=iQ ns d5 v2 v3 W (gss.map aB) w6 (some (.d (.int most))) (Ls.map tD) v9 v10 v11 v12 v13 v14 v15) (by unfold iQ;generalize W.ties.map aI=TT at*;generalize gss.map aB=GG at*;generalize Ls.map tD=LL at*;generalize ay W=WW at*;simp?[g1',gl2]) ↥0 ↥0;rw[Sg]at this;exact this
 have gtl:∀(e:En) (xs:List Qg),g1 bf e [.l xs]=some (.d (.tuple xs)):=λe xs=>rfl;refine⟨iQ ns d5 v2 v3 W (gss.map aB) w6' (some (.d (.int most))) (Ls.map tD) (some (.d (.tuple ((js W.ties.length).map aB)))) w10 v11 v12 v13 v14 v15,?_,.mk hd5⟩;change e_ _=some (.d (tD T1),_) at t1;change e_ _=some (.d (tD T2),_) at t2;change e_ _=some (.d (tD T3),_) at t3;unfold iQ at l1 l2 hva⊢;rw[P7]at l1 l2 hva⊢;clear hfa ea hall P7 h1 h2 h3;simp only[RF,QI,Su]at l1 l2;generalize tD T1=X1 at*;generalize tD T2=X2 at*;generalize tD T3=X3 at*;generalize (js W.ties.length).map aB=AA at*;generalize gss.map aB=GG at*;generalize ay W=WW at*;generalize ay W0=WW0 at*;simp?[BI,tw,tf,t1,t2,t3,l1,l2,hva,gtl]
theorem BZ{xs:List Qg}{m:Nat}:L2.cutD xs none (some (m:Int))=xs.take m:=by
 unfold L2.cutD;rw[HT.sIx_none,HT.sIx_nat];simp only[List.drop_zero,Nat.sub_zero];rcases Nat.le_total m xs.length with z|z;·rw[Nat.min_eq_left z]
 ·rw[Nat.min_eq_right z,VA ↥8,VA z]
theorem CB(ns:List Int)(hl:ns.length<=63):∃as',qS [.d (.list (ns.map .int))]=some (.d (.bool true),as'):=by
 obtain⟨ds,td,hd⟩:=GH ns hl;obtain⟨n1,d1,t1,a1,b1,hd1⟩:=iS hd;obtain⟨n2,d2,t2,a2,b2,hd2⟩:=iS hd1;have g7:∀e:En,be e (.d (.int n1)) (.d (.int 7))=some (.d (.int (n1%7))):=λe=>aW ⋯;have g6:∀e:En,be e (.d (.int n2)) (.d (.int 6))=some (.d (.int (n2%6))):=λe=>aW ⋯;have q0:=wc (n:=n1) (k:=7) ⋯;have q1:=wd (n:=n1) (k:=7) ⋯;have q2:=wc (n:=n2) (k:=6) ⋯;have q3:=wd (n:=n2) (k:=6) ⋯;obtain⟨m,hm⟩:∃m:Nat,(m:Int)=2+n1%7:=⟨(2+n1%7).toNat,by lia⟩;obtain⟨k,hk⟩:∃k,k=11+n2%6:=⟨_,rfl⟩;have gm:∀e:En,bF e (.d (.int 2)) (.d (.int (n1%7)))=some (.d (.int (m:Int))):=λe=>by rw[cW,hm]
 have gk:∀e:En,bF e (.d (.int 11)) (.d (.int (n2%6)))=some (.d (.int k)):=λe=>by rw[cW,hk]
 obtain⟨ts,d3,t3,hd3,tl,to⟩:=D_ d2 (m:Int) k hd2 ↥0 ↥0 ↥0 ↥0;obtain⟨n4,d4,t4,a4,b4,hd4⟩:=iS hd3;have g40:∀e:En,be e (.d (.int n4)) (.d (.int 40))=some (.d (.int (n4%40))):=λe=>aW ⋯;have q4:=wc (n:=n4) (k:=40) ⋯;have q5:=wd (n:=n4) (k:=40) ⋯;obtain⟨s,hs⟩:∃s,s=1+n4%40:=⟨_,rfl⟩;have gs:∀e:En,bF e (.d (.int 1)) (.d (.int (n4%40)))=some (.d (.int s)):=λe=>by rw[cW,hs]
 have ok0:(aZ.mk (m:Int) ts (([20,3,2,20,1,20,4,20]:List Int).take m) s).Ok:=⟨by show(0:Int)<=(m:Int);lia,by show(m:Int)<=12;lia,to,by show ts.length<=16;lia,by show(((([20,3,2,20,1,20,4,20]:List Int).take m).length:Nat):Int)=(m:Int);rw[UP];simp;lia,λp hp=>by have:=Vn hp;simp only[QV,Rq,or_false]at this;lia,by show 0<=s;lia,by show s<=40;lia⟩;obtain⟨d5,W,gss,t5,hd5,fw⟩:=Hq ok0 hd4;obtain⟨d6,T,S,t6,hd6,hT,-⟩:=p6 fw.ok (most:=20) hd5 ⋯ ⋯;obtain⟨f,f1,f2,f3⟩:=Af fw hT;obtain⟨n7,d7,t7,a7,b7,hd7⟩:=iS hd6;have g8:∀(e:En) (n:Int),be e (.d (.int n)) (.d (.int 8))=some (.d (.int (n%8))):=λe n=>aW ⋯;have q6:=wc (n:=n7) (k:=8) ⋯;have q7:=wd (n:=n7) (k:=8) ⋯;have gd:∀e:En,dj e (.d (.int (n7%8))) (.d (.int 7))=some (.d (.int (n7%8/7))):=λe=>dN ⋯ (jX ⋯ ⋯);obtain⟨x,hx0,hx1,hx⟩:∃x:Int,0<=x/\x<=16/\atI [PyData.int 5,.int 10] (n7%8/7)=some (.int x):=by
  rcases(show n7%8/7=0\/n7%8/7=1 by lia) with e|e<;>rw[e];·exact⟨5,by decide,by decide,rfl⟩
  ·exact⟨10,by decide,by decide,rfl⟩
 obtain⟨e2,h1,hI⟩:=cn (own:=[]) (g:=ah 7) (f:=BI) (λ_=>Hy ns (some (.d (.int (m:Int)))) (some (.d (.tuple (ts.map aI)))) none none none none none) [.int 6,.int 4,.int x] 0 [some (.d (.list (ns.map .int))),some (.l (d7.map .int)),some (.d (.int (m:Int))),some (.d (.tuple (ts.map aI))),some (.d (ay W)),some (.d (.tuple (gss.map aB))),some (.d (.tuple (T.map iA))),none,none,none,none,none,none,none,none,none] (λi y e hy hI=>by
  obtain⟨hd⟩:=hI;rename_i ds v4 v5 v6 v7 v8 v9 v10;obtain⟨z,rfl,z0,z1⟩:∃z,y=.int z/\0<=z/\z<=16:=by
   have:=Qc hy;simp only[QV,Rq,or_false]at this;rcases this with rfl|rfl|rfl;·exact⟨6,rfl,by decide,by decide⟩
   ·exact⟨4,rfl,by decide,by decide⟩
   ·exact⟨x,rfl,hx0,hx1⟩
  obtain⟨e2,hb,hI2⟩:=CC (ns:=ns) hd z0 z1 (v2:=some (.d (.int (m:Int)))) (v3:=some (.d (.tuple (ts.map aI)))) (v4:=v4) (v5:=v5) (v6:=v6) (v8:=v8) (v9:=v9) (v10:=v10) (v11:=none) (v12:=none) (v13:=none) (v14:=none) (v15:=none);exact⟨_,e2,rfl,hb,bB,hI2⟩) (.mk hd7);obtain⟨hd8⟩:=hI;rename_i d8 v4 v5 v6 v7 v8 v9 v10;have hfor:∀Wl,cx Wl LJ (ah 7) BI [some (.d (.list (ns.map .int))),some (.l (d6.map .int)),some (.d (.int (m:Int))),some (.d (.tuple (ts.map aI))),some (.d (ay W)),some (.d (.tuple (gss.map aB))),some (.d (.tuple (T.map iA))),none,none,none,none,none,none,none,none,none]=some (.nx [some (.d (.list (ns.map .int))),some (.l (d8.map .int)),some (.d (.int (m:Int))),some (.d (.tuple (ts.map aI))),v4,v5,v6,v7,v8,v9,v10,none,none,none,none,none]):=λWl=>by rw[dn (show LJ [some (.d (.list (ns.map .int))),some (.l (d6.map .int)),some (.d (.int (m:Int))),some (.d (.tuple (ts.map aI))),some (.d (ay W)),some (.d (.tuple (gss.map aB))),some (.d (.tuple (T.map iA))),none,none,none,none,none,none,none,none,none]=some ([.int 6,.int 4,.int x],[],[some (.d (.list (ns.map .int))),some (.l (d7.map .int)),some (.d (.int (m:Int))),some (.d (.tuple (ts.map aI))),some (.d (ay W)),some (.d (.tuple (gss.map aB))),some (.d (.tuple (T.map iA))),none,none,none,none,none,none,none,none,none]) from uT (by have g87:=λe=>g8 e n7;clear g8;generalize n7%8/7=z at*;generalize n7%8=z8 at*;generalize ay W=WW at*;generalize ts.map aI=TT at*;generalize gss.map aB=GG at*;generalize T.map iA=NN at*;simp?[t7,g87,gd,hx]))];exact h1
 obtain⟨W2,d9,t9,hd9,ok9,-,-⟩:=Hr d8 6 8 hd8 ⋯ ⋯ ⋯ ⋯;obtain⟨n10,d10,t10,a10,b10,hd10⟩:=iS hd9;have q8:=wc (n:=n10) (k:=8) ⋯;have q9:=wd (n:=n10) (k:=8) ⋯;obtain⟨M,hM⟩:∃M:Nat,(M:Int)=9+n10%8:=⟨(9+n10%8).toNat,by lia⟩;have gM:∀e:En,bF e (.d (.int 9)) (.d (.int (n10%8)))=some (.d (.int (M:Int))):=λe=>by rw[cW,hM]
 have rr:∀(e:En) (d:Qg),dz e (.d (.tuple [d])) (.d (.int (M:Int)))=some (.d (.tuple (Qu M d))):=λe d=>by have:=HQ (e:=e) (d:=d) (n:=(M:Int)) ↥0 ↥0;rw[Sg]at this;exact this
 have wl9:=ok9.len;have gc:∀(e:En) (d:Qg),bF e (.d (.tuple (W2.ties.map aI))) (.d (.tuple (Qu M d)))=some (.d (.tuple (W2.ties.map aI++Qu M d))):=λe d=>j6 ↥7;have pl9:=ok9.pl;have p19:=ok9.t1;have gp:∀e:En,bF e (.d (.tuple (W2.pat.map .int))) (.d (.tuple [.int 4,.int 4]))=some (.d (.tuple (W2.pat.map .int++[.int 4,.int 4]))):=λe=>j6 ↥7;obtain⟨t',hfa⟩:=bE (cs:=[]) (ft:=a_) (fe:=JV) (b:=λ_=>true) (y:=λx=>.tuple [x]) (aT 0 M) none [] ↥4 (λx hx _=>by show JV [some (.d x)]=some (.d (.tuple [x]),[some (.d x)]);simp?[JV]) (by simp[bI];lia);have ea:[]++((aT 0 M).filter λ_=>true).map (λx=>PyData.tuple [x])=(js M).map aB:=by rw[QI,SJ.mpr ↥4];unfold aT js pL;rw[QE,QE,QE];refine SV λi _=>?_;show PyData.tuple [.int ((0:Int)+(i:Int))]=.tuple [.int (i:Int)];rw[Th]
 rw[ea]at hfa;have hva:∀e0 e1 e2 e3 e4 e5 e6 e7 e8 e9 e10 e11 e12 e13 e15:Option Sv,bj [] 1 Mm (ah 0) a_ JV [e0,e1,e2,e3,e4,e5,e6,e7,e8,e9,e10,e11,e12,e13,some (.d (.int (M:Int))),e15]=some (.l ((js M).map aB),[e0,e1,e2,e3,e4,e5,e6,e7,e8,e9,e10,e11,e12,e13,some (.d (.int (M:Int))),e15]):=λe0 e1 e2 e3 e4 e5 e6 e7 e8 e9 e10 e11 e12 e13 e15=>by refine jQ (items:=aT 0 M) (own:=[]) ?_ hfa;have:=cf (n:=(M:Int)) (fs:=ac (af 14) am) (e:=[e0,e1,e2,e3,e4,e5,e6,e7,e8,e9,e10,e11,e12,e13,some (.d (.int (M:Int))),e15]) (e1:=[e0,e1,e2,e3,e4,e5,e6,e7,e8,e9,e10,e11,e12,e13,some (.d (.int (M:Int))),e15]) rfl ↥0 ↥0;rw[Sg]at this;exact this
 have rf:=λa d=>Bm (n:=M) ↥0 ↥0 (a:=a) (d:=d);have gtl:∀(e:En) (xs:List Qg),g1 bf e [.l xs]=some (.d (.tuple xs)):=λe xs=>rfl;have eW:ay W2=.tuple [.int W2.things,.tuple (W2.ties.map aI),.tuple (W2.pat.map .int),.int W2.asks]:=rfl;have ct:L2.cutD [PyData.int 20,.int 3,.int 2,.int 20,.int 1,.int 20,.int 4,.int 20] none (some (m:Int))=(([20,3,2,20,1,20,4,20]:List Int).take m).map .int:=by rw[BZ,List.map_take];rfl
 have eW0:ay ⟨(m:Int),ts,([20,3,2,20,1,20,4,20]:List Int).take m,s⟩=.tuple [.int (m:Int),.tuple (ts.map aI),.tuple ((([20,3,2,20,1,20,4,20]:List Int).take m).map .int),.int s]:=rfl;rw[eW0]at t5;rw[eW]at t9;clear h1 hfa ea;generalize (([20,3,2,20,1,20,4,20]:List Int).take m).map PyData.int=PA at*;generalize (js M).map aB=AL at*;generalize n1%7=z1 at*;generalize n2%6=z2 at*;generalize n4%40=z4 at*;generalize T.map iA=NN at*;generalize gss.map aB=GG at*;generalize ts.map aI=TT at*;generalize W2.ties.map aI=T2 at*;generalize W2.pat.map PyData.int=P2 at*;generalize ay W=WW at*;simp?[qS,G7,td,t1,g7,gm,t2,g6,gk,t3,t4,g40,gs,l5,ct,t5,t6,f1,f2,f3,hfor,t9,t10,g8,gM,rr,gc,gp,eZ,hva,gtl,rf]
def kL(n:Str)(bs mro:List Qd)(ns:Qe)(sub:List Qd)(sl:Array (Option Qd)):Obj:=⟨.type "type",none,.cls {name:=n,bases:=bs,mro:=mro,ns:=ns,qualname:=n,hasDict:=true,slotNames:=[],subclasses:=sub,abstract:=false,collection:=none,hasDel:=false},sl⟩
def kE(P:Params)(k:Str)(t:Tok)(v:Qd):DictEntry:=⟨PyData.keyHash P k,.str k t,v⟩
def kF(n:Str)(s:Qo)(doc pm:Qd)(c:Qe):Obj:=⟨.type "function",none,.func (Sf n n (eX s) (cI s) (au s) .none .none doc pm none (.ref c) .none),#[]⟩
def kI(n:Int):Qd:=.int n 0
def kC(n:Str)(a:Nat)(l:List Qd)(z:Nat):Obj:=⟨.type "code",none,.fields (Value.str n a::Value.str n (a+1)::Value.str "/claim/cut.py" (a+2)::l++[Value.str "/claim/cut.py" z]).toArray,#[]⟩
def kT(l:List Qd)(n:Nat):Obj:=⟨.type "tuple",none,.seq l.toArray n,#[]⟩
def Mo:Qd:=.str "askedpairs.errors" 187
def Er:Qd:=.str "askedpairs.fractions" 279
def Lc:Qd:=.str "askedpairs.runs" 327
def Mp:Qd:=.str "askedpairs.trees" 341
def Ld:Qd:=.str "askedpairs.answering" 360
def Le:Qd:=.str "askedpairs.groups" 379
def er:Qd:=.str "law_askedpairs_k71_worth_together" 395
def kK(P:Params):W.Frag:=[(3,⟨.type "dict",none,.dict (TL [kE P "__name__" 165 (.str "law_askedpairs_k71_worth_together" 395),kE P "__doc__" 166 (.none),kE P "__package__" 167 (.none),kE P "__loader__" 168 (.builtin "__main__.__loader__#opaque"),kE P "__spec__" 169 (.none),kE P "__annotations__" 170 (.ref 6),kE P "__builtins__" 171 (.ref 4),kE P "__file__" 173 (.str "/claim/cut.py" 172),kE P "__cached__" 174 (.none),kE P "PairsError" 206 (.ref 24),kE P "TooMany" 222 (.ref 37),kE P "NoRise" 238 (.ref 49),kE P "NotTwoSided" 254 (.ref 61),kE P "NoText" 270 (.ref 73),kE P "refuse_above" 278 (.ref 82),kE P "ZERO" 283 (.ref 83),kE P "ONE" 286 (.ref 84),kE P "common_divisor" 294 (.ref 91),kE P "lowest" 303 (.ref 98),kE P "plus" 311 (.ref 105),kE P "times" 319 (.ref 112),kE P "one_less" 326 (.ref 119),kE P "kept_of" 334 (.ref 124),kE P "worth_kept" 340 (.ref 129),kE P "END" 345 (.int (-1) 344),kE P "run_tree" 359 (.ref 136),kE P "chance_by" 372 (.ref 143),kE P "all_answers" 378 (.ref 148),kE P "MOST_GROUPS" 382 (.int (8) 381),kE P "together_answers" 388 (.ref 153),kE P "together_worth" 394 (.ref 158),kE P "_law_mixed" 405 (.ref 165),kE P "_law_draws" 416 (.ref 172),kE P "_law_next" 423 (.ref 179),kE P "_law_gcd" 431 (.ref 186),kE P "_law_low" 440 (.ref 193),kE P "_law_plus" 448 (.ref 200),kE P "_law_times" 456 (.ref 207),kE P "_law_rest" 463 (.ref 214),kE P "_law_same" 471 (.ref 221),kE P "_law_chance" 480 (.ref 228),kE P "_law_worth" 488 (.ref 235),kE P "_law_ties" 507 (.ref 242),kE P "_law_web" 523 (.ref 249),kE P "_law_asks_of" 529 (.ref 254),kE P "_law_may" 541 (.ref 261),kE P "_law_behind" 554 (.ref 268),kE P "_law_askable" 560 (.ref 273),kE P "_law_grown" 566 (.ref 278),kE P "_law_all_answers" 572 (.ref 283),kE P "_law_chance_of" 583 (.ref 290),kE P "_law_run_tree" 596 (.ref 297),kE P "_law_kept" 602 (.ref 302),kE P "_law_tree_worth" 613 (.ref 309),kE P "_law_grouped" 619 (.ref 314),kE P "_law_group_of" 625 (.ref 319),kE P "_law_tie_answers" 631 (.ref 324),kE P "_law_together" 646 (.ref 331),kE P "_law_refusal" 654 (.ref 338),kE P "_law_refused" 665 (.ref 345),kE P "_law_few" 671 (.ref 350),kE P "law" 677 (.ref 355)]) 62,#[]⟩),(82,kF "refuse_above" cg (.none) Mo 81),(81,kC "refuse_above" 271 [kI 12,kI 2,kI 0,kI 0,kI 3,.ref 76,.bool true,kI 181,.ref 77,.none,.ref 78,.ref 79,.ref 80,kI 276,kI 12] 277),(91,kF "common_divisor" cF (.none) Er 90),(90,kC "common_divisor" 287 [kI 18,kI 2,kI 0,kI 0,kI 3,.ref 85,.bool true,kI 181,.ref 86,.none,.ref 87,.ref 88,.ref 89,kI 292,kI 18] 293),(98,kF "lowest" iL (.none) Er 97),(97,kC "lowest" 295 [kI 22,kI 2,kI 0,kI 0,kI 3,.ref 92,.bool true,kI 181,.ref 93,.none,.ref 94,.ref 95,.ref 96,kI 301,kI 22] 302),(105,kF "plus" oy (.none) Er 104),(104,kC "plus" 304 [kI 27,kI 2,kI 0,kI 0,kI 3,.ref 99,.bool true,kI 181,.ref 100,.none,.ref 101,.ref 102,.ref 103,kI 309,kI 27] 310),(112,kF "times" kf (.none) Er 111),(111,kC "times" 312 [kI 29,kI 2,kI 0,kI 0,kI 3,.ref 106,.bool true,kI 181,.ref 107,.none,.ref 108,.ref 109,.ref 110,kI 317,kI 29] 318),(119,kF "one_less" iM (.none) Er 118),(118,kC "one_less" 320 [kI 31,kI 1,kI 0,kI 0,kI 3,.ref 113,.bool true,kI 181,.ref 114,.none,.ref 115,.ref 116,.ref 117,kI 324,kI 31] 325),(124,kF "kept_of" jO (.none) Lc 123),(123,kC "kept_of" 329 [kI 34,kI 1,kI 0,kI 0,kI 3,.ref 120,.bool true,kI 181,.ref 121,.none,.none,.none,.ref 122,kI 332,kI 34] 333),(129,kF "worth_kept" dQ (.none) Lc 128),(128,kC "worth_kept" 335 [kI 36,kI 2,kI 0,kI 0,kI 3,.ref 125,.bool true,kI 181,.ref 126,.none,.none,.none,.ref 127,kI 338,kI 36] 339),(136,kF "run_tree" fW (.none) Mp 135),(135,kC "run_tree" 346 [kI 40,kI 3,kI 0,kI 0,kI 3,.ref 130,.bool true,kI 181,.ref 131,.none,.ref 132,.ref 133,.ref 134,kI 357,kI 40] 358),(143,kF "chance_by" eL (.none) Ld 142),(142,kC "chance_by" 362 [kI 49,kI 2,kI 0,kI 0,kI 3,.ref 137,.bool true,kI 181,.ref 138,.none,.ref 139,.ref 140,.ref 141,kI 370,kI 49] 371),(148,kF "all_answers" df (.none) Ld 147),(147,kC "all_answers" 373 [kI 54,kI 1,kI 0,kI 0,kI 3,.ref 144,.bool true,kI 181,.ref 145,.none,.none,.none,.ref 146,kI 376,kI 54] 377),(153,kF "together_answers" bJ (.none) Le 152),(152,kC "together_answers" 383 [kI 61,kI 3,kI 0,kI 0,kI 3,.ref 149,.bool true,kI 181,.ref 150,.none,.none,.none,.ref 151,kI 386,kI 61] 387),(158,kF "together_worth" bK (.none) Le 157),(157,kC "together_worth" 389 [kI 64,kI 3,kI 0,kI 0,kI 3,.ref 154,.bool true,kI 181,.ref 155,.none,.none,.none,.ref 156,kI 392,kI 64] 393),(165,kF "_law_mixed" nu (.none) er 164),(164,kC "_law_mixed" 397 [kI 73,kI 2,kI 0,kI 0,kI 3,.ref 159,.bool true,kI 181,.ref 160,.none,.ref 161,.ref 162,.ref 163,kI 403,kI 73] 404),(172,kF "_law_draws" nj (.none) er 171),(171,kC "_law_draws" 406 [kI 76,kI 1,kI 0,kI 0,kI 3,.ref 166,.bool true,kI 181,.ref 167,.none,.ref 168,.ref 169,.ref 170,kI 414,kI 76] 415),(179,kF "_law_next" kd (.none) er 178),(178,kC "_law_next" 417 [kI 89,kI 1,kI 0,kI 0,kI 3,.ref 173,.bool true,kI 181,.ref 174,.none,.ref 175,.ref 176,.ref 177,kI 421,kI 89] 422),(186,kF "_law_gcd" xr (.none) er 185),(185,kC "_law_gcd" 424 [kI 93,kI 2,kI 0,kI 0,kI 3,.ref 180,.bool true,kI 181,.ref 181,.none,.ref 182,.ref 183,.ref 184,kI 429,kI 93] 430),(193,kF "_law_low" rL (.none) er 192),(192,kC "_law_low" 432 [kI 97,kI 2,kI 0,kI 0,kI 3,.ref 187,.bool true,kI 181,.ref 188,.none,.ref 189,.ref 190,.ref 191,kI 438,kI 97] 439),(200,kF "_law_plus" oq (.none) er 199),(199,kC "_law_plus" 441 [kI 100,kI 2,kI 0,kI 0,kI 3,.ref 194,.bool true,kI 181,.ref 195,.none,.ref 196,.ref 197,.ref 198,kI 446,kI 100] 447),(207,kF "_law_times" ke (.none) er 206),(206,kC "_law_times" 449 [kI 102,kI 2,kI 0,kI 0,kI 3,.ref 201,.bool true,kI 181,.ref 202,.none,.ref 203,.ref 204,.ref 205,kI 454,kI 102] 455),(214,kF "_law_rest" ou (.none) er 213),(213,kC "_law_rest" 457 [kI 104,kI 1,kI 0,kI 0,kI 3,.ref 208,.bool true,kI 181,.ref 209,.none,.ref 210,.ref 211,.ref 212,kI 461,kI 104] 462),(221,kF "_law_same" rM (.none) er 220),(220,kC "_law_same" 464 [kI 106,kI 2,kI 0,kI 0,kI 3,.ref 215,.bool true,kI 181,.ref 216,.none,.ref 217,.ref 218,.ref 219,kI 469,kI 106] 470),(228,kF "_law_chance" jK (.none) er 227),(227,kC "_law_chance" 472 [kI 108,kI 2,kI 0,kI 0,kI 3,.ref 222,.bool true,kI 181,.ref 223,.none,.ref 224,.ref 225,.ref 226,kI 478,kI 108] 479),(235,kF "_law_worth" ny (.none) er 234),(234,kC "_law_worth" 481 [kI 118,kI 2,kI 0,kI 0,kI 3,.ref 229,.bool true,kI 181,.ref 230,.none,.ref 231,.ref 232,.ref 233,kI 486,kI 118] 487),(242,kF "_law_ties" ox (.none) er 241),(241,kC "_law_ties" 489 [kI 120,kI 3,kI 0,kI 0,kI 3,.ref 236,.bool true,kI 181,.ref 237,.none,.ref 238,.ref 239,.ref 240,kI 505,kI 120] 506),(249,kF "_law_web" xu (.none) er 248),(248,kC "_law_web" 508 [kI 135,kI 3,kI 0,kI 0,kI 3,.ref 243,.bool true,kI 181,.ref 244,.none,.ref 245,.ref 246,.ref 247,kI 521,kI 135] 522),(254,kF "_law_asks_of" jJ (.none) er 253),(253,kC "_law_asks_of" 524 [kI 145,kI 3,kI 0,kI 0,kI 3,.ref 250,.bool true,kI 181,.ref 251,.none,.none,.none,.ref 252,kI 527,kI 145] 528),(261,kF "_law_may" xt (.none) er 260),(260,kC "_law_may" 530 [kI 147,kI 3,kI 0,kI 0,kI 3,.ref 255,.bool true,kI 181,.ref 256,.none,.ref 257,.ref 258,.ref 259,kI 539,kI 147] 540),(268,kF "_law_behind" lb (.none) er 267),(267,kC "_law_behind" 542 [kI 155,kI 4,kI 0,kI 0,kI 3,.ref 262,.bool true,kI 181,.ref 263,.none,.ref 264,.ref 265,.ref 266,kI 552,kI 155] 553),(273,kF "_law_askable" jI (.none) er 272),(272,kC "_law_askable" 555 [kI 161,kI 2,kI 0,kI 0,kI 3,.ref 269,.bool true,kI 181,.ref 270,.none,.none,.none,.ref 271,kI 558,kI 161] 559),(278,kF "_law_grown" nq (.none) er 277),(277,kC "_law_grown" 561 [kI 163,kI 3,kI 0,kI 0,kI 3,.ref 274,.bool true,kI 181,.ref 275,.none,.none,.none,.ref 276,kI 564,kI 163] 565),(283,kF "_law_all_answers" de (.none) er 282),(282,kC "_law_all_answers" 567 [kI 178,kI 1,kI 0,kI 0,kI 3,.ref 279,.bool true,kI 181,.ref 280,.none,.none,.none,.ref 281,kI 570,kI 178] 571),(290,kF "_law_chance_of" gK (.none) er 289),(289,kC "_law_chance_of" 573 [kI 183,kI 2,kI 0,kI 0,kI 3,.ref 284,.bool true,kI 181,.ref 285,.none,.ref 286,.ref 287,.ref 288,kI 581,kI 183] 582),(297,kF "_law_run_tree" fU (.none) er 296),(296,kC "_law_run_tree" 584 [kI 188,kI 2,kI 0,kI 0,kI 3,.ref 291,.bool true,kI 181,.ref 292,.none,.ref 293,.ref 294,.ref 295,kI 594,kI 188] 595),(302,kF "_law_kept" oo (.none) er 301),(301,kC "_law_kept" 597 [kI 196,kI 2,kI 0,kI 0,kI 3,.ref 298,.bool true,kI 181,.ref 299,.none,.none,.none,.ref 300,kI 600,kI 196] 601),(309,kF "_law_tree_worth" fj (.none) er 308),(308,kC "_law_tree_worth" 603 [kI 198,kI 2,kI 0,kI 0,kI 3,.ref 303,.bool true,kI 181,.ref 304,.none,.ref 305,.ref 306,.ref 307,kI 611,kI 198] 612),(314,kF "_law_grouped" jL (.none) er 313),(313,kC "_law_grouped" 614 [kI 204,kI 2,kI 0,kI 0,kI 3,.ref 310,.bool true,kI 181,.ref 311,.none,.none,.none,.ref 312,kI 617,kI 204] 618),(319,kF "_law_group_of" iJ (.none) er 318),(318,kC "_law_group_of" 620 [kI 218,kI 2,kI 0,kI 0,kI 3,.ref 315,.bool true,kI 181,.ref 316,.none,.none,.none,.ref 317,kI 623,kI 218] 624),(324,kF "_law_tie_answers" dZ (.none) er 323),(323,kC "_law_tie_answers" 626 [kI 220,kI 3,kI 0,kI 0,kI 3,.ref 320,.bool true,kI 181,.ref 321,.none,.none,.none,.ref 322,kI 629,kI 220] 630),(331,kF "_law_together" iK (.none) er 330),(330,kC "_law_together" 632 [kI 222,kI 3,kI 0,kI 0,kI 3,.ref 325,.bool true,kI 181,.ref 326,.none,.ref 327,.ref 328,.ref 329,kI 644,kI 222] 645),(338,kF "_law_refusal" jM (.none) er 337),(337,kC "_law_refusal" 647 [kI 231,kI 1,kI 0,kI 0,kI 3,.ref 332,.bool true,kI 181,.ref 333,.none,.ref 334,.ref 335,.ref 336,kI 652,kI 231] 653),(345,kF "_law_refused" jN (.none) er 344),(344,kC "_law_refused" 655 [kI 234,kI 3,kI 0,kI 0,kI 3,.ref 339,.bool true,kI 181,.ref 340,.none,.ref 341,.ref 342,.ref 343,kI 663,kI 234] 664),(350,kF "_law_few" xq (.none) er 349),(349,kC "_law_few" 666 [kI 241,kI 2,kI 0,kI 0,kI 3,.ref 346,.bool true,kI 181,.ref 347,.none,.none,.none,.ref 348,kI 669,kI 241] 670),(355,kF "law" rO (.none) er 354),(354,kC "law" 672 [kI 249,kI 1,kI 0,kI 0,kI 3,.ref 351,.bool true,kI 181,.ref 352,.none,.none,.none,.ref 353,kI 675,kI 249] 676),(83,kT [.int (0) 281,.int (1) 282] 0),(84,kT [.int (1) 284,.int (1) 285] 0),(24,kL "PairsError" [.type "ValueError"] [.ref 24,.type "ValueError",.type "Exception",.type "BaseException",.type "object"] 23 [.ref 37,.ref 49,.ref 61,.ref 73] #[some (.ref 15),none,some (.str "PairsError" 189),some (.str "PairsError" 197),some (.builtin "ValueError.__new__"),some (.bool true)]),(23,⟨.type "dict",none,.dict (TL [kE P "__module__" 196 (.str "askedpairs.errors" 187),kE P "__firstlineno__" 200 (.int (2) 199),kE P "__static_attributes__" 201 (.ref 22),kE P "__weakref__" 203 (.ref 25),kE P "__doc__" 204 (.none)]) 3,#[]⟩),(37,kL "TooMany" [.ref 24] [.ref 37,.ref 24,.type "ValueError",.type "Exception",.type "BaseException",.type "object"] 36 [] #[some (.ref 28),none,some (.str "TooMany" 207),some (.str "TooMany" 215),some (.builtin "ValueError.__new__"),some (.bool true)]),(36,⟨.type "dict",none,.dict (TL [kE P "__module__" 214 (.str "askedpairs.errors" 187),kE P "__firstlineno__" 218 (.int (4) 217),kE P "__static_attributes__" 219 (.ref 35),kE P "__doc__" 220 (.none)]) 2,#[]⟩),(49,kL "NoRise" [.ref 24] [.ref 49,.ref 24,.type "ValueError",.type "Exception",.type "BaseException",.type "object"] 48 [] #[some (.ref 40),none,some (.str "NoRise" 223),some (.str "NoRise" 231),some (.builtin "ValueError.__new__"),some (.bool true)]),(48,⟨.type "dict",none,.dict (TL [kE P "__module__" 230 (.str "askedpairs.errors" 187),kE P "__firstlineno__" 234 (.int (6) 233),kE P "__static_attributes__" 235 (.ref 47),kE P "__doc__" 236 (.none)]) 2,#[]⟩),(61,kL "NotTwoSided" [.ref 24] [.ref 61,.ref 24,.type "ValueError",.type "Exception",.type "BaseException",.type "object"] 60 [] #[some (.ref 52),none,some (.str "NotTwoSided" 239),some (.str "NotTwoSided" 247),some (.builtin "ValueError.__new__"),some (.bool true)]),(60,⟨.type "dict",none,.dict (TL [kE P "__module__" 246 (.str "askedpairs.errors" 187),kE P "__firstlineno__" 250 (.int (8) 249),kE P "__static_attributes__" 251 (.ref 59),kE P "__doc__" 252 (.none)]) 2,#[]⟩),(73,kL "NoText" [.ref 24] [.ref 73,.ref 24,.type "ValueError",.type "Exception",.type "BaseException",.type "object"] 72 [] #[some (.ref 64),none,some (.str "NoText" 255),some (.str "NoText" 263),some (.builtin "ValueError.__new__"),some (.bool true)]),(72,⟨.type "dict",none,.dict (TL [kE P "__module__" 262 (.str "askedpairs.errors" 187),kE P "__firstlineno__" 266 (.int (10) 265),kE P "__static_attributes__" 267 (.ref 71),kE P "__doc__" 268 (.none)]) 2,#[]⟩)]
def kA:List Qe:=[3,82,81,91,90,98,97,105,104,112,111,119,118,124,123,129,128,136,135,143,142,148,147,153,152,158,157,165,164,172,171,179,178,186,185,193,192,200,199,207,206,214,213,221,220,228,227,235,234,242,241,249,248,254,253,261,260,268,267,273,272,278,277,283,282,290,289,297,296,302,301,309,308,314,313,319,318,324,323,331,330,338,337,345,344,350,349,355,354,83,84,24,23,37,36,49,48,61,60,73,72]
def kq:Qn:={Tt with main:={Tt.main with body:=[top 1,top 2,top 3,top 4,top 5,top 6,top 8,top 9,top 10,top 11,top 12,top 13,top 14,top 16,top 17,top 19,top 20,top 22,top 23,top 25,top 26,top 27,top 29,top 30,top 31,top 32,top 33,top 34,top 35,top 36,top 37,top 38,top 39,top 40,top 41,top 42,top 43,top 44,top 45,top 46,top 47,top 48,top 49,top 50,top 51,top 52,top 53,top 54,top 55,top 56,top 57,top 58,top 59]}}
def kH:W.Hook:=W.kHook kK kA (λ_=>by kernel_rfl)
abbrev lX(s:Qf):Bool:=W.xlAt kq [] s&&W.recOk (W.RowW.records (W.OpenRow.toRowW (W.OpenLaw.row VR))) s
def l1(p q:Qn)(Xt:Qf->Bool)(N:Nat):Prop:=∀w,(W.openEnds treeTable p w N).map (λs=>(W.openSeen q [] (Vp p.main.body) Xt true s).1)=some (W.openGood q []).1
def l0(p q:Qn)(Xt:Qf->Bool)(N:Nat):Prop:=∀w,(W.openEnds treeTable p w N).map (λs=>((W.openSeen q [] (Vp p.main.body) Xt true s).2.1,(W.openSeen q [] (Vp p.main.body) Xt true s).2.2.1))=some ((W.openGood q []).2.1,(W.openGood q []).2.2.1)
def l2(p q:Qn)(Xt:Qf->Bool)(N:Nat):Prop:=∀w,(W.openEnds treeTable p w N).map (λs=>(W.openSeen q [] (Vp p.main.body) Xt true s).2.2.2)=some (W.openGood q []).2.2.2
def l3{α:Type}(p:Qn)(Yf:Qf->α)(Ya:Qk->α)(N:Nat):Prop:=∀w,(W.openEnds treeTable p w N).map Yf=some (Ya w)
theorem Fg{p q:Qn}{Xt:Qf->Bool}{α:Type}{Yf:Qf->α}{Ya:Qk->α}{N:Nat}(h1:l1 p q Xt N)(h0:l0 p q Xt N)(h2:l2 p q Xt N)(h3:l3 p Yf Ya N):W.LeftO p q [] Xt Yf Ya N:=λw=>by have a:=h1 w;have d:=h0 w;have b:=h2 w;have c:=h3 w;cases o:W.openEnds treeTable p w N with|none=>rw[o]at a;cases a|some s=>rw[o]at a b c d;simp only[RP,Tw,Prod.mk.injEq]at a b c d;exact congrArg some (Prod.ext (Prod.ext a (Prod.ext d.1 (Prod.ext d.2 b))) c)
theorem J':l1 Tt kq lX 5066:=λw=>by kernel_rfl
theorem J_:l0 Tt kq lX 5066:=λw=>by kernel_rfl
theorem Ka:l2 Tt kq lX 5066:=λw=>by kernel_rfl
theorem Kb:l3 Tt (W.Hook.obs kH) (W.Hook.val kH) 5066:=λw=>by kernel_rfl
theorem left:W.LeftO Tt kq [] lX (W.Hook.obs kH) (W.Hook.val kH) 5066:=Fg J' J_ Ka Kb
theorem Fi{P:List Qd->Prop}(h:∀a0,P [a0]):∀us:List Qd,us.length=1->P us:=λus e=>match us,e with|[a0],_=>h a0
theorem qP{P:List Qd->Prop}(h:∀a0 a1,P [a0,a1]):∀us:List Qd,us.length=2->P us:=λus e=>match us,e with|[a0,a1],_=>h a0 a1
theorem CG{P:List Qd->Prop}(h:∀a0 a1 a2,P [a0,a1,a2]):∀us:List Qd,us.length=3->P us:=λus e=>match us,e with|[a0,a1,a2],_=>h a0 a1 a2
theorem MJ{P:List Qd->Prop}(h:∀a0 a1 a2 a3,P [a0,a1,a2,a3]):∀us:List Qd,us.length=4->P us:=λus e=>match us,e with|[a0,a1,a2,a3],_=>h a0 a1 a2 a3
abbrev hQ(w:Qk)(n:Str)(s:Qo)(a c:Qe)(d p:Qd):Prop:=(Sj (kK w.params) QS n,Uy a (kK w.params),Ut (kK w.params) (.ref c) n,Tn (kK w.params) (.ref a))=(some (some (.ref a)),some (kF n s d p c),true,true)
theorem hm{w:Qk}{h:Qm}{mg:Str->Option Qd}{n:Str}{s:Qo}{a c:Qe}{d p:Qd}{ps:List Str}(X:(kK w.params).In h)(G:h.Ns QS mg)(e:hQ w n s a c d p)(b:∀(kV doc pm:Qd) (an:Option Qe) (cdv ct:Qd) (us:List Qd),us.length=ps.length->bindArgs (Sf n n (eX s) (cI s) (au s) .none kV doc pm an cdv ct) ⟨us,[]⟩=pure (ps.zip us)):eN (kK w.params) mg n s a (Sf n n (eX s) (cI s) (au s) .none .none d p none (.ref c) .none) ps:=HS X G (congrArg (·.1) e) (congrArg (·.2.1) e) (congrArg (·.2.2.1) e) (congrArg (·.2.2.2) e) b
theorem pH(w:Qk):hQ w "refuse_above" cg 82 81 (.none) Mo:=by kernel_rfl
theorem mW(w:Qk):hQ w "common_divisor" cF 91 90 (.none) Er:=by kernel_rfl
theorem AV(w:Qk):hQ w "lowest" iL 98 97 (.none) Er:=by kernel_rfl
theorem Ff(w:Qk):hQ w "plus" oy 105 104 (.none) Er:=by kernel_rfl
theorem Cw(w:Qk):hQ w "times" kf 112 111 (.none) Er:=by kernel_rfl
theorem wH(w:Qk):hQ w "one_less" iM 119 118 (.none) Er:=by kernel_rfl
theorem yx(w:Qk):hQ w "kept_of" jO 124 123 (.none) Lc:=by kernel_rfl
theorem sJ(w:Qk):hQ w "worth_kept" dQ 129 128 (.none) Lc:=by kernel_rfl
theorem wJ(w:Qk):hQ w "run_tree" fW 136 135 (.none) Mp:=by kernel_rfl
theorem uW(w:Qk):hQ w "chance_by" eL 143 142 (.none) Ld:=by kernel_rfl
theorem qL(w:Qk):hQ w "all_answers" df 148 147 (.none) Ld:=by kernel_rfl
theorem lS(w:Qk):hQ w "together_answers" bJ 153 152 (.none) Le:=by kernel_rfl
theorem mX(w:Qk):hQ w "together_worth" bK 158 157 (.none) Le:=by kernel_rfl
theorem Ct(w:Qk):hQ w "_law_mixed" nu 165 164 (.none) er:=by kernel_rfl
theorem Cr(w:Qk):hQ w "_law_draws" nj 172 171 (.none) er:=by kernel_rfl
theorem E7(w:Qk):hQ w "_law_next" kd 179 178 (.none) er:=by kernel_rfl
theorem Ic(w:Qk):hQ w "_law_gcd" xr 186 185 (.none) er:=by kernel_rfl
theorem Ie(w:Qk):hQ w "_law_low" rL 193 192 (.none) er:=by kernel_rfl
theorem E_(w:Qk):hQ w "_law_plus" oq 200 199 (.none) er:=by kernel_rfl
theorem Cu(w:Qk):hQ w "_law_times" ke 207 206 (.none) er:=by kernel_rfl
theorem Fc(w:Qk):hQ w "_law_rest" ou 214 213 (.none) er:=by kernel_rfl
theorem Fd(w:Qk):hQ w "_law_same" rM 221 220 (.none) er:=by kernel_rfl
theorem AU(w:Qk):hQ w "_law_chance" jK 228 227 (.none) er:=by kernel_rfl
theorem Cv(w:Qk):hQ w "_law_worth" ny 235 234 (.none) er:=by kernel_rfl
theorem Fe(w:Qk):hQ w "_law_ties" ox 242 241 (.none) er:=by kernel_rfl
theorem Ih(w:Qk):hQ w "_law_web" xu 249 248 (.none) er:=by kernel_rfl
theorem yr(w:Qk):hQ w "_law_asks_of" jJ 254 253 (.none) er:=by kernel_rfl
theorem Ig(w:Qk):hQ w "_law_may" xt 261 260 (.none) er:=by kernel_rfl
theorem AS(w:Qk):hQ w "_law_behind" lb 268 267 (.none) er:=by kernel_rfl
theorem yq(w:Qk):hQ w "_law_askable" jI 273 272 (.none) er:=by kernel_rfl
theorem Cs(w:Qk):hQ w "_law_grown" nq 278 277 (.none) er:=by kernel_rfl
theorem qJ(w:Qk):hQ w "_law_all_answers" de 283 282 (.none) er:=by kernel_rfl
theorem uV(w:Qk):hQ w "_law_chance_of" gK 290 289 (.none) er:=by kernel_rfl
theorem wF(w:Qk):hQ w "_law_run_tree" fU 297 296 (.none) er:=by kernel_rfl
theorem E6(w:Qk):hQ w "_law_kept" oo 302 301 (.none) er:=by kernel_rfl
theorem sI(w:Qk):hQ w "_law_tree_worth" fj 309 308 (.none) er:=by kernel_rfl
theorem yt(w:Qk):hQ w "_law_grouped" jL 314 313 (.none) er:=by kernel_rfl
theorem wD(w:Qk):hQ w "_law_group_of" iJ 319 318 (.none) er:=by kernel_rfl
theorem qK(w:Qk):hQ w "_law_tie_answers" dZ 324 323 (.none) er:=by kernel_rfl
theorem wG(w:Qk):hQ w "_law_together" iK 331 330 (.none) er:=by kernel_rfl
theorem yu(w:Qk):hQ w "_law_refusal" jM 338 337 (.none) er:=by kernel_rfl
theorem yw(w:Qk):hQ w "_law_refused" jN 345 344 (.none) er:=by kernel_rfl
theorem Ib(w:Qk):hQ w "_law_few" xq 350 349 (.none) er:=by kernel_rfl
theorem Ii(w:Qk):hQ w "law" rO 355 354 (.none) er:=by kernel_rfl
theorem all_mk{l:W.OpenLaw}{w:Qk}{h:Qm}{mg:Str->Option Qd}{fa:Qe}(X:(kK w.params).In h)(G:h.Ns QS mg)(hfa:mg "law"=some (.ref fa)):∃fd:QJ,(∀(s:Qf) (v:Qd),BindsTo s fd ⟨[v],[]⟩ [("_law_script",v)])/\∀base:Qm,(kK w.params).In base->base.Ns QS mg->bu l.prog w (kK w.params) mg base fx 7 fa fd ["_law_script"] (fX (kK w.params) 1 qS):=by
 have e:=hfa.symm.trans (SE X G (show Sj (kK w.params) QS "law"=some (some (.ref 355)) by kernel_rfl));cases e;have nn:∀{n:Str},Sj (kK w.params) QS n=some none->mg n=none:=λe=>W.mg_none_of X G e;have T:iw mg:=⟨nn ↥6,nn ↥6,nn ↥6,nn ↥6,nn ↥6,nn ↥6,nn ↥6,nn ↥6,nn ↥6,nn ↥6,nn ↥6,nn ↥6,nn ↥6,nn ↥6⟩;have MY:=hm (ps:=["many","most"]) X G (pH w) λ_ _ _ _ _ _=>qP λ_ _=>rfl;have M4:=hm (ps:=["one","other"]) X G (mW w) λ_ _ _ _ _ _=>qP λ_ _=>rfl;have Nb:=hm (ps:=["top","bottom"]) X G (AV w) λ_ _ _ _ _ _=>qP λ_ _=>rfl;have N8:=hm (ps:=["one","other"]) X G (Ff w) λ_ _ _ _ _ _=>qP λ_ _=>rfl;have Nt:=hm (ps:=["one","other"]) X G (Cw w) λ_ _ _ _ _ _=>qP λ_ _=>rfl;have Np:=hm (ps:=["chance"]) X G (wH w) λ_ _ _ _ _ _=>Fi λ_=>rfl;have Nw:=hm (ps:=["run"]) X G (yx w) λ_ _ _ _ _ _=>Fi λ_=>rfl;have M6:=hm (ps:=["web","run"]) X G (sJ w) λ_ _ _ _ _ _=>qP λ_ _=>rfl;have Ni:=hm (ps:=["web","tree","answers"]) X G (wJ w) λ_ _ _ _ _ _=>CG λ_ _ _=>rfl;have Na:=hm (ps:=["chances","answers"]) X G (uW w) λ_ _ _ _ _ _=>qP λ_ _=>rfl;have M5:=hm (ps:=["many"]) X G (qL w) λ_ _ _ _ _ _=>Fi λ_=>rfl;have MZ:=hm (ps:=["web","groups","answers"]) X G (lS w) λ_ _ _ _ _ _=>CG λ_ _ _=>rfl;have MX:=hm (ps:=["web","groups","tree"]) X G (mX w) λ_ _ _ _ _ _=>CG λ_ _ _=>rfl;have NJ:=hm (ps:=["_law_cell","_law_k"]) X G (Ct w) λ_ _ _ _ _ _=>qP λ_ _=>rfl;have N6:=hm (ps:=["_law_script"]) X G (Cr w) λ_ _ _ _ _ _=>Fi λ_=>rfl;have M0:=hm (ps:=["_law_drawn"]) X G (E7 w) λ_ _ _ _ _ _=>Fi λ_=>rfl;have ON:=hm (ps:=["_law_one","_law_other"]) X G (Ic w) λ_ _ _ _ _ _=>qP λ_ _=>rfl;have NY:=hm (ps:=["_law_top","_law_bottom"]) X G (Ie w) λ_ _ _ _ _ _=>qP λ_ _=>rfl;have NR:=hm (ps:=["_law_one","_law_other"]) X G (E_ w) λ_ _ _ _ _ _=>qP λ_ _=>rfl;have Nn:=hm (ps:=["_law_one","_law_other"]) X G (Cu w) λ_ _ _ _ _ _=>qP λ_ _=>rfl;have NQ:=hm (ps:=["_law_one"]) X G (Fc w) λ_ _ _ _ _ _=>Fi λ_=>rfl;have NT:=hm (ps:=["_law_found","_law_due"]) X G (Fd w) λ_ _ _ _ _ _=>qP λ_ _=>rfl;have Nq:=hm (ps:=["_law_number","_law_kind"]) X G (AU w) λ_ _ _ _ _ _=>qP λ_ _=>rfl;have N1:=hm (ps:=["_law_number","_law_kind"]) X G (Cv w) λ_ _ _ _ _ _=>qP λ_ _=>rfl;have NP:=hm (ps:=["_law_drawn","_law_things","_law_many"]) X G (Fe w) λ_ _ _ _ _ _=>CG λ_ _ _=>rfl;have OK:=hm (ps:=["_law_drawn","_law_most","_law_ties_here"]) X G (Ih w) λ_ _ _ _ _ _=>CG λ_ _ _=>rfl;have NA:=hm (ps:=["_law_web_here","_law_asked","_law_thing"]) X G (yr w) λ_ _ _ _ _ _=>CG λ_ _ _=>rfl;have OQ:=hm (ps:=["_law_web_here","_law_stand","_law_tie"]) X G (Ig w) λ_ _ _ _ _ _=>CG λ_ _ _=>rfl;have NC:=hm (ps:=["_law_web_here","_law_stand","_law_tie","_law_truth"]) X G (AS w) λ_ _ _ _ _ _=>MJ λ_ _ _ _=>rfl;have NB:=hm (ps:=["_law_web_here","_law_stand"]) X G (yq w) λ_ _ _ _ _ _=>qP λ_ _=>rfl;have Nu:=hm (ps:=["_law_drawn","_law_web_here","_law_most"]) X G (Cs w) λ_ _ _ _ _ _=>CG λ_ _ _=>rfl;have M3:=hm (ps:=["_law_many"]) X G (qJ w) λ_ _ _ _ _ _=>Fi λ_=>rfl;have Nm:=hm (ps:=["_law_web_here","_law_answers"]) X G (uV w) λ_ _ _ _ _ _=>qP λ_ _=>rfl;have M':=hm (ps:=["_law_tree","_law_answers"]) X G (wF w) λ_ _ _ _ _ _=>qP λ_ _=>rfl;have NS:=hm (ps:=["_law_web_here","_law_run"]) X G (E6 w) λ_ _ _ _ _ _=>qP λ_ _=>rfl;have Nf:=hm (ps:=["_law_web_here","_law_tree"]) X G (sI w) λ_ _ _ _ _ _=>qP λ_ _=>rfl;have ND:=hm (ps:=["_law_drawn","_law_web_here"]) X G (yt w) λ_ _ _ _ _ _=>qP λ_ _=>rfl;have Nr:=hm (ps:=["_law_groups","_law_tie"]) X G (wD w) λ_ _ _ _ _ _=>qP λ_ _=>rfl;have M_:=hm (ps:=["_law_web_here","_law_groups","_law_answers"]) X G (qK w) λ_ _ _ _ _ _=>CG λ_ _ _=>rfl;have Nk:=hm (ps:=["_law_web_here","_law_groups","_law_tree"]) X G (wG w) λ_ _ _ _ _ _=>CG λ_ _ _=>rfl;have Nj:=hm (ps:=["_law_kept_here"]) X G (yu w) λ_ _ _ _ _ _=>Fi λ_=>rfl;have NE:=hm (ps:=["_law_web_here","_law_groups","_law_tree"]) X G (yw w) λ_ _ _ _ _ _=>CG λ_ _ _=>rfl;have OJ:=hm (ps:=["_law_drawn","_law_given"]) X G (Ib w) λ_ _ _ _ _ _=>qP λ_ _=>rfl;have PQ:=hm (ps:=["_law_script"]) X G (Ii w) λ_ _ _ _ _ _=>Fi λ_=>rfl;have lG_83:Uy 83 (kK w.params)=some (kT [.int (0) 281,.int (1) 282] 0):=by kernel_rfl
 have m_ZERO:=SE X G (show Sj (kK w.params) QS "ZERO"=some (some (.ref 83)) by kernel_rfl);have c_ZERO:∀F,DA (kK w.params) F (.tuple [.int (0),.int (1)]) (.ref 83):=λF=>by simp only[DA,aR];exact⟨83,[V.int (0),V.int (1)],rfl,.inr ⟨_,_,_,lG_83,rfl,rfl,rfl,(by show 2<=Qv;decide),(.cons ⟨_,rfl⟩ (.cons ⟨_,rfl⟩ .nil))⟩,⟨_,_,rfl,rfl,⟨_,_,rfl,rfl,rfl⟩⟩⟩
 have lG_84:Uy 84 (kK w.params)=some (kT [.int (1) 284,.int (1) 285] 0):=by kernel_rfl
 have m_ONE:=SE X G (show Sj (kK w.params) QS "ONE"=some (some (.ref 84)) by kernel_rfl);have c_ONE:∀F,DA (kK w.params) F (.tuple [.int (1),.int (1)]) (.ref 84):=λF=>by simp only[DA,aR];exact⟨84,[V.int (1),V.int (1)],rfl,.inr ⟨_,_,_,lG_84,rfl,rfl,rfl,(by show 2<=Qv;decide),(.cons ⟨_,rfl⟩ (.cons ⟨_,rfl⟩ .nil))⟩,⟨_,_,rfl,rfl,⟨_,_,rfl,rfl,rfl⟩⟩⟩
 have m_END:=SE X G (show Sj (kK w.params) QS "END"=some (some (.int (-1) 344)) by kernel_rfl);have m_MOST_GROUPS:=SE X G (show Sj (kK w.params) QS "MOST_GROUPS"=some (some (.int (8) 381)) by kernel_rfl);have m_NoRise:=SE X G (show Sj (kK w.params) QS "NoRise"=some (some (.ref 49)) by kernel_rfl);have m_NoText:=SE X G (show Sj (kK w.params) QS "NoText"=some (some (.ref 73)) by kernel_rfl);have m_NotTwoSided:=SE X G (show Sj (kK w.params) QS "NotTwoSided"=some (some (.ref 61)) by kernel_rfl);have m_PairsError:=SE X G (show Sj (kK w.params) QS "PairsError"=some (some (.ref 24)) by kernel_rfl);have m_TooMany:=SE X G (show Sj (kK w.params) QS "TooMany"=some (some (.ref 37)) by kernel_rfl);have x_TooMany:Uh (kK w.params) 37 Br "ValueError.__new__"=true:=by kernel_rfl
 have Z_TooMany:vK (kK w.params) 37:=⟨by kernel_rfl,by kernel_rfl,by kernel_rfl,by kernel_rfl,by kernel_rfl,by kernel_rfl⟩;have k_PairsError:Sa (kK w.params) (.ref 37) (.ref 24)=some true:=by kernel_rfl
 have k_ValueError:Sa (kK w.params) (.ref 37) (.type "ValueError")=some true:=by kernel_rfl
 have k_TooMany:Sa (kK w.params) (.ref 37) (.ref 37)=some true:=by kernel_rfl
 have k_NoRise:Sa (kK w.params) (.ref 37) (.ref 49)=some false:=by kernel_rfl
 have k_NotTwoSided:Sa (kK w.params) (.ref 37) (.ref 61)=some false:=by kernel_rfl
 have k_NoText:Sa (kK w.params) (.ref 37) (.ref 73)=some false:=by kernel_rfl
 have x2_PairsError:W.exmOne (kK w.params) (.ref 37) (.ref 24)=some true:=by kernel_rfl
 refine⟨Sf "law" "law" (eX rO) (cI rO) (au rO) .none .none (.none) er none (.ref 354) .none,λs v=>.of_eq rfl,λbase _ _=>?_⟩;have cl:∀{f:Qe}{fd:QJ}{n:Str}{s:Qo}{ps:List Str}{lv k:Nat}{m:FM},eN (kK w.params) mg n s f fd ps->bu l.prog w (kK w.params) mg base fx lv f fd ps (fX (kK w.params) k m)->Cl l.prog w (kK w.params) mg base n s ps lv k m:=λh g=>⟨_,_,h,g⟩;have z_refuse_above:=cl MY (pK MY T);have R_refuse_above:=n_ (P:=l.prog) (w:=w) (base:=base) MY T m_TooMany x_TooMany;have z_common_divisor:=cl M4 (m7 M4 T);have z_lowest:=cl Nb (A6 Nb T z_common_divisor);have z_plus:=cl N8 (Fz N8 T z_lowest);have z_times:=cl Nt (CW Nt T z_lowest);have z_one_less:=cl Np (w_ Np T z_lowest);have z_kept_of:=cl Nw (yG Nw T);have z_worth_kept:=cl M6 (sM M6 T z_kept_of);have z_run_tree:=cl Ni (xa Ni T m_END);have z_chance_by:=cl Na (vf Na T z_times z_one_less m_ONE c_ONE);have z_all_answers:=cl M5 (rg M5 T);have z_together_answers:=cl MZ (lT MZ T);have z_together_worth:=cl MX (m8 MX T z_refuse_above z_all_answers z_run_tree z_plus z_together_answers z_times z_chance_by z_worth_kept m_ZERO c_ZERO m_MOST_GROUPS);have R_together_worth:=ms (P:=l.prog) (w:=w) (base:=base) MX T z_all_answers z_run_tree z_plus z_together_answers z_times z_chance_by z_worth_kept m_ZERO c_ZERO m_MOST_GROUPS MY R_refuse_above;have zLmixed:=cl NJ (CT NJ T);have zLdraws:=cl N6 (CQ N6 T zLmixed);have zLnext:=cl M0 (Fu M0 T);have zLgcd:=cl ON (Ir ON T);have zLlow:=cl NY (Iu NY T zLgcd);have zLplus:=cl NR (Fv NR T zLlow);have zLtimes:=cl Nn (CU Nn T zLlow);have zLrest:=cl NQ (Fw NQ T);have zLsame:=cl NT (Fx NT T);have zLchance:=cl Nq (A4 Nq T zLlow);have zLworth:=cl N1 (CV N1 T);have zLties:=cl NP (Fy NP T zLnext zLchance zLworth);have zLweb:=cl OK (Iy OK T zLties zLnext);have zLasks_of:=cl NA (yC NA T);have zLmay:=cl OQ (Iw OQ T zLasks_of);have zLbehind:=cl NC (A0 NC T);have zLaskable:=cl NB (yB NB T zLmay);have zLgrown:=cl Nu (CS Nu T zLaskable zLnext zLbehind);have zLall_answers:=cl M3 (qZ M3 T);have zLchance_of:=cl Nm (ve Nm T zLtimes zLrest);have zLrun_tree:=cl M' (wY M' T);have zLkept:=cl NS (Ft NS T);have zLtree_worth:=cl Nf (sL Nf T zLall_answers zLplus zLkept zLtimes zLrun_tree zLchance_of);have zLgrouped:=cl ND (yD ND T zLchance zLnext);have zLgroup_of:=cl Nr (wX Nr T);have zLtie_answers:=cl M_ (q_ M_ T zLgroup_of);have zLtogether:=cl Nk (wZ Nk T zLall_answers zLplus zLkept zLtimes zLrun_tree zLtie_answers zLrest);have NL:=yE (P:=l.prog) (w:=w) (base:=base) Nj T Z_TooMany m_PairsError k_PairsError k_ValueError m_TooMany k_TooMany m_NoRise k_NoRise m_NotTwoSided k_NotTwoSided m_NoText k_NoText;have zLrefused:=cl NE (yF NE T MX R_together_worth Nj NL m_PairsError x2_PairsError);have zLfew:=cl OJ (Iq OJ T zLgrouped);have PR:=Iz (P:=l.prog) (w:=w) (base:=base) PQ T zLdraws zLties zLfew zLgrown zLweb zLrefused zLsame zLnext z_together_worth zLtogether zLtree_worth;exact PR
def KN(K:W.Frag):Sp:=λvs H Q _=>∃(a:Qe) (ns:List Int),vs=[.ref a]/\jR K H a (ns.map V.int)/\ns.length<=63/\∀H',Q (.bl true) H'
theorem Ik{K:W.Frag}{vs:List V}{H:Hp}{Q:VK}{E:XK}(h:KN K vs H Q E):fX K 1 qS vs H Q E:=by obtain⟨a,ns,rfl,hS,hl,q⟩:=h;obtain⟨as',hm⟩:=CB ns hl;exact yQ hS hm q
theorem walk{l:W.OpenLaw}{q:Qn}{loose:List Str}{XP:(Str->Option Qd)->Qm->Prop}{YP:Qk->Qm->Prop}{d:DefRec}{K:Params->W.Frag}(hn:l.most=some 63)(hdf:d.params.defaults=[])(hY:∀(w:Qk) (h:Qm),YP w h->(K w.params).In h)(F:∀(w:Qk) (mg:Str->Option Qd) (fa:Qe) (h:Qm),(K w.params).In h->h.Ns QS mg->mg d.name=some (.ref fa)->∃fd:QJ,(∀(s:Qf) (u:Qd),BindsTo s fd ⟨[u],[]⟩ [("_law_script",u)])/\∀base:Qm,(K w.params).In base->base.Ns QS mg->bu l.prog w (K w.params) mg base fx 7 fa fd ["_law_script"] (fX (K w.params) 1 qS)):W.WalkO q loose XP YP l.row.toRowW d [] (λf vs=>PySem.call f vs):=L2.walk_of (n:=63) (k:=7) (x:="_law_script") (CX:=λ_=>fx) (sp:=λw=>fX (K w.params) 1 qS) hn ⋯ hdf ⟨rfl,by decide,by decide,rfl⟩ hY F (λ_ _ a ns hl _ hS=>Ik ⟨a,ns,rfl,hS,hl,λ_=>rfl⟩) λ_ _ _ _ _ z=>z
end V71
open PySem PySem.W PyProof.Rows
set_option maxRecDepth 100000 in
set_option maxHeartbeats 0 in
theorem PySem.Challenge.cw_askedpairs_k71_worth_together_holds : PySem.Challenge.rw_askedpairs_k71_worth_together.Holds := by
  w_on;o_law
  refine holds_open (q:=V71.kq) (loose:=[]) (Xt:=fun s=>xlAt V71.kq [] s&&recOk (RowW.records (OpenRow.toRowW (OpenLaw.row VR))) s) (XP:=XL V71.kq []) (Yf:=Hook.obs V71.kH) (Ya:=Hook.val V71.kH) (YP:=Hook.says V71.kH) (N:=5066) V71.left (Hook.of V71.kH) (Hook.keeps V71.kH) (fun s e=>xl_of s (Bool.and_eq_true_iff.mp e).1) XL.keeps ∅ ∅ ∅ (fun s e=>recFacts_of (Bool.and_eq_true_iff.mp e).2) ∅ (by assumption) ↥2 ⟨rfl,rfl,rfl,rfl,rfl,by decide+kernel⟩ ?hw ?hc
  case hw=>w_witness2
  case hc=>exact V71.walk (l:=VR) rfl rfl (fun w h Y=>kIn_of Y) (fun w mg fa h KX G hmg=>V71.all_mk KX G hmg)
