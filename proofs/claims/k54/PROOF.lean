import PyProof.Rows.All
import KE.KRevSl
import KE.KFromBytes
import KE.KIntText
import KE.KIsAll
import KE.KRevIter
import KE.KSortTup
import PySem.Challenge.RW_askedpairs_k54_whole_bound_raised
open PySem renaming Addr→MW,Value→MX,PyData→MY,Shared→MZ,Expr→Na,wpAny_bind→Nc,wpAny→Nf,World→Ng,Heap→Nh,model→Ni,eval→Nj,Program→Nk,starEach→Nl,wpAny_pure→Nm,Around→Nn,Stmt→Nq,sizeLine→Nr,FuncData→Nt,Scope→NC,mainGlobals→ND,cellsFrom→NK,backTo→NO,IsPair→NR,compareOp→NU,wpAny_mono→NW,holding→NY,wpAny_field→NZ,binaryOp→Oa,assign→Od,Keyword→Oe,NameKind→Of,assignEach→Ol,sizeLine_eq→Om,wpAny_newObj_type→Ow,sysModules→OI,pyNext→OJ,wpAny_loadPart'→ON,bootBuiltins→OX,standAt→Pk,wpAny_holding→Pm,wpAny_seqItems→Pu,foldedSetIterable→Py,wpAny_call_entry→PB,swapsWith→PN,swapsWithSole→PQ,swappedStores→PU,behindInMarks→PV,wpAny_callSpecial?_slot→PX,call_meets→Qa,wpAny_passesOwn→Qf,sliceBounds→Qm,attributeBase→Qn,keywordEach→Qo,wpAny_letGo→Qu,wpAny_truthy_bool→QA,wpAny_standAt→QC,letOwnedTupleGo→QD,wpAny_setField_rec→QH,wpAny_pyIter_tuple→QS,wpAny_Call_Name_kw→QV,mem_of_lookup→QW,typeIs_int→QY,wpAny_execs_nil→Rm,wpAny_updateSeq_pair→Sd
open List renaming range→Nb,replicate→Np,length_map→Nw,map_cons→Nx,size_toArray→NA,mem_range→NB,getElem?_set_ne→NG,getElem?_map→NH,getElem?_eq_getElem→NL,Nodup→NM,mem_cons_of_mem→NT,mem_cons→NX,getElem?_set_self→Oc,map_append→Oi,not_mem_nil→Oq,map_map→Os,ext_getElem?→Ot,map_congr_left→Ou,length_append→Ox,map_nil→Oy,filter_eq_self→OC,mem_append_right→OD,length_take→OK,all_eq_true→OQ,find?_cons→OR,mem_append→OV,nodup_cons→OY,length_drop→OZ,length_set→Pa,lookup_cons→Pe,getD_eq_getElem?_getD→Pf,mem_map→Pi,mem_cons_self→Pj,length_cons→Pp,getElem?_set→Pv,getElem?_append_left→Pz,length_range→PF,range_succ→PJ,mem_filter→PL,replicate_succ→PY,append_nil→Qh,length_replicate→Qi,nil_append→Qp,getElem?_eq_none→Qx,foldl→QE,cons_append→QJ,findIdx?_cons→QK,getElem?_range→QO,filterMap_cons→QQ,drop_eq_nil_of_le→Re,findIdx?_eq_none_iff→Rf,any_eq_false→Rg,getElem_mem→Rh,any_cons→Rj,lookup_append→Rk,length_nil→Ro,reverse_cons→Rq,flatten_cons→Rr,mem_singleton→RE,length_reverse→RH,mem_of_find?_eq_some→RJ,lt_irrefl→RL,mem_or_eq_of_mem_set→RM,range_add→RO,mem_filterMap→RT,getElem?_replicate→RU,getElem?_of_mem→Sk,drop_eq_getElem_cons→Sl,pairwise_lt_range→Su,cons_lt_cons_iff→Sx,take_append_drop→Sy,mem_of_mem_take→SA,mem_of_mem_drop→SB,getElem_range→SE,take_of_length_le→SF,length_pos_iff→SG,findIdx?_eq_some_iff_getElem→SM
open PySem.Heap renaming lt_size→Nu,get?_push_of_some→Nz,get?_push_size→Oj,size_push→Oo,SameBut→PM,get?_update_other→Ql,get?_update_self→RY,get?_push_cases→Sf
open Int renaming gcd→Nv,toNat_natCast→OF,mul_comm→Pc,le_refl→Px,mul_assoc→PD,mul_nonneg→PH,mul_pos→Qc,natAbs_mul→Qq,eq_of_mul_eq_mul_right→QL,one_pos→Rl,fdiv_mul_cancel→Rw,mul_le_mul_of_nonneg_left→Rz,emod_lt_of_pos→SC,lt_of_lt_of_le→SD
open Nat renaming le_refl→Ny,ne_of_lt→NJ,le_trans→NS,lt_of_lt_of_le→NV,lt_irrefl→OW,lt_of_le_of_lt→Pb,zero_add→PK,zero_le→Qr,le_of_lt→Qz,le_add_right→QI,ne_of_gt→QR,lt_trans→QZ,pow_le_pow_right→Ru,lt_succ_of_lt→RI,mul_le_mul_right→Sb
open Ne renaming symm→NF
open Option renaming bind_some→NI,map_some→Ov,getD_some→Rx
open Bool renaming and_eq_true→NP,false_ne_true→Pn,and_self→Rb,false_eq_true→Ry,eq_iff_iff→RG,or_eq_false_iff→Sm
open Option.some renaming inj→NQ,injEq→Qy
open PySem.PyData renaming strOk→Ob,depth→OA,canLay0→OB,depthAll→OP,canLayAll0→OS,shownAll→Pd,eqv→Ph,showableAll→QF
open PySem.W renaming nsIn→Og,fnOf→OL,mg_none_of→OU,keepIn→Qg,isStarred→QG,findIn→QT,codeIn→QX,methodObj→RS
open PySem.SeqAt renaming shaped→Oh,canLay_of_shaped→RF
open PySem.Str renaming ofString→On
open PySem.NameKind renaming free→Oz,cell→Qs
open PyProof.Rows renaming kindOf→OE,IntsAre→OM,callWith_type1→Po,slot_tuple_getitem→Pq,boot_list→Sg
open Rat renaming le_refl→OG,intCast_mul→OT,mul_nonneg→Pw,le_trans→Qe,mul_pos→Qv,le_of_lt→Qw,intCast_zero→QM,mul_le_mul_of_nonneg_right→QP,intCast_one→RK
open PySem.PassesOwn renaming never→OH
open False renaming elim→Pl
open PySem.Builtin.Tuple renaming tupleExact→Pr,tupleItemsOf→RW,tupleTooMany→Sj
open PySem.Builtin.SmallTypes renaming nextOf→Pt,ownedTupleIsFree→RC,ownedTupleHandOut→SL
open ForInStep renaming yield→Qb
open Classical renaming byContradiction→Qd,choose→Sr,choose_spec→Ss
open PySem.Builtin.Slice renaming slicePlaces→Qj,sliceApplied→Rp,sliceAdjust→RV,sliceFields→SK
open PySem.Obj renaming mapSeq→Qk
open Array renaming length_toList→QB
open PySem.F renaming plain_min_loop→QN,slot_tuple_mul→Rc,slot_int_rmul→Rt,slot_tuple_iterator_next→RB,slot_zip_next→RD,slot_list_append→Sa,slot_enumerate_next→Se,slot_dict_get→Sn
open PySem.Calls renaming spliced_cons→QU
open PySem.Challenge renaming pw_askedpairs_k54_whole_bound_raised→RN,rw_askedpairs_k54_whole_bound_raised→SJ
open PySem.Heap.IsSliceOf renaming new→RX
open PySem.Builtin.List renaming listTooLong→RZ
open PySem.AutoSeq1 renaming idx_int→Si
open List.cons renaming injEq→So
open PySem.Builtin.Builtins renaming bindParams→SN
set_option Elab.async false
set_option linter.all false
set_option maxRecDepth 100000
noncomputable section
local macro_rules|`(∅)=>`(by rfl)
local macro_rules|`(⋯)=>`(by decide)
local macro_rules|`(↥0)=>`(by lia)|`(↥1)=>`(by simp)|`(↥2)=>`(by decide+kernel)|`(↥3)=>`(Or.inl rfl)|`(↥4)=>`(fun _ _=>rfl)|`(↥5)=>`(by intro _;rfl)|`(↥6)=>`(by kernel_rfl)|`(↥7)=>`(by simp;lia)|`(↥8)=>`(Ny _)
local macro_rules|`(⇑0)=>`(PySem.W.Frag)
local macro_rules|`(↑$x)=>`(($x).heap.objs.size)
namespace L2
open PySem PySem.Spec PyProof.Rows
theorem MP{α:Type _}{β:Type _}{o:Option α}{f:α→Option β}{b:β}(h:o.bind f=some b):∃a,o=some a∧f a=some b:=Option.bind_eq_some_iff.mp h
theorem MQ{α:Type _}{β:Type _}{o:Option α}{f:α→β}{b:β}(h:o.map f=some b):∃a,o=some a∧f a=b:=Option.map_eq_some_iff.mp h
theorem MR{α:Type _}{l:List α}{i:Nat}{a:α}(h:l[i]?=some a):∃w:i<l.length,l[i]=a:=List.getElem?_eq_some_iff.mp h
theorem MS{α:Type _}{a:α}{s t:List α}(h:a∈s++t):a∈s∨a∈t:=OV.mp h
theorem MT{α:Type _}{β:Type _}{b:β}{f:α→β}{l:List α}(h:b∈l.map f):∃a,a∈l∧f a=b:=Pi.mp h
theorem MU{α:Type _}{a b:α}{l:List α}(h:a∈b::l):a=b∨a∈l:=NX.mp h
theorem MV{α:Type _}{l:List α}{i:Nat}{a:α}(h:l[i]?=some a):a∈l:=List.mem_of_getElem? h
abbrev fx:=Sum Int Str
def oy:fx→MX→Bool
  | .inl k,v=>Value.isInt k v
  | .inr x,v=>Value.isStrOf x v
def Jm(w:Ng):fx→Int
  | .inl k=>hashInt k
  | .inr x=>hashStr w x
theorem bT:∀{k:fx} {v:MX},oy k v=true→(∃i t,k=Sum.inl i∧v=Value.int i t)∨(∃x t,k=Sum.inr x∧v=Value.str x t)
  | .inl i,v,h=>by
    obtain⟨t,e⟩:=Value.isInt_shape (k:=i) (v:=v) h
    exact .inl ⟨i,t,rfl,e⟩
  | .inr x,v,h=>by
    obtain⟨t,e⟩:=Value.isStrOf_shape (x:=x) (v:=v) h
    exact .inr ⟨x,t,rfl,e⟩
theorem xY(i:Int)(t:Tok):oy (.inl i) (.int i t)=true:=by simp [oy,Value.isInt]
theorem xZ(x:Str)(t:Tok):oy (.inr x) (.str x t)=true:=by simp [oy,Value.isStrOf]
theorem EI(a b:Int):decide ((Sum.inl a:fx)=Sum.inl b)=(a==b):=by
  by_cases e:a=b
  · subst e;simp
  · have h:¬(Sum.inl a:fx)=Sum.inl b:=fun q=>e (Sum.inl.inj q)
    rw [decide_eq_false h]
    exact(beq_eq_false_iff_ne.mpr e).symm
theorem EL(a b:Str):decide ((Sum.inr a:fx)=Sum.inr b)=decide (a=b):=by
  by_cases e:a=b
  · subst e;simp
  · have h:¬(Sum.inr a:fx)=Sum.inr b:=fun q=>e (Sum.inr.inj q)
    rw [decide_eq_false h,decide_eq_false e]
theorem EJ(a:Int)(b:Str):decide ((Sum.inl a:fx)=Sum.inr b)=false:=decide_eq_false (fun q=>nomatch q)
theorem EK(a:Str)(b:Int):decide ((Sum.inr a:fx)=Sum.inl b)=false:=decide_eq_false (fun q=>nomatch q)
def ci(prog:Nk)(w:Ng):PySem.KeyKind prog w fx where
  is:=oy
  hash:=Jm w
  inj:=fun v a b ha hb=>by
    rcases bT ha with ⟨i,t,rfl,rfl⟩ | ⟨x,t,rfl,rfl⟩
    · rcases bT hb with ⟨j,u,rfl,e⟩ | ⟨y,u,rfl,e⟩
      · injection e with e1 _;rw [e1]
      · exact nomatch e
    · rcases bT hb with ⟨j,u,rfl,e⟩ | ⟨y,u,rfl,e⟩
      · exact nomatch e
      · injection e with e1 _;rw [e1]
  byValue:=fun k v h=>by
    rcases bT h with ⟨i,t,rfl,rfl⟩ | ⟨x,t,rfl,rfl⟩<;>rfl
  pyHash:=fun hv h=>by
    rcases bT hv with ⟨i,t,rfl,rfl⟩ | ⟨x,t,rfl,rfl⟩
    · exact wpAny_pyHash_int h
    · exact wpAny_pyHash_str h
  eqBool:=fun hu hv h=>by
    rcases bT hu with ⟨i,t,rfl,rfl⟩ | ⟨x,t,rfl,rfl⟩
    · rcases bT hv with ⟨j,u,rfl,rfl⟩ | ⟨y,u,rfl,rfl⟩
      · rw [EI] at h;exact wpAny_eqBool_int h
      · rw [EJ] at h;exact SeqAt.EqAt.int_str i t y u _ _ _ _ h
    · rcases bT hv with ⟨j,u,rfl,rfl⟩ | ⟨y,u,rfl,rfl⟩
      · rw [EK] at h;exact SeqAt.EqAt.str_int x t j u _ _ _ _ h
      · rw [EL] at h;exact wpAny_eqBool_str h
  «strs»:=fun k x t v h=>by
    rcases bT h with ⟨i,u,rfl,e⟩ | ⟨y,u,rfl,e⟩
    · exact nomatch e
    · injection e with e1 _
      subst e1
      cases v<;>rfl
theorem tY(prog:Nk)(w:Ng)(i:Int)(t:Tok):(ci prog w).is (.inl i) (.int i t)=true:=xY i t
theorem tZ(prog:Nk)(w:Ng)(x:Str)(t:Tok):(ci prog w).is (.inr x) (.str x t)=true:=xZ x t
inductive V where
  | non | bl (b:Bool) | int (i:Int) | str (x:Str) | byt (b:Array UInt8) | flt (b:UInt64) | ref (a:MW) | ty (n:String)
  deriving DecidableEq
def bv:V→MX→Prop
  | .non,u=>u=Value.none
  | .bl b,u=>u=Value.bool b
  | .int i,u=>∃t,u=Value.int i t
  | .str x,u=>∃t,u=Value.str x t
  | .byt b,u=>∃t,u=Value.bytes b t
  | .flt b,u=>∃t,u=Value.float b t
  | .ref a,u=>u=Value.ref a
  | .ty n,u=>u=Value.type n
abbrev aR:List V→List MX→Prop:=Paired bv
theorem aR.length{xs:List V}{us:List MX}(r:aR xs us):xs.length=us.length:=Paired.length r
theorem aR.get:∀{xs:List V} {us:List MX} {i:Nat} {x:V},aR xs us→xs[i]?=some x→∃u,us[i]?=some u∧bv x u
  | _,_,_,_,.nil,e=>by simp at e
  | _,_,0,_,.cons r _,e=>by simp at e;subst e;exact⟨_,rfl,r⟩
  | _,_,i+1,x,.cons _ t,e=>by
    obtain⟨u,h1,h2⟩:=aR.get (i:=i) (x:=x) t (by simpa using e)
    exact⟨u,by simpa using h1,h2⟩
theorem aR.set{x:V}{u:MX}(r:bv x u):∀{xs:List V} {us:List MX} (i:Nat),aR xs us→aR (xs.set i x) (us.set i u)
  | _,_,_,.nil=>.nil
  | _,_,0,.cons _ t=>.cons r t
  | _,_,i+1,.cons q t=>.cons q (aR.set r i t)
theorem aR.append:∀{xs ys:List V} {us ws:List MX},aR xs us→aR ys ws→aR (xs++ys) (us++ws)
  | _,_,_,_,.nil,s=>s
  | _,_,_,_,.cons r t,s=>.cons r (aR.append t s)
theorem aR.take:∀{xs:List V} {us:List MX} (n:Nat),aR xs us→aR (xs.take n) (us.take n)
  | _,_,0,_=>.nil
  | _,_,_+1,.nil=>.nil
  | _,_,n+1,.cons r t=>.cons r (aR.take n t)
theorem aR.drop:∀{xs:List V} {us:List MX} (n:Nat),aR xs us→aR (xs.drop n) (us.drop n)
  | _,_,0,r=>r
  | _,_,_+1,.nil=>.nil
  | _,_,n+1,.cons _ t=>aR.drop n t
def xE:Option V→Option MX→Prop
  | some v,some u=>bv v u
  | none,none=>True
  | _,_=>False
def KV{κ:Type}:List (κ × V)→List (κ × MX)→Prop:=Paired fun(p:κ × V) (q:κ × MX)=>p.1=q.1∧bv p.2 q.2
def kV:fx→V
  | .inl i=>.int i
  | .inr x=>.str x
inductive HO where
  /-- a list -/
  | lst (xs:List V)
  /-- a tuple (never changes) -/
  | tup (xs:List V)
  /-- a dict whose keys are ints and texts; one whose keys are tuples of ints and texts (the empty one is both) -/
  | dK (kvs:List (fx × V)) | dT (kvs:List (List fx × V))
  /-- a set of ints: its members, its size -/
  | set (S:Int→Bool) (n:Nat)
  /-- an instance of the class at C, its dict at dx, its attributes -/
  | ins (C dx:MW) (fs:List (Str × V))
  /-- the dict of the instance at x -/
  | own (x:MW)
  /-- the dict of an exception -/
  | xd (fs:List (Str × V))
  /-- a bound method, f of x -/
  | met (f x:MW)
  /-- a range object lo, lo + 1, .. below hi -/
  | rng (lo hi:Int)
  /-- a thing that is known to the object (the script; a dict while a loop walks it): read, never written while it is so -/
  | frz (o:Obj) (u:HO)
  /-- a code object's table -/
  | tbl (ps:Array MX)
  /-- any other thing, by what is true of its one object (a def of one's own: SetO a S n := HO.ext fun h => ..) -/
  | ext (φ:Nh→Prop)
abbrev Hp:=MW→Option HO
def bC(H:Hp)(a:MW)(o:HO):Hp:=fun b=>if b=a then some o else H b
theorem ay{H:Hp}{a:MW}{o:HO}:bC H a o a=some o:=by unfold bC;rw [if_pos rfl]
theorem aA{H:Hp}{a b:MW}{o:HO}(h:b≠a):bC H a o b=H b:=by unfold bC;rw [if_neg h]
theorem eQ{H:Hp}{a b:MW}{o:HO}(h:H a=some o)(h':H b=none):a≠b:=by
  intro e;subst e;rw [h] at h';cases h'
def lG(h:Nh)(a:MW)(items:Array MX):Prop:=∃o,h.get? a=some o∧o.cls=.type "tuple"∧∃n,o.data=.seq items n∧o.dict=none
theorem lG.tup{h:Nh}{a:MW}{items:Array MX}(x:lG h a items):IsTup h a items:=let ⟨o,ho,hc,n,hd,_⟩:=x;⟨o,ho,hc,n,hd⟩
theorem lG.new(h:Nh)(items:Array MX):lG (h.push {cls:=.type "tuple",data:=.seq items}) h.objs.size items:=⟨_,Oj _ rfl,rfl,_,rfl,rfl⟩
section
variable(P:Nk)(w:Ng)
def dy(H:Hp)(h:Nh)(a:MW):HO→Prop
  | .lst xs=>xs.length≤Nr∧∃(its:List MX) (n:Nat),aR xs its∧h.get? a=some {cls:=.type "list",data:=.seq its.toArray n}
  | .tup xs=>xs.length≤Nr∧∃its:List MX,aR xs its∧lG h a its.toArray
  | .dK kvs=>kvs.length≤Nr∧(a==OI)=false∧∃vs,KV kvs vs∧h.DictOf (ci P w) a vs
  | .dT kvs=>kvs.length≤Nr∧(a==OI)=false∧∃xs:List (List fx × MW × MX),
      Paired (fun(p:List fx × V) (q:List fx × MW × MX)=>p.1=q.1∧H q.2.1=some (.tup (p.1.map kV))∧bv p.2 q.2.2) kvs xs∧
      ∃o es ep,h.get? a=some o∧o.ExactDict∧o.data=.dict es ep∧es.toList=xs.map (entryOfKey (tupleKind (ci P w)))∧(xs.map (·.1)).Nodup
  | .set S n=>h.SetOf (intKind P w) a S n
  | .ins C dx fs=>H dx=some (.own a)∧fs.length≤1000∧dx≠a∧h.get? a=some (PySem.W.instObj C dx)∧
      ∃mA,h.Ns1 dx mA∧(∀f,xE (fs.lookup f) (mA f))∧PySem.Within mA (fs.map (·.1))
  | .own _=>∃o,h.get? a=some o
  | .xd fs=>∃mA,h.Ns1 a mA∧∀f,xE (fs.lookup f) (mA f)
  | .rng lo hi=>∃t u v,h.get? a=some {cls:=.type "range",data:=.fields #[.int lo t,.int hi u,.int 1 v]}
  | .frz o u=>h.get? a=some o∧dy H h a u
  | .tbl ps=>h.get? a=some {cls:=.none,data:=.fields ps}
  | .met f x=>h.get? a=some (RS (.ref f) (.ref x))
  | .ext φ=>φ h∧(∃o,h.get? a=some o)∧∀h1 h2:Nh,φ h1→(∀o,h1.get? a=some o→h2.get? a=some o)→φ h2
def lE(H:Hp)(h:Nh):Prop:=∀a o,H a=some o→dy P w H h a o
end
section
variable{P:Nk}{w:Ng}{H H':Hp}{h h':Nh}{a:MW}{o:HO}
theorem dy.lt(x:dy P w H h a o):a < h.objs.size:=by
  cases o with
  | lst xs=>obtain⟨_,_,_,_,e⟩:=x;exact Nu e
  | tup xs=>obtain⟨_,_,_,p⟩:=x;exact p.tup.lt
  | dK kvs=>obtain⟨_,_,_,_,o,_,_,e,_⟩:=x;exact Nu e
  | dT kvs=>obtain⟨_,_,_,_,o,_,_,e,_⟩:=x;exact Nu e
  | set S n=>obtain⟨o,_,_,_,e,_⟩:=x;exact Nu e
  | ins C dx fs=>obtain⟨_,_,_,e,_⟩:=x;exact Nu e
  | own y=>obtain⟨_,e⟩:=x;exact Nu e
  | xd fs=>obtain⟨_,⟨_,_,_,e,_⟩,_⟩:=x;exact Nu e
  | rng lo hi=>obtain⟨_,_,_,e⟩:=x;exact Nu e
  | frz ob u=>obtain⟨e,_⟩:=x;exact Nu e
  | tbl ps=>exact Nu (show h.get? a=some _ from x)
  | met f y=>exact Nu (show h.get? a=some _ from x)
  | ext φ=>obtain⟨_,⟨_,e⟩,_⟩:=x;exact Nu e
theorem Paired.mapP{α β:Type}{F G:α→β→Prop}:∀{l₁:List α} {l₂:List β},Paired F l₁ l₂→(∀a b,F a b→G a b)→Paired G l₁ l₂
  | _,_,.nil,_=>.nil
  | _,_,.cons r t,f=>.cons (f _ _ r) (Paired.mapP t f)
theorem dy.stay(x:dy P w H h a o)(k:∀b u,(b=a∨H b=some (.own a))→h.get? b=some u→h'.get? b=some u)
    (ho:∀b,H b=some (.own a)→H' b=some (.own a))(ht:∀b xs,H b=some (.tup xs)→H' b=some (.tup xs)):dy P w H' h' a o:=by
  induction o with
  | lst xs=>obtain⟨z,its,n,r,e⟩:=x;exact⟨z,its,n,r,k _ _ (.inl rfl) e⟩
  | tup xs=>obtain⟨z,its,r,ob,e,c⟩:=x;exact⟨z,its,r,ob,k _ _ (.inl rfl) e,c⟩
  | dK kvs=>obtain⟨z,y,vs,r,ob,es,ep,e,c⟩:=x;exact⟨z,y,vs,r,ob,es,ep,k _ _ (.inl rfl) e,c⟩
  | dT kvs=>
    obtain⟨z,y,xs,r,ob,es,ep,e,c⟩:=x
    exact⟨z,y,xs,Paired.mapP r fun p q z=>⟨z.1,ht _ _ z.2.1,z.2.2⟩,ob,es,ep,k _ _ (.inl rfl) e,c⟩
  | set S n=>obtain⟨ob,es,ep,t,e,c⟩:=x;exact⟨ob,es,ep,t,k _ _ (.inl rfl) e,c⟩
  | ins C dx fs=>
    obtain⟨d,z,ne,e,mA,⟨od,es,ep,e2,c⟩,r⟩:=x
    exact⟨ho _ d,z,ne,k _ _ (.inl rfl) e,mA,⟨od,es,ep,k _ _ (.inr d) e2,c⟩,r⟩
  | own y=>obtain⟨ob,e⟩:=x;exact⟨ob,k _ _ (.inl rfl) e⟩
  | xd fs=>obtain⟨mA,⟨od,es,ep,e,c⟩,r⟩:=x;exact⟨mA,⟨od,es,ep,k _ _ (.inl rfl) e,c⟩,r⟩
  | rng lo hi=>obtain⟨t,u,v,e⟩:=x;exact⟨t,u,v,k _ _ (.inl rfl) e⟩
  | frz ob u ih=>obtain⟨e,q⟩:=x;exact⟨k _ _ (.inl rfl) e,ih q⟩
  | tbl ps=>
    have e:h.get? a=some {cls:=.none,data:=.fields ps}:=x
    show h'.get? a=some {cls:=.none,data:=.fields ps}
    exact k a _ (.inl rfl) e
  | met f y=>
    have e:h.get? a=some (RS (.ref f) (.ref y)):=x
    show h'.get? a=some (RS (.ref f) (.ref y))
    exact k a _ (.inl rfl) e
  | ext φ=>obtain⟨p,⟨o,e⟩,st⟩:=x;exact⟨st _ _ p fun o q=>k _ _ (.inl rfl) q,⟨o,k _ _ (.inl rfl) e⟩,st⟩
theorem lE.lt(x:lE P w H h)(e:H a=some o):a < h.objs.size:=(x a o e).lt
theorem lE.fresh(x:lE P w H h)(e:h.objs.size≤a):H a=none:=by
  cases q:H a with
  | none=>rfl
  | some u=>exact absurd (NV (x.lt q) e) (OW _)
theorem lE.kept(x:lE P w H h)(k:∀b u,h.get? b=some u→h'.get? b=some u):lE P w H h':=fun a o e=>
  (x a o e).stay (fun b u _ q=>k b u q) (fun _ q=>q) fun _ _ q=>q
theorem lE.laid(x:lE P w H h)(k:∀b u,h.get? b=some u→h'.get? b=some u)(hp:h.objs.size≤a)(new:dy P w (bC H a o) h' a o):lE P w (bC H a o) h':=fun b u e=>by
  have hn:=x.fresh hp
  by_cases hb:b=a
  · subst hb;rw [ay] at e;cases e;exact new
  · rw [aA hb] at e
    exact(x b u e).stay (fun c v _ q=>k c v q) (fun c q=>by rw [aA (eQ q hn)];exact q) fun c xs q=>by rw [aA (eQ q hn)];exact q
end
def Rd(H:Hp)(a:MW)(u:HO):Prop:=H a=some u∨∃o,H a=some (.frz o u)
theorem Rd.ok{P:Nk}{w:Ng}{H:Hp}{h:Nh}{a:MW}{u:HO}(r:Rd H a u)(x:lE P w H h):dy P w H h a u:=by
  rcases r with r | ⟨o,r⟩
  · exact x a u r
  · obtain⟨_,q⟩:=x a _ r
    exact q
def GH:Option HO→Prop
  | some (.lst _)=>True
  | some (.dK _)=>True
  | some (.dT _)=>True
  | some (.set _ _)=>True
  | some (.ins _ _ _)=>True
  | some (.ext _)=>True
  | _=>False
section
variable{P:Nk}{w:Ng}{H:Hp}{h h':Nh}{x e:MW}{o':HO}
theorem lE.write(ok:lE P w H h)(mu:GH (H x))(he:e=x∨H e=some (.own x))(k:∀b u,b≠e→h.get? b=some u→h'.get? b=some u)(heo:∃u,h'.get? e=some u)
    (new:dy P w (bC H x o') h' x o'):lE P w (bC H x o') h':=fun b u q=>by
  have nown:∀c y,H c=some (.own y)→c≠x:=fun c y r z=>by subst z;rw [r] at mu;exact mu
  have ntup:∀c xs,H c=some (.tup xs)→c≠x:=fun c xs r z=>by subst z;rw [r] at mu;exact mu
  by_cases hb:b=x
  · subst hb;rw [ay] at q;cases q;exact new
  · rw [aA hb] at q
    by_cases hbe:b=e
    · have q':H b=some (.own x):=by
        rcases he with z | z
        · exact absurd (hbe.trans z) hb
        · rw [hbe];exact z
      rw [q] at q';cases q'
      obtain⟨v,hv⟩:=heo
      exact⟨v,by rw [hbe];exact hv⟩
    · refine(ok b u q).stay (fun c v hc r=>k c v ?_ r) (fun c r=>by rw [aA (nown c b r)];exact r) fun c xs r=>by rw [aA (ntup c xs r)];exact r
      rcases hc with rfl | hc
      · exact hbe
      · rintro rfl
        rcases he with z | z
        · exact nown c b hc z
        · rw [hc] at z;cases z;exact hb rfl
end
structure Un (fs ex:List MW) (H H':Hp) (h h':Nh):Prop where
  keep:∀b o,h.get? b=some o→H b=none→b∉fs→b∉ex→h'.get? b=some o
  slot:∀b o,h.get? b=some o→H b=none→b∈fs→b∉ex→∃sl,h'.get? b=some {o with slots:=sl}
  free:∀b o,h.get? b=some o→H b=none→b∉ex→H' b=none
  there:∀b o,h.get? b=some o→b∉ex→∃o',h'.get? b=some o'
  tups:∀b xs,H b=some (.tup xs)→H' b=some (.tup xs)
  frzs:∀b o u,H b=some (.frz o u)→H' b=some (.frz o u)
  tbls:∀b ps,H b=some (.tbl ps)→∃more,H' b=some (.tbl (ps++more))
section
variable{fs fs' ex ex':List MW}{H H1 H2:Hp}{h h1 h2 h':Nh}{a x e:MW}{o:HO}
theorem Un.any(u:Un fs ex H H1 h h1){b:MW}{ob:Obj}(q:h.get? b=some ob)(n:H b=none)(hx:b∉ex):∃sl,h1.get? b=some {ob with slots:=sl}:=by
  by_cases hb:b∈fs
  · exact u.slot b ob q n hb hx
  · exact⟨ob.slots,u.keep b ob q n hb hx⟩
theorem Un.kept(k:∀b u,h.get? b=some u→h'.get? b=some u):Un fs ex H H h h':=
  ⟨fun b ob q _ _ _=>k b ob q,fun b ob q _ _ _=>⟨ob.slots,k b ob q⟩,fun _ _ _ n _=>n,fun b ob q _=>⟨ob,k b ob q⟩,fun _ _ q=>q,fun _ _ _ q=>q,fun _ ps q=>⟨#[],by rw [q];simp⟩⟩
theorem Un.refl:Un fs ex H H h h:=Un.kept fun _ _ q=>q
theorem Un.laid(k:∀b u,h.get? b=some u→h'.get? b=some u)(hp:h.objs.size≤a)(hn:H a=none):Un fs ex H (bC H a o) h h' where
  keep:=fun b u q _ _ _=>k b u q
  slot:=fun b u q _ _ _=>⟨u.slots,k b u q⟩
  free:=fun b u q n _=>by rw [aA (NJ (NV (Nu q) hp))];exact n
  there:=fun b u q _=>⟨u,k b u q⟩
  tups:=fun b xs q=>by rw [aA (eQ q hn)];exact q
  frzs:=fun b u xs q=>by rw [aA (eQ q hn)];exact q
  tbls:=fun b ps q=>⟨#[],by rw [aA (eQ q hn),q];simp⟩
theorem Un.write(mu:GH (H x))(he:e=x∨H e=some (.own x))(k:∀b u,b≠e→h.get? b=some u→h'.get? b=some u)(heo:∃u,h'.get? e=some u):Un fs ex H (bC H x o) h h':=by
  have hx:∀b,H b=none→b≠x:=fun b n z=>by subst z;rw [n] at mu;exact mu
  have hb:∀b,H b=none→b≠e:=fun b n z=>by
    subst z
    rcases he with r | r
    · exact hx b n r
    · rw [n] at r;cases r
  have hm:∀b u,H b=some u→¬GH (some u)→b≠x:=fun b u q nm z=>by subst z;rw [q] at mu;exact nm mu
  refine⟨fun b u q n _ _=>k b u (hb b n) q,fun b u q n _ _=>⟨u.slots,k b u (hb b n) q⟩,fun b u q n _=>by rw [aA (hx b n)];exact n,fun b u q _=>?_,
    fun b xs q=>by rw [aA (hm b _ q fun z=>z)];exact q,fun b u xs q=>by rw [aA (hm b _ q fun z=>z)];exact q,fun b ps q=>⟨#[],by rw [aA (hm b _ q fun z=>z),q];simp⟩⟩
  by_cases hbe:b=e
  · subst hbe;exact heo
  · exact⟨u,k b u hbe q⟩
end
def IH(h:Nh)(H:Hp):List MW:=(Nb h.objs.size).filter fun a=>(H a).isSome
def rO(h:Nh)(H:Hp):Nh:=PySem.W.hideAll h (IH h H)
theorem xU(h:Nh)(H:Hp):(rO h H).objs.size=h.objs.size:=PySem.W.hideAll_size _ _
theorem zQ{h:Nh}{H:Hp}{b:MW}{o:Obj}(e:h.get? b=some o)(n:H b=none):(rO h H).get? b=some o:=
  PySem.W.hideAll_get _ e fun hm=>by
    have q:(H b).isSome=true:=(PL.mp hm).2
    rw [n] at q;simp at q
theorem Cm{h:Nh}{H:Hp}{b:MW}{o:Obj}(e:(rO h H).get? b=some o):h.get? b=some o∧H b=none:=by
  have e':h.get? b=some o:=PySem.W.of_hideAll (IH h H) e
  refine⟨e',?_⟩
  cases q:H b with
  | none=>rfl
  | some x=>
    have hm:b∈IH h H:=PL.mpr ⟨NB.mpr (Nu e'),by simp [q]⟩
    have z:(rO h H).get? b=none:=PySem.W.hideAll_none (IH h H) hm
    rw [z] at e;cases e
def qS(g h:Nh)(L:MW):List (MW × Obj):=(Nb h.objs.size).filterMap fun a=>if a=L∨(g.get? a).isSome=true then none else(h.get? a).map fun o=>(a,o)
theorem oO{g h:Nh}{L:MW}{p:MW × Obj}(hp:p∈qS g h L):p.1≠L∧g.get? p.1=none∧h.get? p.1=some p.2:=by
  obtain⟨b,_,e⟩:=RT.mp hp
  split at e
  · cases e
  · rename_i hn
    cases q:h.get? b with
    | none=>rw [q] at e;simp at e
    | some u=>
      rw [q] at e
      simp only [Ov,Qy] at e
      subst e
      refine⟨fun z=>hn (.inl z),?_,q⟩
      show g.get? b=none
      cases r:g.get? b with
      | none=>rfl
      | some v=>exact(hn (.inr (by simp [r]))).elim
def dP(g h:Nh)(L d:MW):List (MW × Obj):=(qS g h L).filter fun p=>decide (p.1≠d)
theorem Aj{g h:Nh}{L:MW}:News g L h (qS g h L):=fun p hp=>let ⟨a,b,c⟩:=oO hp;⟨c,a,b⟩
structure Mod (K:⇑0) (mg:Str→Option MX) (base:Nh):Prop where
  kin:K.In base
  glob:base.Ns ND mg
  blt:∃mb,base.Ns builtinsNs mb∧∀x:Str,x≠"__name__"→mb x=OX x
  nolimit:base.NoLimit
structure Cx where
  prog:Nk
  w:Ng
  K:⇑0
  mg:Str→Option MX
  base:Nh
  A:Nn
  N:List Str
  s₀:MZ
  H₀:Hp
  env:Env
  outer:List Env
  stack:List Env
  ex:List MW
  fn:Str→Bool
  calm:Bool
  pn:List (MW × Obj)
  xe:MX→MZ→Prop
def zB(l:List Env):List MW:=l.filterMap (·.frame)
abbrev Cx.fs(X:Cx):List MW:=zB X.outer
def yO(sc:NC)(x:Str):Prop:=sc.names.lookup x=some .local∨sc.names.lookup x=some .cell∨sc.names.lookup x=some .free
def Ek(sc:NC)(x:Str):Prop:=sc.names.lookup x=some .local∨sc.names.lookup x=some .cell
def IQ(env:Env)(h:Nh)(m:Str→Option MX)(x:Str)(u:MX):Prop:=
  (env.kindOf x=some .local∧m x=some u)∨((env.kindOf x=some .cell∨env.kindOf x=some .free)∧∃c,env.cells.lookup x=some c∧h.IsCell c (some u))
structure Cx.Ok (X:Cx):Prop where
  mod:Mod X.K X.mg X.base
  kind:X.env.scope.kind=.function
  glob:X.env.globals=ND
  blt:X.env.builtins=builtinsNs
  above:X.s₀.heap.objs.size≤X.env.locals
  inj:∀x y c,X.env.cells.lookup x=some c→X.env.cells.lookup y=some c→x=y
  has:∀x,(X.env.kindOf x=some .cell∨X.env.kindOf x=some .free)→∃c,X.env.cells.lookup x=some c
  cab:∀x c,X.fn x=true→X.env.cells.lookup x=some c→X.s₀.heap.objs.size≤c
  hd:X.calm=true→X.A.handled=none
  frames:X.A.frames=some X.stack
  stk:X.stack=X.outer∨(X.stack=X.env::X.outer∧X.env.frame=some X.env.locals)
  exf:∀b∈X.ex,b≠X.env.locals∧∀x c,X.env.cells.lookup x=some c→c≠b
  bs:∀b o,X.base.get? b=some o→X.s₀.heap.get? b=some o∧X.H₀ b=none
  bsz:X.base.objs.size≤X.s₀.heap.objs.size
  noex:∀b o,X.base.get? b=some o→b∉X.ex
  exfs:∀b∈X.ex,b∉X.fs
  funs:X.s₀.heap.FunFrames X.base X.outer
  frf:∀b∈X.fs,X.H₀ b=none
structure aI (X:Cx) (pins:List (MW × Obj)) (σ:List (Option V)) (H:Hp) (s:MZ):Prop where
  ok:X.Ok
  os:s.os=X.s₀.os
  bare:AllBare s.gens
  base:Un X.fs X.ex X.H₀ H X.s₀.heap s.heap
  loc:∃m,s.heap.Ns X.env.locals m∧∀(i:Nat) (x:Str) (v:V),X.N[i]?=some x→σ[i]?=some (some v)→yO X.env.scope x→∃u,bv v u∧IQ X.env s.heap m x u
  cell:∀x c,X.env.cells.lookup x=some c→∃v,s.heap.IsCell c v
  free:H X.env.locals=none
  freeC:∀x c,X.env.cells.lookup x=some c→H c=none
  pin:∀p∈X.pn++pins,s.heap.get? p.1=some p.2∧H p.1=none∧p.1≠X.env.locals∧p.1∉X.fs∧∀v,p.2.data≠.cell v
  hok:lE X.prog X.w H s.heap
  len:σ.length=X.N.length
section
variable{X:Cx}{pins:List (MW × Obj)}{σ:List (Option V)}{H H':Hp}{s:MZ}{h':Nh}
theorem Cx.Ok.nofr(ok:X.Ok){b:MW}{o:Obj}(e:X.base.get? b=some o):b∉X.fs:=fun hb=>by
  have:=(ok.funs.mem hb).1
  rw [e] at this;cases this
theorem aI.bs(I:aI X pins σ H s):∀b o,X.base.get? b=some o→s.heap.get? b=some o∧H b=none:=fun b o e=>
  ⟨I.base.keep b o (I.ok.bs b o e).1 (I.ok.bs b o e).2 (I.ok.nofr e) (I.ok.noex b o e),I.base.free b o (I.ok.bs b o e).1 (I.ok.bs b o e).2 (I.ok.noex b o e)⟩
theorem aI.bk(I:aI X pins σ H s):∀b o,X.base.get? b=some o→s.heap.get? b=some o:=fun b o e=>(I.bs b o e).1
theorem aI.mod(I:aI X pins σ H s):Mod X.K X.mg X.base:=I.ok.mod
theorem aI.kIn(I:aI X pins σ H s):X.K.In s.heap:=I.ok.mod.kin.keeps I.bk
theorem aI.fr(I:aI X pins σ H s):∃m,Fr X.base X.env.locals s.heap m:=
  let ⟨m,hn,_⟩:=I.loc
  ⟨m,hn,I.bk,NS I.ok.bsz I.ok.above⟩
theorem aI.lt(I:aI X pins σ H s):X.env.locals < ↑s:=let ⟨_,hn,_⟩:=I.loc;hn.lt
theorem aI.sz(I:aI X pins σ H s):X.s₀.heap.objs.size≤↑s:=NS I.ok.above (Qz I.lt)
theorem aI.nofs(I:aI X pins σ H s){a:MW}(h:↑s≤a):a∉X.fs:=fun hb=>by
  obtain⟨_,o,ho,_⟩:=I.ok.funs.mem hb
  exact absurd (NV (Nu ho) (NS I.sz h)) (OW _)
theorem aI.cne(I:aI X pins σ H s):∀x c,X.env.cells.lookup x=some c→c≠X.env.locals:=fun x c e z=>by
  obtain⟨v,o,ho,hd⟩:=I.cell x c e
  obtain⟨m,⟨o',es,ep,ho',hd',_⟩,_⟩:=I.loc
  rw [z,ho'] at ho;cases ho;rw [hd'] at hd;cases hd
theorem aI.funs(I:aI X pins σ H s):s.heap.FunFrames X.base X.outer:=by
  have all:∀(l:List Env),(∀b∈zB l,b∈X.fs)→X.s₀.heap.FunFrames X.base l→s.heap.FunFrames X.base l:=by
    intro l
    induction l with
    | nil=>intro _ _;trivial
    | cons env r ih=>
      intro hs hl
      obtain⟨hk,⟨L,o,hf,hn,ho,hd⟩,hr⟩:=hl
      have hL:L∈X.fs:=hs L (by unfold zB;rw [QQ,hf];exact Pj)
      obtain⟨sl,e⟩:=I.base.slot L o ho (I.ok.frf L hL) hL fun z=>I.ok.exfs L z hL
      exact⟨hk,⟨L,_,hf,hn,e,hd⟩,ih (fun b hb=>hs b (by unfold zB;rw [QQ,hf];exact NT _ hb)) hr⟩
  exact all X.outer (fun _ hb=>hb) I.ok.funs
theorem aI.stack(I:aI X pins σ H s):s.heap.FunFrames X.base X.stack:=by
  rcases I.ok.stk with e | ⟨e,hf⟩
  · rw [e];exact I.funs
  · rw [e]
    obtain⟨m,hn,_⟩:=I.loc
    refine .cons (by rw [I.ok.kind];decide) hf hn ?_ I.funs
    exact Heap.get?_none_of_le (NS I.ok.bsz I.ok.above)
theorem aI.stkSub(I:aI X pins σ H s):∀b∈zB X.stack,b∈X.env.locals::X.fs:=fun b hb=>by
  rcases I.ok.stk with e | ⟨e,hf⟩
  · rw [e] at hb;exact NT _ hb
  · rw [e] at hb
    unfold zB at hb
    rw [QQ,hf] at hb
    exact hb
theorem aI.stkFree(I:aI X pins σ H s):∀b∈zB X.stack,H b=none:=fun b hb=>by
  rcases MU (I.stkSub b hb) with e | hb
  · rw [e];exact I.free
  · obtain⟨_,o,ho,_⟩:=I.ok.funs.mem hb
    exact I.base.free b o ho (I.ok.frf b hb) fun z=>I.ok.exfs b z hb
theorem aI.step{g':Array GenState}{t':Nat}{d':Drawn}{ch:List MW}(I:aI X pins σ H s)
    (hch:∀b∈ch,(b∈X.ex∨X.s₀.heap.objs.size≤b)∧b≠X.env.locals∧(∀x c,X.env.cells.lookup x=some c→c≠b)∧∀p∈X.pn++pins,p.1≠b)
    (keep:∀b o,b≠X.env.locals→b∉X.fs→b∉ch→s.heap.get? b=some o→H b=none→h'.get? b=some o)
    (slot:∀b o,b≠X.env.locals→b∈X.fs→b∉ch→s.heap.get? b=some o→H b=none→∃sl,h'.get? b=some {o with slots:=sl})(free:∀b o,b∉ch→s.heap.get? b=some o→H b=none→H' b=none)
    (there:∀b o,b∉ch→s.heap.get? b=some o→∃o',h'.get? b=some o')
    (tups:∀b xs,H b=some (.tup xs)→H' b=some (.tup xs))(frzs:∀b o u,H b=some (.frz o u)→H' b=some (.frz o u))(tbls:∀b ps,H b=some (.tbl ps)→∃more,H' b=some (.tbl (ps++more)))
    (ns:∀m,s.heap.Ns X.env.locals m→h'.Ns X.env.locals m)(hok:lE X.prog X.w H' h')(hg:AllBare g'):
    aI X pins σ H' {s with heap:=h',gens:=g',drawn:=d',toks:=t'}:=by
  have neL:∀b o,X.s₀.heap.get? b=some o→b≠X.env.locals:=fun b o e=>NJ (NV (Nu e) I.ok.above)
  have neC:∀b o,X.s₀.heap.get? b=some o→b∉X.ex→b∉ch:=fun b o e hx hb=>by
    rcases(hch b hb).1 with z | z
    · exact hx z
    · exact absurd (NV (Nu e) z) (OW _)
  have cellK:∀x c,X.env.cells.lookup x=some c→∀v,s.heap.IsCell c v→h'.IsCell c v:=fun x c e v ⟨o,ho,hd⟩=>by
    have nch:c∉ch:=fun z=>(hch c z).2.2.1 x c e rfl
    by_cases hc:c∈X.fs
    · obtain⟨sl,q⟩:=slot c o (I.cne x c e) hc nch ho (I.freeC x c e)
      exact⟨_,q,hd⟩
    · exact⟨o,keep c o (I.cne x c e) hc nch ho (I.freeC x c e),hd⟩
  refine⟨I.ok,I.os,hg,⟨fun b o e n hb hx=>?_,fun b o e n hb hx=>?_,fun b o e n hx=>?_,fun b o e hx=>?_,fun b xs e=>tups b xs (I.base.tups b xs e),fun b o xs e=>frzs b o xs (I.base.frzs b o xs e),fun b ps e=>?_⟩,?_,fun x c e=>?_,?_,fun x c e=>?_,fun p hp=>?_,hok,I.len⟩
  · exact keep b o (neL b o e) hb (neC b o e hx) (I.base.keep b o e n hb hx) (I.base.free b o e n hx)
  · obtain⟨sl,e1⟩:=I.base.slot b o e n hb hx
    obtain⟨sl',e2⟩:=slot b _ (neL b o e) hb (neC b o e hx) e1 (I.base.free b o e n hx)
    exact⟨sl',e2⟩
  · obtain⟨o',e1⟩:=I.base.there b o e hx
    exact free b o' (neC b o e hx) e1 (I.base.free b o e n hx)
  · obtain⟨o',e1⟩:=I.base.there b o e hx
    exact there b o' (neC b o e hx) e1
  · obtain⟨m1,e1⟩:=I.base.tbls b ps e
    obtain⟨m2,e2⟩:=tbls b _ e1
    exact⟨m1++m2,by rw [e2,Array.append_assoc]⟩
  · obtain⟨m,hn,hl⟩:=I.loc
    refine⟨m,ns m hn,fun i x v e1 e2 e3=>?_⟩
    obtain⟨u,r,l⟩:=hl i x v e1 e2 e3
    refine⟨u,r,?_⟩
    rcases l with l | ⟨k,c,e,z⟩
    · exact .inl l
    · exact .inr ⟨k,c,e,cellK x c e _ z⟩
  · obtain⟨v,z⟩:=I.cell x c e
    exact⟨v,cellK x c e v z⟩
  · obtain⟨m,⟨o,_,_,ho,_⟩,_⟩:=I.loc
    exact free _ o (fun z=>(hch _ z).2.1 rfl) ho I.free
  · obtain⟨v,o,ho,hd⟩:=I.cell x c e
    exact free c o (fun z=>(hch c z).2.2.1 x c e rfl) ho (I.freeC x c e)
  · obtain⟨e,n,ne,nf,d⟩:=I.pin p hp
    have nch:p.1∉ch:=fun z=>(hch p.1 z).2.2.2 p hp rfl
    exact⟨keep p.1 p.2 ne nf nch e n,free p.1 p.2 nch e n,ne,nf,d⟩
theorem aI.un{t':Nat}(I:aI X pins σ H s)(u:Un X.fs [] H H' s.heap h')(hok:lE X.prog X.w H' h'):aI X pins σ H' {s with heap:=h',toks:=t'}:=by
  obtain⟨m,⟨o,es,ep,ho,r⟩,_⟩:=id I.loc
  obtain⟨sl,hL⟩:=u.any ho I.free ↥1
  exact I.step (g':=s.gens) (d':=s.drawn) (ch:=[]) (fun _ z=>nomatch z) (fun b o _ hb _ e n=>u.keep b o e n hb ↥1) (fun b o _ hb _ e n=>u.slot b o e n hb ↥1) (fun b o _ e n=>u.free b o e n ↥1) (fun b o _ e=>u.there b o e ↥1) u.tups u.frzs u.tbls (fun m' hm=>by
    obtain⟨o',es',ep',ho',r'⟩:=hm
    rw [ho] at ho';cases ho'
    exact⟨_,es',ep',hL,r'⟩) hok I.bare
theorem aI.call{g':Array GenState}{t':Nat}{d':Drawn}{ch:List MW}(I:aI X pins σ H s)(u:Un (zB X.stack) ch H H' s.heap h')(hok:lE X.prog X.w H' h')(hg:AllBare g')
    (hch:∀b∈ch,(b∈X.ex∨X.s₀.heap.objs.size≤b)∧b≠X.env.locals∧(∀x c,X.env.cells.lookup x=some c→c≠b)∧∀p∈X.pn++pins,p.1≠b):
    aI X pins σ H' {s with heap:=h',gens:=g',drawn:=d',toks:=t'}:=by
  obtain⟨m,⟨o,es,ep,ho,r⟩,_⟩:=id I.loc
  obtain⟨sl,hL⟩:=u.any ho I.free fun z=>(hch _ z).2.1 rfl
  exact I.step (ch:=ch) hch (fun b o hL hb hc e n=>u.keep b o e n (fun z=>(MU (I.stkSub b z)).elim hL hb) hc) (fun b o _ _ hc e n=>u.any e n hc) (fun b o hc e n=>u.free b o e n hc) (fun b o hc e=>u.there b o e hc) u.tups u.frzs u.tbls (fun m' hm=>by
    obtain⟨o',es',ep',ho',r'⟩:=hm
    rw [ho] at ho';cases ho'
    exact⟨_,es',ep',hL,r'⟩) hok hg
theorem aI.turned{t':Nat}{it:MW}(I:aI X pins σ H s)(k:∀b o,b≠it→s.heap.get? b=some o→h'.get? b=some o)(hn:H it=none)(hL:it≠X.env.locals)
    (h1:it∈X.ex∨X.s₀.heap.objs.size≤it)(h2:∀x c,X.env.cells.lookup x=some c→c≠it)(h3:∀p∈X.pn++pins,p.1≠it):aI X pins σ H {s with heap:=h',toks:=t'}:=by
  have nit:∀b u,H b=some u→b≠it:=fun b u e z=>by rw [z,hn] at e;cases e
  refine I.step (g':=s.gens) (d':=s.drawn) (ch:=[it]) (fun b hb=>?_) (fun b o _ _ hc e _=>k b o (fun z=>hc (by simp [z])) e) (fun b o _ _ hc e _=>⟨o.slots,k b o (fun z=>hc (by simp [z])) e⟩) (fun _ _ _ _ n=>n)
    (fun b o hc e=>⟨o,k b o (fun z=>hc (by simp [z])) e⟩) (fun _ _ e=>e) (fun _ _ _ e=>e) (fun b ps e=>⟨#[],by rw [e];simp⟩) (fun m hm=>?_) (fun b u e=>?_) I.bare
  · have e:b=it:=by simpa using hb
    subst e
    exact⟨h1,hL,h2,h3⟩
  · obtain⟨o,es,ep,ho,r⟩:=hm
    exact⟨o,es,ep,k _ o (NF hL) ho,r⟩
  · refine(I.hok b u e).stay (fun c v hc q=>k c v ?_ q) (fun _ q=>q) fun _ _ q=>q
    rcases hc with z | z
    · rw [z];exact nit b u e
    · exact nit c _ z
theorem aI.tok(I:aI X pins σ H s)(t:Nat):aI X pins σ H {s with toks:=t}:=I.un (h':=s.heap) (t':=t) Un.refl I.hok
theorem aI.kept{t':Nat}(I:aI X pins σ H s)(k:∀b u,s.heap.get? b=some u→h'.get? b=some u):aI X pins σ H {s with heap:=h',toks:=t'}:=I.un (Un.kept k) (I.hok.kept k)
theorem aI.laid{a:MW}{o:HO}{t':Nat}(I:aI X pins σ H s)(k:∀b u,s.heap.get? b=some u→h'.get? b=some u)(hp:↑s≤a)(new:dy X.prog X.w (bC H a o) h' a o):
    aI X pins σ (bC H a o) {s with heap:=h',toks:=t'}:=I.un (Un.laid k hp (I.hok.fresh hp)) (I.hok.laid k hp new)
theorem aI.write{x e:MW}{o:HO}{t':Nat}(I:aI X pins σ H s)(mu:GH (H x))(he:e=x∨H e=some (.own x))(k:∀b u,b≠e→s.heap.get? b=some u→h'.get? b=some u)(heo:∃u,h'.get? e=some u)
    (new:dy X.prog X.w (bC H x o) h' x o):aI X pins σ (bC H x o) {s with heap:=h',toks:=t'}:=I.un (Un.write mu he k heo) (I.hok.write mu he k heo new)
theorem aI.pins_of{pins':List (MW × Obj)}(I:aI X pins σ H s)(h:∀p∈pins',s.heap.get? p.1=some p.2∧H p.1=none∧p.1≠X.env.locals∧p.1∉X.fs∧∀v,p.2.data≠.cell v):aI X pins' σ H s:=
  ⟨I.ok,I.os,I.bare,I.base,I.loc,I.cell,I.free,I.freeC,fun p hp=>(MS hp).elim (fun z=>I.pin p (List.mem_append_left _ z)) (h p),I.hok,I.len⟩
theorem ua{N:List Str}(hN:N.Nodup){i j:Nat}{x:Str}(a:N[i]?=some x)(b:N[j]?=some x):i=j:=by
  obtain⟨h1,e1⟩:=MR a
  obtain⟨h2,e2⟩:=MR b
  exact(List.getElem_inj hN).mp (e1.trans e2.symm)
theorem qJ{M:Model}{A:Nn}{E:MX→MZ→Prop}{i:Nat}{x:Str}{v:V}{u:MX}{Q:Unit→MZ→Prop}(I:aI X pins σ H s)(hN:X.N.Nodup)(hi:X.N[i]?=some x)(hx:Ek X.env.scope x)(r:bv v u)
    (h:∀s',aI X pins (σ.set i (some v)) H s'→(∃a,PM a s.heap s'.heap∧(a=X.env.locals∨X.env.cells.lookup x=some a))→Q () s')(hf:X.fn x=true∨X.env.scope.names.lookup x=some .local:=by first | exact .inl rfl | exact .inr rfl | assumption):Nf M A (storeName X.env x u) Q E s:=by
  obtain⟨m,hn,hl⟩:=id I.loc
  have hcls:(X.env.scope.kind==.class || (X.env.scope.kind==.module&&X.env.locals != X.env.globals))=false:=by rw [I.ok.kind];rfl
  have hiσ:i < σ.length:=by rw [I.len];exact(MR hi).1
  have cne:=I.cne
  have tracked:∀{a:MW} {h':Nh},(∃o,s.heap.get? a=some o∧H a=none)→PM a s.heap h'→lE X.prog X.w H h':=fun{a h'} ha hs b ob e=>by
    obtain⟨_,_,hfree⟩:=ha
    refine(I.hok b ob e).stay (fun c w' hc q=>(hs.2 c ?_).trans q) (fun _ q=>q) fun _ _ q=>q
    rintro rfl
    rcases hc with rfl | hc
    · rw [hfree] at e;cases e
    · rw [hfree] at hc;cases hc
  rcases hx with hk | hk
  · refine wpAny_storeName_local hk hn (fun h' hn' hs=>?_) hcls
    obtain⟨oL,_,_,hoL,_⟩:=id hn
    refine h _ ⟨I.ok,I.os,I.bare,⟨fun b o e n hb hx=>?_,fun b o e n hb hx=>?_,I.base.free,fun b o e hx=>?_,I.base.tups,I.base.frzs,I.base.tbls⟩,⟨_,hn',fun j y v' e1 e2 e3=>?_⟩,fun y c e=>?_,I.free,I.freeC,fun p hp=>?_,tracked ⟨oL,hoL,I.free⟩ hs,by simpa using I.len⟩ ⟨_,hs,.inl rfl⟩
    · exact(hs.2 b (NJ (NV (Nu e) I.ok.above))).trans (I.base.keep b o e n hb hx)
    · obtain⟨sl,e1⟩:=I.base.slot b o e n hb hx
      exact⟨sl,(hs.2 b (NJ (NV (Nu e) I.ok.above))).trans e1⟩
    · obtain⟨o',e1⟩:=I.base.there b o e hx
      exact⟨o',(hs.2 b (NJ (NV (Nu e) I.ok.above))).trans e1⟩
    · by_cases hj:j=i
      · subst hj
        rw [hi] at e1;cases e1
        rw [Oc hiσ] at e2
        cases e2
        exact⟨u,r,.inl ⟨hk,by simp⟩⟩
      · rw [NG (NF hj)] at e2
        obtain⟨u',r',q⟩:=hl j y v' e1 e2 e3
        refine⟨u',r',?_⟩
        rcases q with ⟨k,e⟩ | ⟨k,c,e,z⟩
        · refine .inl ⟨k,?_⟩
          have:y≠x:=fun e=>hj (ua hN e1 (e ▸ hi))
          simp [this,e]
        · exact .inr ⟨k,c,e,z.sameBut hs (cne y c e)⟩
    · obtain⟨w',z⟩:=I.cell y c e
      exact⟨w',z.sameBut hs (cne y c e)⟩
    · obtain⟨e,n,ne,nf,d⟩:=I.pin p hp
      exact⟨(hs.2 p.1 ne).trans e,n,ne,nf,d⟩
  · have hfn:X.fn x=true:=by
      rcases hf with z | z
      · exact z
      · rw [z] at hk;cases hk
    obtain⟨c,hc⟩:=I.ok.has x (.inl hk)
    obtain⟨w',z⟩:=I.cell x c hc
    refine wpAny_storeName_cell I.ok.kind hk hc z (fun h' hc' hs=>?_)
    obtain⟨oc,hoc,hocd⟩:=id z
    refine h {s with heap:=h'} ⟨I.ok,I.os,I.bare,⟨fun b o e n hb hx=>?_,fun b o e n hb hx=>?_,I.base.free,fun b o e hx=>?_,I.base.tups,I.base.frzs,I.base.tbls⟩,⟨m,hn.sameBut hs (NF (cne x c hc)),fun j y v' e1 e2 e3=>?_⟩,fun y c' e=>?_,I.free,I.freeC,fun p hp=>?_,tracked ⟨oc,hoc,I.freeC x c hc⟩ hs,by simpa using I.len⟩ ⟨c,hs,.inr hc⟩
    · exact(hs.2 b (NJ (NV (Nu e) (I.ok.cab x c hfn hc)))).trans (I.base.keep b o e n hb hx)
    · obtain⟨sl,e1⟩:=I.base.slot b o e n hb hx
      exact⟨sl,(hs.2 b (NJ (NV (Nu e) (I.ok.cab x c hfn hc)))).trans e1⟩
    · obtain⟨o',e1⟩:=I.base.there b o e hx
      exact⟨o',(hs.2 b (NJ (NV (Nu e) (I.ok.cab x c hfn hc)))).trans e1⟩
    · by_cases hj:j=i
      · subst hj
        rw [hi] at e1;cases e1
        rw [Oc hiσ] at e2
        cases e2
        exact⟨u,r,.inr ⟨.inl hk,c,hc,hc'⟩⟩
      · rw [NG (NF hj)] at e2
        obtain⟨u',r',q⟩:=hl j y v' e1 e2 e3
        refine⟨u',r',?_⟩
        rcases q with q | ⟨k,c',e,z'⟩
        · exact .inl q
        · refine .inr ⟨k,c',e,z'.sameBut hs ?_⟩
          rintro rfl
          exact hj (ua hN e1 (I.ok.inj _ _ _ e hc ▸ hi))
    · by_cases hcc:c'=c
      · subst hcc;exact⟨_,hc'⟩
      · obtain⟨w2,z2⟩:=I.cell y c' e
        exact⟨w2,z2.sameBut hs hcc⟩
    · obtain⟨e,n,ne,nf,d⟩:=I.pin p hp
      refine⟨(hs.2 p.1 ?_).trans e,n,ne,nf,d⟩
      intro q
      rw [q,hoc] at e
      have q':oc=p.2:=NQ e
      exact d w' (by rw [←q'];exact hocd)
theorem lA{M:Model}{A:Nn}{E:MX→MZ→Prop}{i:Nat}{x:Str}{v:V}{u:MX}{Q:Unit→MZ→Prop}(I:aI X pins σ H s)(hN:X.N.Nodup)(hi:X.N[i]?=some x)(hx:Ek X.env.scope x)(r:bv v u)
    (h:∀s',aI X pins (σ.set i (some v)) H s'→Q () s')(hf:X.fn x=true∨X.env.scope.names.lookup x=some .local:=by first | exact .inl rfl | exact .inr rfl | assumption):Nf M A (storeName X.env x u) Q E s:=
  qJ I hN hi hx r (fun s' I' _=>h s' I') hf
theorem aI.call'{s':MZ}{ch:List MW}(I:aI X pins σ H s)(ho:s'.os=s.os)(u:Un (zB X.stack) ch H H' s.heap s'.heap)(hok:lE X.prog X.w H' s'.heap)(hg:AllBare s'.gens)
    (hch:∀b∈ch,(b∈X.ex∨X.s₀.heap.objs.size≤b)∧b≠X.env.locals∧(∀x c,X.env.cells.lookup x=some c→c≠b)∧∀p∈X.pn++pins,p.1≠b):aI X pins σ H' s':=by
  obtain⟨h',g',d',t',o'⟩:=s'
  have e:o'=s.os:=ho
  subst e
  exact I.call (g':=g') (t':=t') (d':=d') u hok hg hch
end
abbrev XK:=MX→Option MW→Hp→Prop
abbrev St:=List (Option V)
abbrev VK:=V→Hp→Prop
abbrev TE:=St→Hp→VK→Prop
abbrev TT:=St→Hp→(Bool→Hp→Prop)→Prop
abbrev TA:=St→Hp→(List V→Hp→Prop)→Prop
structure sZ where
  nx:St→Hp→Prop
  rt:VK
  bk:St→Hp→Prop:=fun _ _=>False
  ct:St→Hp→Prop:=fun _ _=>False
abbrev TS:=sZ→St→Hp→Prop
def EP(X:Cx)(pins:List (MW × Obj))(σ:St)(Q:VK)(u:MX)(s':MZ):Prop:=∃v H',aI X pins σ H' s'∧bv v u∧Q v H'
def TP(X:Cx)(pins:List (MW × Obj))(σ:St)(Q:Bool→Hp→Prop)(b:Bool)(s':MZ):Prop:=∃H',aI X pins σ H' s'∧Q b H'
def AP(X:Cx)(pins:List (MW × Obj))(σ:St)(Q:List V→Hp→Prop)(us:List MX)(s':MZ):Prop:=∃vs H',aI X pins σ H' s'∧aR vs us∧Q vs H'
def SP(X:Cx)(pins:List (MW × Obj))(D:sZ)(f:Flow)(s':MZ):Prop:=
  match f with
  | .next=>∃σ' H',aI X pins σ' H' s'∧D.nx σ' H'
  | .brk=>∃σ' H',aI X pins σ' H' s'∧D.bk σ' H'
  | .cont=>∃σ' H',aI X pins σ' H' s'∧D.ct σ' H'
  | .ret u=>∃v σ' H',aI X pins σ' H' s'∧bv v u∧D.rt v H'
def PE(X:Cx)(e:Na)(t:TE):Prop:=
  ∀(pins:List (MW × Obj)) (s:MZ) (σ:St) (H:Hp) (Q:VK),aI X pins σ H s→t σ H Q→Nf (Ni X.prog X.w) X.A (Nj e X.env) (EP X pins σ Q) X.xe s
def PT(X:Cx)(e:Na)(t:TT):Prop:=
  ∀(pins:List (MW × Obj)) (s:MZ) (σ:St) (H:Hp) (Q:Bool→Hp→Prop),aI X pins σ H s→t σ H Q→Nf (Ni X.prog X.w) X.A (isTrue e X.env (Nj e X.env)) (TP X pins σ Q) X.xe s
def PW(X:Cx)(e:Na)(t:TT):Prop:=
  ∀(whole:Sem MX) (pins:List (MW × Obj)) (s:MZ) (σ:St) (H:Hp) (Q:Bool→Hp→Prop),aI X pins σ H s→t σ H Q→Nf (Ni X.prog X.w) X.A (isTrue e X.env whole) (TP X pins σ Q) X.xe s
theorem PW.pt{X:Cx}{e:Na}{t:TT}(h:PW X e t):PT X e t:=h _
def PA(X:Cx)(es:List Na)(t:TA):Prop:=
  ∀(pos:Pos) (pins:List (MW × Obj)) (s:MZ) (σ:St) (H:Hp) (Q:List V→Hp→Prop),aI X pins σ H s→t σ H Q→Nf (Ni X.prog X.w) X.A (spliced (NO pos (Nl es X.env))) (AP X pins σ Q) X.xe s
def PS(X:Cx)(st:Nq)(t:TS):Prop:=
  ∀(pins:List (MW × Obj)) (s:MZ) (σ:St) (H:Hp) (D:sZ),aI X pins σ H s→t D σ H→Nf (Ni X.prog X.w) X.A (exec st X.env) (SP X pins D) X.xe s
def mM(X:Cx)(st:List Nq)(t:TS):Prop:=
  ∀(pins:List (MW × Obj)) (s:MZ) (σ:St) (H:Hp) (D:sZ),aI X pins σ H s→t D σ H→Nf (Ni X.prog X.w) X.A (execs st X.env) (SP X pins D) X.xe s
theorem cM{α:Type}{t:Sem α}{Q Q':α→MZ→Prop}{M:Model}{A:Nn}{E:MX→MZ→Prop}{s:MZ}(h:Nf M A t Q E s)(hQ:∀a s,Q a s→Q' a s):Nf M A t Q' E s:=NW h hQ fun _ _ x=>x
section
variable{X:Cx}
def Di(i:Nat):TE:=fun σ H Q=>∃v,σ[i]?=some (some v)∧Q v H
def tC(v:V):TE:=fun _ H Q=>Q v H
theorem iR{i:Nat}{x:Str}{pos:Pos}(hN:X.N[i]?=some x)(hv:yO X.env.scope x)(hd:(x==("__debug__":Str))=false:=by decide)(hcd:(x==("__classdict__":Str))=false:=by decide):PE X (.Name x pos) (Di i):=by
  intro pins s σ H Q I h
  obtain⟨v,e,h⟩:=h
  obtain⟨m,hn,hl⟩:=I.loc
  obtain⟨u,r,l⟩:=hl i x v hN e hv
  have fin:EP X pins σ Q u s:=⟨v,H,I,r,h⟩
  rcases l with ⟨hk,hm⟩ | ⟨hk,c,hc,hcell⟩
  · exact wpAny_Name (wpAny_loadName_local I.ok.kind hk hn hm fin) hd
  · rcases hk with hk | hk
    · exact wpAny_Name (wpAny_loadName_cell I.ok.kind hk hc hcell fin) hd
    · exact wpAny_Name (wpAny_loadName_free I.ok.kind hk hc hcell fin hcd) hd
theorem Fm{i j pos}:PE X (.Constant (.int i) j pos) (tC (.int i)):=fun _ _ _ H _ I h=>wpAny_Constant_int ⟨.int i,H,I.tok _,⟨_,rfl⟩,h⟩
theorem Ht{b j pos}:PE X (.Constant (.bool b) j pos) (tC (.bl b)):=fun _ _ _ H _ I h=>Constant_bool ⟨.bl b,H,I,rfl,h⟩
theorem Fn{j pos}:PE X (.Constant .none j pos) (tC .non):=fun _ _ _ H _ I h=>Constant_none ⟨.non,H,I,rfl,h⟩
def Gl(X:Cx)(x:Str):Prop:=X.env.kindOf x=some .globalImplicit
theorem wJ{E:MX→MZ→Prop}{pins:List (MW × Obj)}{s:MZ}{σ:St}{H:Hp}{x:Str}{u:MX}{pos:Pos}{Q:MX→MZ→Prop}(I:aI X pins σ H s)(hg:Gl X x)(hm:X.mg x=some u)(h:Q u s)
    (hd:(x==("__debug__":Str))=false:=by decide):Nf (Ni X.prog X.w) X.A (Nj (.Name x pos) X.env) Q E s:=
  Calls.Name_function_global I.ok.kind hg (Calls.loadGlobal_global (by rw [I.ok.glob];exact I.mod.glob.keeps I.bk) hm h) hd
theorem gr{E:MX→MZ→Prop}{pins:List (MW × Obj)}{s:MZ}{σ:St}{H:Hp}{x:Str}{u:MX}{pos:Pos}{Q:MX→MZ→Prop}(I:aI X pins σ H s)(hg:Gl X x)(hm:X.mg x=none)(hv:OX x=some u)(h:Q u s)
    (hn:x≠"__name__":=by decide)(hd:(x==("__debug__":Str))=false:=by decide):Nf (Ni X.prog X.w) X.A (Nj (.Name x pos) X.env) Q E s:=by
  obtain⟨mb,h1,h2⟩:=I.mod.blt
  exact Calls.Name_function_global I.ok.kind hg (Calls.loadGlobal_builtin (by rw [I.ok.glob];exact I.mod.glob.keeps I.bk) hm (by rw [I.ok.blt];exact h1.keeps I.bk) ((h2 x hn).trans hv) h) hd
theorem CN{x:Str}{v:V}{u:MX}{pos:Pos}(hg:Gl X x)(hm:X.mg x=some u)(r:bv v u)(hd:(x==("__debug__":Str))=false:=by decide):PE X (.Name x pos) (tC v):=
  fun _ _ _ H _ I h=>wJ I hg hm ⟨v,H,I,r,h⟩ hd
variable{a b:Na}{ta tb:TE}{pos:Pos}
def PC(X:Cx)(op:CmpOp)(a b:Na)(t:TE):Prop:=
  ∀(pins:List (MW × Obj)) (s:MZ) (σ:St) (H:Hp) (Q:VK),aI X pins σ H s→t σ H Q→
    Nf (Ni X.prog X.w) X.A (Nj a X.env) (fun v s₁=>Nf (Ni X.prog X.w) X.A (Nj b X.env) (fun u s₂=>Nf (Ni X.prog X.w) X.A (NU op v u) (EP X pins σ Q) X.xe s₂) X.xe s₁) X.xe s
def tB(t:TE):TT:=fun σ H Q=>t σ H fun x H1=>∃c,x=.bl c∧Q c H1
theorem Fx{e:Na}{t:TE}(h:PE X e t)(he:∀whole,isTrue e X.env whole=(do let v ←whole;Pk e.pos;NY [v] (truthy v)):=by intro _;rfl):PT X e (tB t):=by
  intro pins s σ H Q I hw
  refine isTrue_plain (cM (h pins s σ H _ I hw) fun v s1 ⟨x,H1,I1,r1,q1⟩=>?_) (he _)
  obtain⟨d,rfl,q⟩:=q1
  cases r1
  exact QA ⟨H1,I1,q⟩
variable{tA tB':TT}{dP:List Na}
def HV(t u:TT):TT:=fun σ H Q=>t σ H fun c H1=>if c=true then u σ H1 Q else Q false H1
def JY(t u:TT):TT:=fun σ H Q=>t σ H fun c H1=>if c=true then Q true H1 else u σ H1 Q
def HZ(t:TT):TT:=fun σ H Q=>t σ H fun c H1=>Q (!c) H1
theorem C5(ha:PT X a tA):PW X (.BoolOp .And [a] pos) tA:=by
  intro wh pins s σ H Q I h
  refine isTrue_and (cM (ha pins s σ H Q I h) fun c s1 e=>?_)
  cases c with
  | true=>exact isTrue_and_nil e
  | false=>exact e
theorem Fz(ha:PT X a tA):PW X (.BoolOp .Or [a] pos) tA:=by
  intro wh pins s σ H Q I h
  refine isTrue_or (cM (ha pins s σ H Q I h) fun c s1 e=>?_)
  cases c with
  | false=>exact isTrue_or_nil e
  | true=>exact e
theorem Fy(ha:PT X a tA)(hb:PW X (.BoolOp .And (b::dP) pos) tB'):PW X (.BoolOp .And (a::b::dP) pos) (HV tA tB'):=by
  intro wh pins s σ H Q I h
  refine isTrue_and (cM (ha pins s σ H _ I h) fun c s1 ⟨H1,I1,q1⟩=>?_)
  cases c with
  | true=>exact hb wh pins s1 σ H1 Q I1 q1
  | false=>exact⟨H1,I1,q1⟩
theorem HA(ha:PT X a tA)(hb:PW X (.BoolOp .Or (b::dP) pos) tB'):PW X (.BoolOp .Or (a::b::dP) pos) (JY tA tB'):=by
  intro wh pins s σ H Q I h
  refine isTrue_or (cM (ha pins s σ H _ I h) fun c s1 ⟨H1,I1,q1⟩=>?_)
  cases c with
  | true=>exact⟨H1,I1,q1⟩
  | false=>exact hb wh pins s1 σ H1 Q I1 q1
theorem Fw(ha:PT X a tA):PT X (.UnaryOp .Not a pos) (HZ tA):=by
  intro pins s σ H Q I h
  exact isTrue_not (ha pins s σ H (fun c H1=>Q (!c) H1) I h)
def HW(ta tb:TE):TE:=fun σ H Q=>ta σ H fun x H1=>∃c,x=.bl c∧if c=true then tb σ H1 Q else Q (.bl false) H1
def JA(ta tb:TE):TE:=fun σ H Q=>ta σ H fun x H1=>∃c,x=.bl c∧if c=true then Q (.bl true) H1 else tb σ H1 Q
theorem Fo{op}{t:TE}(h:PE X a t):PE X (.BoolOp op [a] pos) t:=fun pins s σ H Q I hw=>BoolOp_one (h pins s σ H Q I hw)
theorem Fk(ha:PE X a ta)(hb:PE X (.BoolOp .And (b::dP) pos) tb):PE X (.BoolOp .And (a::b::dP) pos) (HW ta tb):=by
  intro pins s σ H Q I h
  refine BoolOp_and (cM (ha pins s σ H _ I h) fun v s1 ⟨x,H1,I1,r1,q1⟩=>?_)
  obtain⟨c,rfl,q1⟩:=q1
  cases r1
  refine QA ?_
  cases c with
  | true=>exact hb pins s1 σ H1 Q I1 q1
  | false=>exact⟨.bl false,H1,I1,rfl,q1⟩
theorem Hv(ha:PE X a ta)(hb:PE X (.BoolOp .Or (b::dP) pos) tb):PE X (.BoolOp .Or (a::b::dP) pos) (JA ta tb):=by
  intro pins s σ H Q I h
  refine BoolOp_or (cM (ha pins s σ H _ I h) fun v s1 ⟨x,H1,I1,r1,q1⟩=>?_)
  obtain⟨c,rfl,q1⟩:=q1
  cases r1
  refine QA ?_
  cases c with
  | false=>exact hb pins s1 σ H1 Q I1 q1
  | true=>exact⟨.bl true,H1,I1,rfl,q1⟩
def Kk(t:TT)(ta tb:TE):TE:=fun σ H Q=>t σ H fun c H1=>if c=true then ta σ H1 Q else tb σ H1 Q
theorem Az{c:Na}(hc:PT X c tA)(ha:PE X a ta)(hb:PE X b tb):PE X (.IfExp c a b pos) (Kk tA ta tb):=by
  intro pins s σ H Q I h
  refine wpAny_IfExp (cM (hc pins s σ H _ I h) fun d s1 ⟨H1,I1,q1⟩=>?_)
  cases d with
  | true=>exact ha pins s1 σ H1 Q I1 q1
  | false=>exact hb pins s1 σ H1 Q I1 q1
end
def gC(K:⇑0)(H:Hp)(a:MW)(xs:List V):Prop:=
  Rd H a (.lst xs)∨
    ∃(o:Obj) (its:Array MX) (n:Nat),K.lookup a=some o∧o.cls=.type "list"∧o.dict=none∧o.data=.seq its n∧its.size≤Nr∧aR xs its.toList
def dz(K:⇑0)(H:Hp)(a:MW)(xs:List V):Prop:=
  Rd H a (.tup xs)∨
    ∃(o:Obj) (its:Array MX) (n:Nat),K.lookup a=some o∧o.cls=.type "tuple"∧o.dict=none∧o.data=.seq its n∧its.size≤Nr∧aR xs its.toList
def IY:MX→Option V
  | .none=>some .non
  | .bool b=>some (.bl b)
  | .int i _=>some (.int i)
  | .str x _=>some (.str x)
  | .bytes b _=>some (.byt b)
  | .float b _=>some (.flt b)
  | .ref a=>some (.ref a)
  | .type n=>some (.ty n)
  | _=>none
theorem bv.abs{x:V}{u:MX}(r:bv x u):IY u=some x:=by
  cases x with
  | non=>cases r;rfl
  | bl _=>cases r;rfl
  | int _=>obtain⟨t,rfl⟩:=r;rfl
  | str _=>obtain⟨t,rfl⟩:=r;rfl
  | byt _=>obtain⟨t,rfl⟩:=r;rfl
  | flt _=>obtain⟨t,rfl⟩:=r;rfl
  | ref _=>cases r;rfl
  | ty _=>cases r;rfl
theorem bv.inj{x y:V}{u:MX}(r:bv x u)(q:bv y u):x=y:=NQ (r.abs.symm.trans q.abs)
theorem aR.inj:∀{xs ys:List V} {us:List MX},aR xs us→aR ys us→xs=ys
  | _,_,_,.nil,.nil=>rfl
  | _,_,_,.cons r t,.cons r' t'=>by rw [r.inj r',aR.inj t t']
section
variable{X:Cx}{pins:List (MW × Obj)}{σ:St}{H:Hp}{s:MZ}{a:MW}{xs ys:List V}
theorem dz.of{K:⇑0}(h:H a=some (.tup xs)):dz K H a xs:=.inl (.inl h)
theorem aI.list(I:aI X pins σ H s)(h:gC X.K H a xs):∃its:List MX,aR xs its∧PlainL s.heap a its.toArray∧xs.length≤Nr:=by
  rcases h with h | ⟨o,its,n,hk,hc,hd,hs,hz,r⟩
  · obtain⟨z,its,n,r,e⟩:=h.ok I.hok
    exact⟨its,r,⟨_,n,e,rfl,rfl,rfl⟩,z⟩
  · refine⟨its.toList,r,⟨o,n,I.kIn a o hk,hc,hd,by simpa using hs⟩,?_⟩
    have e:=r.length
    simp only [QB] at e
    lia
theorem aI.tuple(I:aI X pins σ H s)(h:dz X.K H a xs):∃its:List MX,aR xs its∧IsTup s.heap a its.toArray∧xs.length≤Nr:=by
  rcases h with h | ⟨o,its,n,hk,hc,_,hs,hz,r⟩
  · obtain⟨z,its,r,p⟩:=h.ok I.hok
    exact⟨its,r,p.tup,z⟩
  · refine⟨its.toList,r,⟨o,I.kIn a o hk,hc,n,by simpa using hs⟩,?_⟩
    have e:=r.length
    simp only [QB] at e
    lia
theorem aI.list_inj(I:aI X pins σ H s)(h:gC X.K H a xs)(h':gC X.K H a ys):xs=ys:=by
  obtain⟨its,r,⟨o,n,e,_,_,d⟩,_⟩:=I.list h
  obtain⟨its',r',⟨o',n',e',_,_,d'⟩,_⟩:=I.list h'
  rw [e] at e';cases e'
  rw [d] at d'
  injection d' with d1 _
  have:its=its':=by simpa using congrArg Array.toList d1
  subst this
  exact r.inj r'
theorem aI.tuple_inj(I:aI X pins σ H s)(h:dz X.K H a xs)(h':dz X.K H a ys):xs=ys:=by
  obtain⟨its,r,⟨o,e,_,n,d⟩,_⟩:=I.tuple h
  obtain⟨its',r',⟨o',e',_,n',d'⟩,_⟩:=I.tuple h'
  rw [e] at e';cases e'
  rw [d] at d'
  injection d' with d1 _
  have:its=its':=by simpa using congrArg Array.toList d1
  subst this
  exact r.inj r'
end
abbrev Cx.wish(X:Cx)(E:MX→MZ→Prop):Cx:={X with xe:=E}
abbrev Cx.nox(X:Cx):Cx:=X.wish fun _ _=>False
theorem Cx.Ok.wish{X:Cx}(ok:X.Ok)(E:MX→MZ→Prop):(X.wish E).Ok:=
  ⟨ok.mod,ok.kind,ok.glob,ok.blt,ok.above,ok.inj,ok.has,ok.cab,ok.hd,ok.frames,ok.stk,ok.exf,ok.bs,ok.bsz,ok.noex,ok.exfs,ok.funs,ok.frf⟩
theorem Cx.Ok.unwish{X:Cx}{E:MX→MZ→Prop}(ok:(X.wish E).Ok):X.Ok:=
  ⟨ok.mod,ok.kind,ok.glob,ok.blt,ok.above,ok.inj,ok.has,ok.cab,ok.hd,ok.frames,ok.stk,ok.exf,ok.bs,ok.bsz,ok.noex,ok.exfs,ok.funs,ok.frf⟩
section
variable{X:Cx}{pins:List (MW × Obj)}{σ:St}{H:Hp}{s:MZ}{E:MX→MZ→Prop}
theorem aI.wish(I:aI X pins σ H s)(E:MX→MZ→Prop):aI (X.wish E) pins σ H s:=⟨I.ok.wish E,I.os,I.bare,I.base,I.loc,I.cell,I.free,I.freeC,I.pin,I.hok,I.len⟩
theorem aI.unwish(I:aI (X.wish E) pins σ H s):aI X pins σ H s:=⟨I.ok.unwish,I.os,I.bare,I.base,I.loc,I.cell,I.free,I.freeC,I.pin,I.hok,I.len⟩
theorem SP.unwish{D:sZ}{f:Flow}{s':MZ}(h:SP (X.wish E) pins D f s'):SP X pins D f s':=by
  cases f with
  | next=>obtain⟨σ',H',I,q⟩:=h;exact⟨σ',H',I.unwish,q⟩
  | brk=>obtain⟨σ',H',I,q⟩:=h;exact⟨σ',H',I.unwish,q⟩
  | cont=>obtain⟨σ',H',I,q⟩:=h;exact⟨σ',H',I.unwish,q⟩
  | ret u=>obtain⟨v,σ',H',I,r,q⟩:=h;exact⟨v,σ',H',I.unwish,r,q⟩
theorem mM.nox{st:List Nq}{t:TS}(h:mM X.nox st t):mM X st t:=fun pins s σ H D I hw=>
  NW (h pins s σ H D (I.wish _) hw) (fun _ _ q=>q.unwish) fun _ _ z=>Pl z
end
section
variable{X:Cx}{st:Nq}{dP:List Nq}{t u:TS}{e:Na}{te:TE}{pos:Pos}
def HY:TS:=fun D σ H=>D.nx σ H
def JE(t u:TS):TS:=fun D σ H=>t {D with nx:=u D} σ H
theorem C0:mM X [] HY:=fun _ _ σ H _ I h=>Rm ⟨σ,H,I,h⟩
theorem AR(h1:PS X st t)(h2:mM X dP u):mM X (st::dP) (JE t u):=by
  intro pins s σ H D I h
  refine wpAny_execs_cons (cM (h1 pins s σ H {D with nx:=u D} I h) fun f s1 q=>?_)
  cases f with
  | next=>
    obtain⟨σ',H',I',q⟩:=q
    exact h2 pins s1 σ' H' D I' q
  | ret v=>exact q
  | brk=>exact q
  | cont=>exact q
theorem C1(h1:PS X st t):mM X [st] t:=by
  intro pins s σ H D I h
  refine wpAny_execs_cons (cM (h1 pins s σ H D I h) fun f s1 q=>?_)
  cases f with
  | next=>exact Rm q
  | ret v=>exact q
  | brk=>exact q
  | cont=>exact q
theorem aI.quiet{pins:List (MW × Obj)}{σ:St}{H:Hp}{s:MZ}(I:aI X pins σ H s):interactive X.env=false:=by simp [interactive,I.ok.kind]
def HX(te:TE):TS:=fun D σ H=>te σ H fun _ H1=>D.nx σ H1
theorem wR(he:PE X e te)(hs:PN e none pos.line X.env=pure false:=by rfl):PS X (.Expr e pos) (HX te):=by
  intro pins s σ H D I h
  exact wpAny_Expr_any (cM (he pins s σ H _ I h) fun v s1 ⟨x,H1,I1,r1,q1⟩=>⟨σ,H1,I1,q1⟩) I.quiet hs
def JD(te:TE):TS:=fun D σ H=>te σ H D.rt
theorem AN(he:PE X e te):PS X (.Return (some e) pos) (JD te):=by
  intro pins s σ H D I h
  exact wpAny_Return_some (cM (he pins s σ H _ I h) fun v s1 ⟨x,H1,I1,r1,q1⟩=>⟨x,σ,H1,I1,r1,q1⟩)
def Jx(c:TT)(t u:TS):TS:=fun D σ H=>c σ H fun b H1=>if b=true then t D σ H1 else u D σ H1
theorem Hz{c:Na}{a b:List Nq}{tc:TT}(hc:PT X c tc)(ha:mM X a t)(hb:mM X b u):PS X (.If c a b pos) (Jx tc t u):=by
  intro pins s σ H D I h
  refine wpAny_If (cM (hc pins s σ H _ I h) fun d s1 ⟨H1,I1,q1⟩=>?_)
  cases d with
  | true=>exact ha pins s1 σ H1 D I1 q1
  | false=>exact hb pins s1 σ H1 D I1 q1
end
abbrev TG:=V→St→Hp→(St→Hp→Prop)→Prop
abbrev BI:=List V→St→Hp→(St→Hp→Prop)→Prop
def PG(X:Cx)(target:Na)(t:TG):Prop:=
  ∀(pins:List (MW × Obj)) (s:MZ) (σ:St) (H:Hp) (v:V) (u:MX) (Q:St→Hp→Prop),aI X pins σ H s→bv v u→t v σ H Q→
    Nf (Ni X.prog X.w) X.A (Od target X.env u) (fun _ s'=>∃σ' H',aI X pins σ' H' s'∧Q σ' H') X.xe s
def yI(X:Cx)(ts:List Na)(t:BI):Prop:=
  ∀(pins:List (MW × Obj)) (s:MZ) (σ:St) (H:Hp) (vs:List V) (us:List MX) (Q:St→Hp→Prop),aI X pins σ H s→aR vs us→t vs σ H Q→
    Nf (Ni X.prog X.w) X.A (assignInOrder ((Ol ts X.env).map (·.2)) us) (fun _ s'=>∃σ' H',aI X pins σ' H' s'∧Q σ' H') X.xe s
abbrev Er:=V→V→V→Hp→(Hp→Prop)→Prop
def GI(X:Cx)(t:Er):Prop:=
  ∀(pins:List (MW × Obj)) (s:MZ) (σ:St) (H:Hp) (o i v:V) (ov iv u:MX) (Q:Hp→Prop),aI X pins σ H s→bv o ov→bv i iv→bv v u→t o i v H Q→
    Nf (Ni X.prog X.w) X.A (setItem ov iv u) (fun _ s'=>∃H',aI X pins σ H' s'∧Q H') X.xe s
section
variable{X:Cx}{pos:Pos}
def zJ(i:Nat):TG:=fun v σ H Q=>Q (σ.set i (some v)) H
theorem CO{i:Nat}{x:Str}(hN:X.N.Nodup)(hi:X.N[i]?=some x)(hx:Ek X.env.scope x)(hf:X.fn x=true∨X.env.scope.names.lookup x=some .local:=by first | exact .inl rfl | exact .inr rfl | assumption):PG X (.Name x pos) (zJ i):=by
  intro pins s σ H v u Q I r h
  exact wpAny_assign_Name (lA I hN hi hx r (fun s' I'=>⟨_,H,I',h⟩) hf)
def I0:BI:=fun vs σ H Q=>vs=[]∧Q σ H
def GY(t:TG)(u:BI):BI:=fun vs σ H Q=>∃v r,vs=v::r∧t v σ H fun σ' H'=>u r σ' H' Q
theorem CQ:yI X [] I0:=by
  intro pins s σ H vs us Q I r h
  obtain⟨e,h⟩:=h
  subst e
  cases r
  exact assignInOrder_nil ⟨σ,H,I,h⟩
theorem AD{e:Na}{es:List Na}{t:TG}{u:BI}(h1:PG X e t)(h2:yI X es u)
    (hs:(Ol (e::es) X.env).map (·.2)=Od e X.env::(Ol es X.env).map (·.2):=by rfl):yI X (e::es) (GY t u):=by
  intro pins s σ H vs us Q I r h
  obtain⟨v,vr,e1,h⟩:=h
  subst e1
  cases r with
  | cons r rr=>
    rw [hs]
    refine assignInOrder_cons (cM (h1 pins s σ H _ _ _ I r h) fun _ s1 ⟨σ1,H1,I1,q1⟩=>?_)
    exact h2 pins s1 σ1 H1 _ _ Q I1 rr q1
def G1(K:⇑0)(n:Nat)(t:BI):TG:=fun v σ H Q=>∃a xs,v=.ref a∧dz K H a xs∧xs.length=n∧t xs σ H Q
theorem Fs{es:List Na}{k:Nat}{t:BI}{n:Nat}(hc:X.calm=true)(h:yI X es t)
    (hn:(Ol es X.env).length=n:=by rfl)(hst:(Ol es X.env).findIdx? (·.1)=none:=by rfl):PG X (.Tuple es k pos) (G1 X.K n t):=by
  intro pins s σ H v u Q I r hw
  obtain⟨a,xs,e1,hq,hl,hw⟩:=hw
  subst e1
  cases r
  obtain⟨its,rv,ht,hz⟩:=I.tuple hq
  refine assign_Tuple_tuple (I.ok.hd hc) ht (by simp [hn,←hl,rv.length]) hst fun h' hx=>?_
  have I1:aI X pins σ H {s with heap:=h'}:=I.kept (t':=s.toks) fun b o e=>hx b o (NJ (Nu e)) e
  exact h pins _ σ H xs _ Q I1 (by simpa using rv) hw
def Jb(to ti:TE)(t:Er):TG:=fun v σ H Q=>to σ H fun o H1=>ti σ H1 fun i H2=>t o i v H2 fun H3=>Q σ H3
theorem vH{o i:Na}{to ti:TE}{t:Er}(ho:PE X o to)(hi:PE X i ti)(hs:GI X t)
    (ha:∀v,Od (.Subscript o i pos) X.env v=(do
      let ov ←NY [v] (Nj o X.env)
      let iv ←NY [v,ov] (Nj i X.env)
      Pk pos
      NY [v,ov,iv] (setItem ov iv v)
      release [v,ov,iv] []):=by intro _;rfl):PG X (.Subscript o i pos) (Jb to ti t):=by
  intro pins s σ H v u Q I r h
  rw [ha]
  refine Nc (Pm (cM (ho pins s σ H _ I h) fun ov s1 ⟨x,H1,I1,r1,q1⟩=>?_))
  refine Nc (Pm (cM (hi pins s1 σ H1 _ I1 q1) fun iv s2 ⟨y,H2,I2,r2,q2⟩=>?_))
  refine Nc (QC (Nc (Pm (cM (hs pins s2 σ H2 x y v ov iv u _ I2 r1 r2 r q2) fun _ s3 ⟨H3,I3,q3⟩=>?_))))
  exact wpAny_release ⟨σ,H3,I3,q3⟩
def Ga(te:TE)(g:TG):TS:=fun D σ H=>te σ H fun x H1=>g x σ H1 D.nx
theorem su{tg e:Na}{te:TE}{g:TG}(he:PE X e te)(hg:PG X tg g)(hs:PQ [tg] e pos.line X.env=pure false:=by rfl)(hw:PU [tg] e X.env=pure none:=by rfl)
    (h1:(Ol [tg] X.env).map (·.2)=[Od tg X.env]:=by rfl):PS X (.Assign [tg] e pos) (Ga te g):=by
  intro pins s σ H D I h
  refine wpAny_Assign_stores (cM (he pins s σ H _ I h) fun v s1 ⟨x,H1,I1,r1,q1⟩=>?_) hs hw
  rw [h1]
  exact cM (hg pins s1 σ H1 x v _ I1 r1 q1) fun _ s2 q=>q
theorem AO{i:Nat}{x:Str}{e:Na}{te:TE}{pos':Pos}(hN:X.N.Nodup)(hi:X.N[i]?=some x)(hx:Ek X.env.scope x)(he:PE X e te)(hs:PN e (some (.Name x pos')) pos.line X.env=pure false:=by rfl)(hf:X.fn x=true∨X.env.scope.names.lookup x=some .local:=by first | exact .inl rfl | exact .inr rfl | assumption):
    PS X (.Assign [.Name x pos'] e pos) (Ga te (zJ i)):=by
  intro pins s σ H D I h
  refine wpAny_Assign_Name (cM (he pins s σ H _ I h) fun v s1 ⟨y,H1,I1,r1,q1⟩=>?_) hs
  exact lA I1 hN hi hx r1 (fun s2 I2=>⟨_,H1,I2,q1⟩) hf
def JC(i j:Nat)(ta:TA):TS:=fun D σ H=>ta σ H fun vs H1=>∃v w,vs=[v,w]∧D.nx ((σ.set i (some v)).set j (some w)) H1
theorem AM{i j:Nat}{x y:Str}{a b:Na}{ta:TA}{px py pt:Pos}{kt k2 pt2}(hc:X.calm=true)(hN:X.N.Nodup)(hi:X.N[i]?=some x)(hj:X.N[j]?=some y)(hij:i≠j)
    (hx:X.env.scope.names.lookup x=some .local)(hy:X.env.scope.names.lookup y=some .local)(ha:PA X [a,b] ta)
    (hw:PU [.Tuple [.Name x px,.Name y py] kt pt] (.Tuple [a,b] k2 pt2) X.env=pure (some [x,y]))
    (hs:PQ [.Tuple [.Name x px,.Name y py] kt pt] (.Tuple [a,b] k2 pt2) pos.line X.env=pure false:=by rfl):
    PS X (.Assign [.Tuple [.Name x px,.Name y py] kt pt] (.Tuple [a,b] k2 pt2) pos) (JC i j ta):=by
  intro pins s σ H D I h
  rw [exec_Assign_arm]
  refine Nc (QC ?_)
  rw [hs]
  refine Nc (Nm ?_)
  rw [if_neg ⋯]
  refine Nc (Tuple_ (cM (ha _ pins s σ H _ I h) fun us s1 ⟨vs,H1,I1,r1,q1⟩=>?_))
  obtain⟨v,w,e1,q1⟩:=q1
  subst e1
  obtain⟨u1,u2,rfl,rv,rw'⟩:∃u1 u2,us=[u1,u2]∧bv v u1∧bv w u2:=by
    cases r1 with
    | cons p q=>
      cases q with
      | cons p' q'=>
        cases q'
        exact⟨_,_,rfl,p,p'⟩
  refine Ow ?_ (by show 2≤Nr;decide)
  have I2:aI X pins σ H1 {s1 with heap:=s1.heap.push {cls:=.type "tuple",data:=.seq [u1,u2].toArray}}:=I1.kept (t':=s1.toks) fun b o e=>Nz _ e
  rw [hw]
  refine Nc (Nm ?_)
  show Nf (Ni X.prog X.w) X.A (do rule "assign.swapped-stores";let items ←unpackItems (.ref ↑s1) 2 none;assignInOrder [fun v=>bindName X.env y v,fun v=>bindName X.env x v] items.reverse;pure Flow.next) _ _ _
  refine Nc (wpAny_rule (Nc (unpackItems_tuple (items:=#[u1,u2]) (I.ok.hd hc) (IsTup.new s1.heap _) fun h' hx'=>?_)))
  have I3:=I2.kept (h':=h') (t':=s1.toks) fun b o e=>hx' b o (NJ (Nu e)) e
  show Nf _ _ (assignInOrder [fun v=>bindName X.env y v,fun v=>bindName X.env x v] [u2,u1] >>= fun _=>pure Flow.next) _ _ _
  refine Nc (assignInOrder_cons (wpAny_bindName (lA I3 hN hj (.inl hy) rw' (fun s2 I4=>?_) (.inr hy))))
  refine assignInOrder_cons (wpAny_bindName (lA I4 hN hi (.inl hx) rv (fun s3 I5=>assignInOrder_nil (Nm ?_)) (.inr hx)))
  rw [List.set_comm _ _ (NF hij)] at I5
  exact⟨_,H1,I5,q1⟩
end
section
variable{X:Cx}{pos:Pos}
def Ge(c:TT)(tb:TS):TS:=fun D σ H=>∃W:Nat→St→Hp→Prop,(∃m,W m σ H)∧∀m σ H,W m σ H→
  c σ H fun b H1=>if b=true then ∃N:St→Hp→Prop,(∀σ' H',N σ' H'→∃m',m' < m∧W m' σ' H')∧tb {D with nx:=N,ct:=N,bk:=D.nx} σ H1 else D.nx σ H1
theorem AQ{c:Na}{body:List Nq}{tc:TT}{tb:TS}(hp:PassesOwn (Ni X.prog X.w) X.A X.env X.xe)(hc:PT X c tc)(hb:mM X body tb):PS X (.While c body [] pos) (Ge tc tb):=by
  intro pins s σ H D I h
  obtain⟨W,⟨m0,w0⟩,turn⟩:=h
  refine wpAny_While (codeAny_whileLoop (fun n s'=>∃σ' H',aI X pins σ' H' s'∧W n σ' H') ?_ m0 ⟨σ,H,I,w0⟩)
  rintro n s1 ⟨σ1,H1,I1,w1⟩
  refine Qf hp (cM (hc pins s1 σ1 H1 _ I1 (turn n σ1 H1 w1)) fun b s2 ⟨H2,I2,q2⟩=>?_)
  cases b with
  | true=>
    obtain⟨N,hN,q2⟩:=q2
    rw [if_pos rfl]
    refine Qf hp (cM (hb pins s2 σ1 H2 _ I2 q2) fun f s3 q3=>?_)
    cases f with
    | next=>
      obtain⟨σ3,H3,I3,n3⟩:=q3
      obtain⟨m',hm,w3⟩:=hN σ3 H3 n3
      exact⟨m',hm,σ3,H3,I3,w3⟩
    | cont=>
      obtain⟨σ3,H3,I3,n3⟩:=q3
      obtain⟨m',hm,w3⟩:=hN σ3 H3 n3
      exact⟨m',hm,σ3,H3,I3,w3⟩
    | brk=>exact q3
    | ret v=>exact q3
  | false=>
    rw [if_neg Pn]
    exact Rm ⟨σ1,H2,I2,q2⟩
end
structure It where
  go:Nat→Hp→Prop
  yld:Nat→Hp→V→Hp→Prop
  stop:Nat→Hp→Prop
def gS(X:Cx)(pins:List (MW × Obj))(H:Hp)(b:MW):Prop:=
  H b=none∧b≠X.env.locals∧b∉X.fs∧(b∈X.ex∨X.s₀.heap.objs.size≤b)∧(∀x c,X.env.cells.lookup x=some c→c≠b)∧∀p∈X.pn++pins,p.1≠b
theorem aI.fpOk{X:Cx}{pins:List (MW × Obj)}{σ:St}{H H':Hp}{s:MZ}{b:MW}(I:aI X pins σ H s)(hb:↑s≤b)(hn:H' b=none):gS X pins H' b:=by
  refine⟨hn,QR (NV I.lt hb),I.nofs hb,.inr (NS I.sz hb),fun x c e z=>?_,fun p hp z=>?_⟩
  · obtain⟨v,q⟩:=I.cell x c e
    exact absurd (NV q.lt (by rw [z];exact hb)) (OW _)
  · exact absurd (NV (Nu (I.pin p hp).1) (by rw [z];exact hb)) (OW _)
structure uT (P:Nk) (w:Ng) (K:⇑0) (tg:Na) (J:It) (fp:List MW) (it:MW) (tn:Nat→Nh→Prop):Prop where
  mem:it∈fp
  obj:∀i h,tn i h→∀b∈fp,∃o,h.get? b=some o∧∀v,o.data≠.cell v
  keep:∀i h h',tn i h→(∀b∈fp,∀o,h.get? b=some o→h'.get? b=some o)→tn i h'
  item:∀(X:Cx),X.prog=P→X.w=w→X.K=K→X.calm=true→∀(i:Nat) (pins:List (MW × Obj)) (s:MZ) (σ:St) (H:Hp) (E:MX→MZ→Prop),aI X pins σ H s→(∀b∈fp,gS X pins H b)→tn i s.heap→J.go i H→
    Nf (Ni P w) X.A (OJ (.ref it)) (fun r s1=>∃u,r=some u∧
      Nf (Ni P w) X.A (QD tg (.ref it) u) (fun _ s2=>∃x H',aI X pins σ H' s2∧bv x u∧J.yld i H x H'∧tn (i+1) s2.heap∧∀b∈fp,H' b=none) E s1) E s
  done:∀(X:Cx),X.prog=P→X.w=w→X.K=K→X.calm=true→∀(i:Nat) (pins:List (MW × Obj)) (s:MZ) (σ:St) (H:Hp) (E:MX→MZ→Prop),aI X pins σ H s→(∀b∈fp,gS X pins H b)→tn i s.heap→J.stop i H→
    Nf (Ni P w) X.A (OJ (.ref it)) (fun r s1=>r=none∧aI X pins σ H s1) E s
  self:∀(A:Nn) (i:Nat) (s:MZ) (Q:MX→MZ→Prop) (E:MX→MZ→Prop),tn i s.heap→Q (.ref it) s→Nf (Ni P w) A (pyIter (.ref it)) Q E s
abbrev TI:=St→Hp→(It→Hp→Prop)→Prop
def JN(X:Cx)(pins:List (MW × Obj))(σ:St)(tg:Na)(R:It→Hp→Prop)(itv:MX)(s2:MZ):Prop:=
  ∃(it:MW) (fp:List MW) (tn:Nat→Nh→Prop) (J:It) (H':Hp),itv=.ref it∧aI X pins σ H' s2∧uT X.prog X.w X.K tg J fp it tn∧tn 0 s2.heap∧(∀b∈fp,gS X pins H' b)∧R J H'
def PI(X:Cx)(tg iter:Na)(wi:TI):Prop:=
  ∀(pins:List (MW × Obj)) (s:MZ) (σ:St) (H:Hp) (R:It→Hp→Prop),aI X pins σ H s→wi σ H R→
    Nf (Ni X.prog X.w) X.A (Nj iter X.env) (fun v s1=>Nf (Ni X.prog X.w) X.A (pyIter v) (JN X pins σ tg R) X.xe s1) X.xe s
theorem zP{M:Model}{A:Nn}{E:MX→MZ→Prop}{s:MZ}{tg:Na}{it:MW}{u:MX}{o:Obj}{n:String}{vs:Array MX}{Q:Unit→MZ→Prop}(ho:s.heap.get? it=some o)(hc:o.cls=.type n)(hd:o.data=.fields vs)
    (hn:["enumerate","zip","dict_itemiterator","dict_reverseitemiterator","odict_iterator","itertools.zip_longest","itertools.pairwise"].contains n=false)(hQ:Q () s):Nf M A (QD tg (.ref it) u) Q E s:=by
  unfold QD
  cases tg<;>first
    | exact Nm hQ
    | (cases u<;>first
        | exact Nm hQ
        | (refine Nc (wpAny_load ho ?_)
           rw [hc,hd]
           show Nf M A (if (["enumerate","zip","dict_itemiterator","dict_reverseitemiterator","odict_iterator","itertools.zip_longest","itertools.pairwise"].contains n&&vs[0]?==some (rawInt _))=true then _ else _) Q E s
           rw [if_neg (by intro h;rw [hn,Bool.false_and] at h;cases h)]
           exact Nm hQ))
def IK(K:⇑0)(a:MW):It:=
  ⟨fun i H=>∃xs x,gC K H a xs∧xs[i]?=some x,fun i H x H'=>H'=H∧∀xs,gC K H a xs→xs[i]?=some x,fun i H=>∃xs,gC K H a xs∧xs.length≤i⟩
def IL(K:⇑0)(a:MW):It:=
  ⟨fun i H=>∃xs x,dz K H a xs∧xs[i]?=some x,fun i H x H'=>H'=H∧∀xs,dz K H a xs→xs[i]?=some x,fun i H=>∃xs,dz K H a xs∧xs.length≤i⟩
def GD(lo:Int)(n:Nat):It:=⟨fun i _=>i < n,fun i H x H'=>H'=H∧x=.int (lo+i),fun i _=>n≤i⟩
theorem yB{P:Nk}{w:Ng}{K:⇑0}{tg:Na}(a it:MW):uT P w K tg (IK K a) [it] it (fun i h=>h.IsListIter it a i) where
  mem:=by simp
  obj:=fun i h st b hb=>by
    have e:b=it:=by simpa using hb
    subst e
    obtain⟨o,e,c,d⟩:=st
    exact⟨o,e,fun v z=>by rw [d] at z;cases z⟩
  keep:=fun i h h' st k=>st.at fun o e=>k it ↥1 o e
  item:=by
    intro X hP hw hK hc i pins s σ H E I hf st hg
    subst hP hw hK
    obtain⟨xs,x,hq,hx⟩:=hg
    obtain⟨its,rv,p,hz⟩:=I.list hq
    obtain⟨u,hu,ru⟩:=rv.get hx
    obtain⟨f0,f1,f2,f3,f4,f5⟩:=hf it ↥1
    refine wpAny_pyNext_list_item st p.isList (x:=u) (by simpa using hu) fun h' st' sb=>?_
    have I1:aI X pins σ H {s with heap:=h'}:=I.turned (t':=s.toks) (fun b o hb e=>(sb.2 b hb).trans e) f0 f1 f3 f4 f5
    obtain⟨o,e,c,d⟩:=id st'
    exact⟨u,rfl,zP (s:={s with heap:=h'}) e c d ⋯ ⟨x,H,I1,ru,⟨rfl,fun ys hy=>by rw [I.list_inj hy hq];exact hx⟩,st',fun b hb=>(hf b hb).1⟩⟩
  done:=by
    intro X hP hw hK hc i pins s σ H E I hf st hg
    subst hP hw hK
    obtain⟨xs,hq,hx⟩:=hg
    obtain⟨its,rv,p,hz⟩:=I.list hq
    obtain⟨f0,f1,f2,f3,f4,f5⟩:=hf it ↥1
    have hl:=rv.length
    exact wpAny_pyNext_list_end (I.ok.hd hc) st p.isList ↥7 fun h' eb=>⟨rfl,I.turned (t':=s.toks) (fun b o hb e=>eb b o hb e) f0 f1 f3 f4 f5⟩
  self:=fun _ _ _ _ _ st h=>wpAny_pyIter_listiter st h
theorem vU{P:Nk}{w:Ng}{K:⇑0}{tg:Na}(a it:MW):uT P w K tg (IL K a) [it] it (fun i h=>h.IsTupleIter it a i) where
  mem:=by simp
  obj:=fun i h st b hb=>by
    have e:b=it:=by simpa using hb
    subst e
    obtain⟨o,e,c,d⟩:=st
    exact⟨o,e,fun v z=>by rw [d] at z;cases z⟩
  keep:=fun i h h' st k=>st.at fun o e=>k it ↥1 o e
  item:=by
    intro X hP hw hK hc i pins s σ H E I hf st hg
    subst hP hw hK
    obtain⟨xs,x,hq,hx⟩:=hg
    obtain⟨its,rv,p,hz⟩:=I.tuple hq
    obtain⟨u,hu,ru⟩:=rv.get hx
    obtain⟨f0,f1,f2,f3,f4,f5⟩:=hf it ↥1
    refine wpAny_pyNext_tuple_item st (show s.heap.IsTuple a its.toArray from p) (x:=u) (by simpa using hu) fun h' st' sb=>?_
    have I1:aI X pins σ H {s with heap:=h'}:=I.turned (t':=s.toks) (fun b o hb e=>(sb.2 b hb).trans e) f0 f1 f3 f4 f5
    obtain⟨o,e,c,d⟩:=id st'
    exact⟨u,rfl,zP (s:={s with heap:=h'}) e c d ⋯ ⟨x,H,I1,ru,⟨rfl,fun ys hy=>by rw [I.tuple_inj hy hq];exact hx⟩,st',fun b hb=>(hf b hb).1⟩⟩
  done:=by
    intro X hP hw hK hc i pins s σ H E I hf st hg
    subst hP hw hK
    obtain⟨xs,hq,hx⟩:=hg
    obtain⟨its,rv,p,hz⟩:=I.tuple hq
    obtain⟨f0,f1,f2,f3,f4,f5⟩:=hf it ↥1
    have hl:=rv.length
    exact wpAny_pyNext_tuple_end (I.ok.hd hc) st (show s.heap.IsTuple a its.toArray from p) ↥7 fun h' eb=>⟨rfl,I.turned (t':=s.toks) (fun b o hb e=>eb b o hb e) f0 f1 f3 f4 f5⟩
  self:=fun _ _ _ _ _ st h=>wpAny_pyIter_tupleiter st h
theorem vT{P:Nk}{w:Ng}{K:⇑0}{tg:Na}(it:MW)(lo:Int)(n:Nat):uT P w K tg (GD lo n) [it] it (fun i h=>IsRangeIter h it (lo+(i:Nat)*1) ((n:Int) - (i:Nat)) 1) where
  mem:=by simp
  obj:=fun i h st b hb=>by
    have e:b=it:=by simpa using hb
    subst e
    exact⟨_,st,fun v z=>by
      have z':Data.fields _=Data.cell v:=z
      cases z'⟩
  keep:=fun i h h' st k=>k it ↥1 _ st
  item:=by
    intro X hP hw hK hc i pins s σ H E I hf st hg
    subst hP hw hK
    obtain⟨f0,f1,f2,f3,f4,f5⟩:=hf it ↥1
    have W:=Walks.range (prog:=X.prog) (w:=X.w) (I.ok.hd hc) it lo 1 n
    refine W.item i s _ _ hg st fun v h' tk hv st' kk=>?_
    obtain⟨t,rfl⟩:=hv
    have I1:aI X pins σ H {s with heap:=h',toks:=tk}:=I.turned (fun b o hb e=>kk b o (by simpa using hb) e) f0 f1 f3 f4 f5
    refine⟨_,rfl,zP (s:={s with heap:=h',toks:=tk}) (n:="range_iterator") st' rfl rfl ⋯ ⟨.int (lo+i),H,I1,⟨t,?_⟩,⟨rfl,rfl⟩,st',fun b hb=>(hf b hb).1⟩⟩
    rw [Int.mul_one]
  done:=by
    intro X hP hw hK hc i pins s σ H E I hf st hg
    subst hP hw hK
    obtain⟨f0,f1,f2,f3,f4,f5⟩:=hf it ↥1
    exact wpAny_pyNext_range_end (I.ok.hd hc) st (by have:n≤i:=hg;lia) fun h' eb=>⟨rfl,I.turned (t':=s.toks) (fun b o hb e=>eb b o hb e) f0 f1 f3 f4 f5⟩
  self:=fun _ _ _ _ _ st h=>wpAny_pyIter_rangeiter st h
section
variable{X:Cx}{tg:Na}
def DS(K:⇑0)(tl:TE):TI:=fun σ H R=>tl σ H fun x H1=>∃a,x=.ref a∧(∃xs,gC K H1 a xs)∧R (IK K a) H1
def G6(K:⇑0)(tl:TE):TI:=fun σ H R=>tl σ H fun x H1=>∃a,x=.ref a∧(∃xs,dz K H1 a xs)∧R (IL K a) H1
theorem CS{l:Na}{tl:TE}(hl:PE X l tl):PI X tg l (DS X.K tl):=by
  intro pins s σ H R I h
  refine cM (hl pins s σ H _ I h) fun v s1 ⟨x,H1,I1,r1,q1⟩=>?_
  obtain⟨a,e,⟨xs,hq⟩,q⟩:=q1
  subst e
  cases r1
  obtain⟨its,rv,p,hz⟩:=I1.list hq
  refine wpAny_pyIter_list p.isList ?_
  refine⟨↑s1,[↑s1],_,_,H1,rfl,I1.kept (t':=s1.toks) fun b o e=>Nz _ e,yB a _,⟨_,Oj _ rfl,rfl,rfl⟩,fun b hb=>?_,q⟩
  have e:b=↑s1:=by simpa using hb
  subst e
  exact I1.fpOk ↥8 (I1.hok.fresh ↥8)
theorem Ft{l:Na}{tl:TE}(hl:PE X l tl):PI X tg l (G6 X.K tl):=by
  intro pins s σ H R I h
  refine cM (hl pins s σ H _ I h) fun v s1 ⟨x,H1,I1,r1,q1⟩=>?_
  obtain⟨a,e,⟨xs,hq⟩,q⟩:=q1
  subst e
  cases r1
  obtain⟨its,rv,p,hz⟩:=I1.tuple hq
  refine QS (show s1.heap.IsTuple a its.toArray from p) ?_
  refine⟨↑s1,[↑s1],_,_,H1,rfl,I1.kept (t':=s1.toks) fun b o e=>Nz _ e,vU a _,⟨_,Oj _ rfl,rfl,rfl⟩,fun b hb=>?_,q⟩
  have e:b=↑s1:=by simpa using hb
  subst e
  exact I1.fpOk ↥8 (I1.hok.fresh ↥8)
theorem ui{pins:List (MW × Obj)}{σ:St}{H:Hp}{s:MZ}{R:It→Hp→Prop}{E:MX→MZ→Prop}{lo hi:Int}{t u v:Tok}{tk:Nat}(I:aI X pins σ H s)(h1: -(2 ^ 62)≤lo)(h2:lo < 2 ^ 62)(h3: -(2 ^ 62)≤hi)(h4:hi < 2 ^ 62)
    (q:R (GD lo (hi - lo).toNat) H):Nf (Ni X.prog X.w) X.A (pyIter (.ref ↑s)) (JN X pins σ tg R) E {s with heap:=s.heap.push {cls:=.type "range",data:=.fields #[.int lo t,.int hi u,.int 1 v]},toks:=tk}:=by
  refine wpAny_pyIter_range (IsRange.new ..) (small_one h1 h2 h3 h4) ?_
  have I1:aI X pins σ H {s with heap:=s.heap.push {cls:=.type "range",data:=.fields #[.int lo t,.int hi u,.int 1 v]},toks:=tk}:=I.kept fun b o e=>Nz _ e
  refine⟨(s.heap.push {cls:=.type "range",data:=.fields #[.int lo t,.int hi u,.int 1 v]}).objs.size,[(s.heap.push {cls:=.type "range",data:=.fields #[.int lo t,.int hi u,.int 1 v]}).objs.size],_,_,H,rfl,
    I1.kept (t':=tk) fun b o e=>Nz _ e,vT _ lo (hi - lo).toNat,?_,fun b hb=>?_,q⟩
  · have e1:lo+((0:Nat):Int)*1=lo:=by simp
    have e2:(((hi - lo).toNat:Nat):Int) - ((0:Nat):Int)=Builtin.Range.rangeSize lo hi 1:=by rw [rangeSize_one];split<;>lia
    show IsRangeIter _ _ (lo+((0:Nat):Int)*1) ((((hi - lo).toNat:Nat):Int) - ((0:Nat):Int)) 1
    rw [e1,e2]
    exact Oj _ rfl
  · have e:b=(s.heap.push {cls:=.type "range",data:=.fields #[.int lo t,.int hi u,.int 1 v]}).objs.size:=by simpa using hb
    subst e
    exact I1.fpOk ↥8 (I1.hok.fresh ↥8)
def G4(ta:TA):TI:=fun σ H R=>ta σ H fun vs H1=>∃j:Int,vs=[.int j]∧ -(2 ^ 62)≤j∧j < 2 ^ 62∧R (GD 0 j.toNat) H1
def G5(ta:TA):TI:=fun σ H R=>ta σ H fun vs H1=>∃i j:Int,vs=[.int i,.int j]∧(-(2 ^ 62)≤i∧i < 2 ^ 62∧ -(2 ^ 62)≤j∧j < 2 ^ 62)∧R (GD i (j - i).toNat) H1
theorem ym{a:Na}{ta:TA}{p pos:Pos}(hg:Gl X "range")(hm:X.mg "range"=none)(ha:PA X [a] ta)(hs:Nl [a] X.env=[(false,Nj a X.env)]:=by rfl):PI X tg (.Call (.Name "range" p) [a] [] pos) (G4 ta):=by
  intro pins s σ H R I h
  refine Call_ (gr I hg hm boot_range (Po (cM (ha pos pins s σ H _ I h) fun us s1 ⟨vs,H1,I1,r1,q1⟩=>?_) hs rfl))
  obtain⟨j,e,q1,q2,q⟩:=q1
  subst e
  cases r1 with
  | cons r rr=>
    cases rr
    obtain⟨t,rfl⟩:=r
    exact call_range_1 (ui I1 ↥0 ↥0 q1 q2 (by simpa using q))
theorem yn{a b:Na}{ta:TA}{p pos:Pos}(hg:Gl X "range")(hm:X.mg "range"=none)(ha:PA X [a,b] ta)(hs:Nl [a,b] X.env=[(false,Nj a X.env),(false,Nj b X.env)]:=by rfl)(hs2:Nl [b] X.env=[(false,Nj b X.env)]:=by rfl):
    PI X tg (.Call (.Name "range" p) [a,b] [] pos) (G5 ta):=by
  intro pins s σ H R I h
  refine Call_ (gr I hg hm boot_range (Po (cM (ha pos pins s σ H _ I h) fun us s1 ⟨vs,H1,I1,r1,q1⟩=>?_) (by rw [hs,hs2]) (by rw [hs2];rfl)))
  obtain⟨i,j,e,⟨q1,q2,q3,q4⟩,q⟩:=q1
  subst e
  cases r1 with
  | cons r rr=>
    cases rr with
    | cons r' rr=>
      cases rr
      obtain⟨t,rfl⟩:=r
      obtain⟨t',rfl⟩:=r'
      exact call_range_2 (ui I1 q1 q2 q3 q4 q)
def Jw(wi:TI)(g:TG)(tb:TS):TS:=fun D σ H=>wi σ H fun J H1=>∃W:Nat→Nat→St→Hp→Prop,(∃m,W 0 m σ H1)∧∀i m σ H,W i m σ H→
  (J.stop i H∧D.nx σ H)∨(J.go i H∧∃N:St→Hp→Prop,(∀σ' H',N σ' H'→∃m',m' < m∧W (i+1) m' σ' H')∧∀x H',J.yld i H x H'→g x σ H' fun σ2 H2=>tb {D with nx:=N,ct:=N,bk:=D.nx} σ2 H2)
def l5(fp:List MW)(h:Nh):List (MW × Obj):=fp.filterMap fun b=>(h.get? b).map fun o=>(b,o)
theorem eN{fp:List MW}{h:Nh}{b:MW}{o:Obj}(hb:b∈fp)(e:h.get? b=some o):(b,o)∈l5 fp h:=RT.mpr ⟨b,hb,by rw [e];rfl⟩
theorem ye{fp:List MW}{h:Nh}{p:MW × Obj}(hp:p∈l5 fp h):p.1∈fp∧h.get? p.1=some p.2:=by
  obtain⟨b,hb,e⟩:=RT.mp hp
  cases q:h.get? b with
  | none=>rw [q] at e;cases e
  | some o=>
    rw [q] at e
    have e':(b,o)=p:=NQ e
    subst e'
    exact⟨hb,q⟩
theorem aI.pinned{pins:List (MW × Obj)}{σ:St}{H:Hp}{s:MZ}{fp:List MW}(I:aI X pins σ H s)(hf:∀b∈fp,gS X pins H b)(ho:∀b∈fp,∃o,s.heap.get? b=some o∧∀v,o.data≠.cell v):aI X (pins++l5 fp s.heap) σ H s:=
  I.pins_of fun p hp=>(MS hp).elim (fun z=>I.pin p (OD _ z)) fun z=>by
    obtain⟨hb,e⟩:=ye z
    obtain⟨f0,f1,f2,_⟩:=hf p.1 hb
    obtain⟨o,e',d⟩:=ho p.1 hb
    rw [e] at e';cases e'
    exact⟨e,f0,f1,f2,d⟩
theorem aI.unpinned{pins pl:List (MW × Obj)}{σ:St}{H:Hp}{s:MZ}(I:aI X (pins++pl) σ H s):aI X pins σ H s:=I.pins_of fun p hp=>I.pin p (OD _ (List.mem_append_left _ hp))
theorem Fv{iter:Na}{body:List Nq}{wi:TI}{g:TG}{tb:TS}{pos:Pos}(hp:PassesOwn (Ni X.prog X.w) X.A X.env X.xe)(hc:X.calm=true)(hi:PI X tg iter wi)(hg:PG X tg g)(hb:mM X body tb)
    (hs:∀x,Py iter X.env x=pure x:=by intro _;rfl):PS X (.For tg iter body [] pos) (Jw wi g tb):=by
  intro pins s σ H D I h
  refine wpAny_For (cM (hi pins s σ H _ I h) fun v s1 h1=>cM h1 fun itv s2 h2=>?_) hs
  obtain⟨it,fp,tn,J,H2,e,I2,T,st2,f2,W,⟨m0,w0⟩,turn⟩:=h2
  subst e
  have stat:∀{H':Hp},(∀b∈fp,H' b=none)→∀b∈fp,gS X pins H' b:=fun hn b hb=>⟨hn b hb,(f2 b hb).2⟩
  refine codeAny_forLoop_any (fun n s'=>∃i σ' H',aI X pins σ' H' s'∧tn i s'.heap∧(∀b∈fp,H' b=none)∧W i n σ' H') ?_ m0 ⟨0,σ,H2,I2,st2,fun b hb=>(f2 b hb).1,w0⟩
  rintro n s3 ⟨i,σ3,H3,I3,st3,fr3,w3⟩
  rcases turn i n σ3 H3 w3 with ⟨stop,qn⟩ | ⟨go,N,hN,step⟩
  · refine Qf hp (cM (T.done X rfl rfl rfl hc i pins s3 σ3 H3 X.xe I3 (stat fr3) st3 stop) fun r s4 ⟨hr,I4⟩=>?_)
    subst hr
    exact Rm ⟨σ3,H3,I4,qn⟩
  · refine Qf hp (cM (T.item X rfl rfl rfl hc i pins s3 σ3 H3 X.xe I3 (stat fr3) st3 go) fun r s4 ⟨u,hr,h4⟩=>?_)
    subst hr
    refine Qf hp (cM h4 fun _ s5 ⟨x,H5,I5,r5,y5,st5,fr5⟩=>?_)
    have I5':=I5.pinned (stat fr5) (T.obj _ _ st5)
    refine Qf hp (cM (hg _ s5 σ3 H5 x u _ I5' r5 (step x H5 y5)) fun _ s6 ⟨σ6,H6,I6,q6⟩=>?_)
    refine Qf hp (cM (hb _ s6 σ6 H6 _ I6 q6) fun f s7 q7=>?_)
    have again:∀{σ7:St} {H7:Hp},aI X (pins++l5 fp s5.heap) σ7 H7 s7→N σ7 H7→∃m,m < n∧∃i σ' H',aI X pins σ' H' s7∧tn i s7.heap∧(∀b∈fp,H' b=none)∧W i m σ' H':=fun{σ7 H7} I7 n7=>by
      obtain⟨m',hm,w7⟩:=hN σ7 H7 n7
      refine⟨m',hm,i+1,σ7,H7,I7.unpinned,T.keep _ _ _ st5 fun b hb o e=>(I7.pin (b,o) (OD _ (OD _ (eN hb e)))).1,fun b hb=>?_,w7⟩
      obtain⟨o,e,d⟩:=T.obj _ _ st5 b hb
      exact(I7.pin (b,o) (OD _ (OD _ (eN hb e)))).2.1
    cases f with
    | next=>obtain⟨σ7,H7,I7,n7⟩:=q7;exact again I7 n7
    | cont=>obtain⟨σ7,H7,I7,n7⟩:=q7;exact again I7 n7
    | brk=>obtain⟨σ7,H7,I7,q7⟩:=q7;exact⟨σ7,H7,I7.unpinned,q7⟩
    | ret v=>obtain⟨x7,σ7,H7,I7,r7,q7⟩:=q7;exact⟨x7,σ7,H7,I7.unpinned,r7,q7⟩
end
abbrev R2:=V→V→Hp→VK→Prop
def hV(X:Cx)(f:MX→MX→Sem MX)(r:R2):Prop:=
  ∀(pins:List (MW × Obj)) (s:MZ) (σ:St) (H:Hp) (x y:V) (v u:MX) (Q:VK),aI X pins σ H s→bv x v→bv y u→r x y H Q→
    Nf (Ni X.prog X.w) X.A (f v u) (EP X pins σ Q) X.xe s
def IC(X:Cx)(f:MX→Sem MX)(r:V→Hp→VK→Prop):Prop:=
  ∀(pins:List (MW × Obj)) (s:MZ) (σ:St) (H:Hp) (x:V) (v:MX) (Q:VK),aI X pins σ H s→bv x v→r x H Q→
    Nf (Ni X.prog X.w) X.A (f v) (EP X pins σ Q) X.xe s
def fZ(X:Cx)(f:MX)(r:List V→Hp→VK→Prop):Prop:=
  ∀(pins:List (MW × Obj)) (s:MZ) (σ:St) (H:Hp) (xs:List V) (us:List MX) (Q:VK),aI X pins σ H s→aR xs us→r xs H Q→
    Nf (Ni X.prog X.w) X.A (call f us) (EP X pins σ Q) X.xe s
def IW(X:Cx)(r:V→Hp→(Bool→Hp→Prop)→Prop):Prop:=
  ∀(pins:List (MW × Obj)) (s:MZ) (σ:St) (H:Hp) (x:V) (v:MX) (Q:Bool→Hp→Prop),aI X pins σ H s→bv x v→r x H Q→
    Nf (Ni X.prog X.w) X.A (truthy v) (TP X pins σ Q) X.xe s
def H_(r:R2)(ta tb:TE):TE:=fun σ H Q=>ta σ H fun x H1=>tb σ H1 fun y H2=>r x y H2 Q
def JZ(r:V→Hp→VK→Prop)(ta:TE):TE:=fun σ H Q=>ta σ H fun x H1=>r x H1 Q
def rI(C:Int→Int→Prop)(g:Int→Int→V):R2:=fun x y H Q=>∃i j,x=.int i∧y=.int j∧C i j∧Q (g i j) H
def yt(g:Int→Int→V):R2:=fun x y H Q=>∃i j,x=.int i∧y=.int j∧Q (g i j) H
def rU(g:Int→V):V→Hp→VK→Prop:=fun x H Q=>∃i,x=.int i∧Q (g i) H
section
variable{X:Cx}{a b c:Na}{ta tb tc:TE}{pos:Pos}
theorem Eu(ha:PE X a ta)(hb:PE X b tb){pins:List (MW × Obj)}{s:MZ}{σ:St}{H:Hp}{R:V→V→Hp→Prop}(I:aI X pins σ H s)
    (h:ta σ H fun x H1=>tb σ H1 fun y H2=>R x y H2){Q:MX→MZ→Prop}{f:MX→MX→Sem MX}
    (hf:∀v u s2 x y H2,aI X pins σ H2 s2→bv x v→bv y u→R x y H2→Nf (Ni X.prog X.w) X.A (f v u) Q X.xe s2):
    Nf (Ni X.prog X.w) X.A (Nj a X.env) (fun v s₁=>Nf (Ni X.prog X.w) X.A (Nj b X.env) (fun u s₂=>Nf (Ni X.prog X.w) X.A (f v u) Q X.xe s₂) X.xe s₁) X.xe s:=by
  refine cM (ha pins s σ H _ I h) fun v s1 ⟨x,H1,I1,r1,q1⟩=>?_
  refine cM (hb pins s1 σ H1 _ I1 q1) fun u s2 ⟨y,H2,I2,r2,q2⟩=>?_
  exact hf v u s2 x y H2 I2 r1 r2 q2
theorem Hu{op:Operator}{r:R2}(ho:hV X (Oa op) r)(ha:PE X a ta)(hb:PE X b tb):PE X (.BinOp a op b pos) (H_ r ta tb):=by
  intro pins s σ H Q I h
  exact wpAny_BinOp (Eu ha hb I h fun v u s2 x y H2 I2 rx ry q=>ho pins s2 σ H2 x y v u Q I2 rx ry q)
theorem Hx{op:UnaryOp}{r:V→Hp→VK→Prop}(ho:IC X (unaryOp op) r)(ha:PE X a ta):PE X (.UnaryOp op a pos) (JZ r ta):=by
  intro pins s σ H Q I h
  exact UnaryOp_ (cM (ha pins s σ H _ I h) fun v s1 ⟨x,H1,I1,r1,q1⟩=>ho pins s1 σ H1 x v Q I1 r1 q1)
theorem Hm{f:MX→MX→Sem MX}{C:Int→Int→Prop}{g:Int→Int→Int}
    (rule:∀(i j:Int) (t u:Tok) (s:MZ) (Q:MX→MZ→Prop) (E:MX→MZ→Prop),C i j→Q (.int (g i j) s.toks) {s with toks:=s.toks+1}→Nf (Ni X.prog X.w) X.A (f (.int i t) (.int j u)) Q E s):
    hV X f (rI C fun i j=>.int (g i j)):=by
  intro pins s σ H x y v u Q I rx ry h
  obtain⟨i,j,rfl,rfl,hc,q⟩:=h
  obtain⟨t,rfl⟩:=rx
  obtain⟨t',rfl⟩:=ry
  exact rule i j t t' s _ _ hc ⟨.int (g i j),H,I.tok _,⟨_,rfl⟩,q⟩
theorem Hn{f:MX→MX→Sem MX}{g:Int→Int→Int}
    (rule:∀(i j:Int) (t u:Tok) (s:MZ) (Q:MX→MZ→Prop) (E:MX→MZ→Prop),Q (.int (g i j) s.toks) {s with toks:=s.toks+1}→Nf (Ni X.prog X.w) X.A (f (.int i t) (.int j u)) Q E s):
    hV X f (yt fun i j=>.int (g i j)):=by
  intro pins s σ H x y v u Q I rx ry h
  obtain⟨i,j,rfl,rfl,q⟩:=h
  obtain⟨t,rfl⟩:=rx
  obtain⟨t',rfl⟩:=ry
  exact rule i j t t' s _ _ ⟨.int (g i j),H,I.tok _,⟨_,rfl⟩,q⟩
theorem E8{f:MX→MX→Sem MX}{g:Int→Int→Bool}
    (rule:∀(i j:Int) (t u:Tok) (s:MZ) (Q:MX→MZ→Prop) (E:MX→MZ→Prop),Q (.bool (g i j)) s→Nf (Ni X.prog X.w) X.A (f (.int i t) (.int j u)) Q E s):
    hV X f (yt fun i j=>.bl (g i j)):=by
  intro pins s σ H x y v u Q I rx ry h
  obtain⟨i,j,rfl,rfl,q⟩:=h
  obtain⟨t,rfl⟩:=rx
  obtain⟨t',rfl⟩:=ry
  exact rule i j t t' s _ _ ⟨.bl (g i j),H,I,rfl,q⟩
def Ef(i j:Int):Prop:=0≤j∧j≤1000000∧i.natAbs < 2 ^ 64
def BM(i j:Int):Prop:=(-(2 ^ 64) < i∧i < 2 ^ 64)∨(-(2 ^ 64) < j∧j < 2 ^ 64)
theorem BM.ok{i j:Int}(h:BM i j):IntMulOk i j:=by
  rcases h with ⟨h1,h2⟩ | ⟨h1,h2⟩
  · exact .of_left (intBits_le_64 h1 h2)
  · exact .of_right (intBits_le_64 h1 h2)
theorem E9:hV X (Oa .Add) (yt fun i j=>.int (i+j)):=Hn fun _ _ _ _ _ _ _ q=>add_int q
theorem Fj:hV X (Oa .Sub) (yt fun i j=>.int (i - j)):=Hn fun _ _ _ _ _ _ _ q=>sub_int q
theorem Ff:hV X (Oa .Mult) (rI BM fun i j=>.int (i*j)):=Hm fun _ _ _ _ _ _ _ hc q=>mul_int q hc.ok
theorem Cy:hV X (Oa .Mod) (rI (fun _ j=>j≠0) fun i j=>.int (i.fmod j)):=Hm fun _ _ _ _ _ _ _ hc q=>mod_int' hc q
theorem Fh:hV X (Oa .Pow) (rI Ef fun i j=>.int (i ^ j.toNat)):=Hm fun _ _ _ _ _ _ _ hc q=>pow_int_small hc.1 hc.2.1 hc.2.2 q
theorem Ko{f:MX→Sem MX}{g:Int→Int}
    (rule:∀(i:Int) (t:Tok) (s:MZ) (Q:MX→MZ→Prop) (E:MX→MZ→Prop),Q (.int (g i) s.toks) {s with toks:=s.toks+1}→Nf (Ni X.prog X.w) X.A (f (.int i t)) Q E s):
    IC X f (rU fun i=>.int (g i)):=by
  intro pins s σ H x v Q I rx h
  obtain⟨i,rfl,q⟩:=h
  obtain⟨t,rfl⟩:=rx
  exact rule i t s _ _ ⟨.int (g i),H,I.tok _,⟨_,rfl⟩,q⟩
theorem Gp:IC X (unaryOp .USub) (rU fun i=>.int (-i)):=Ko fun _ _ _ _ _ q=>neg_int q
end
section
variable{X:Cx}{a b c:Na}{ta tb tc:TE}{pos:Pos}
theorem zA{pins:List (MW × Obj)}{σ:St}{H:Hp}{s:MZ}{Q:VK}{k k':Bool}(I:aI X pins σ H s)(q:Q (.bl k) H)(e:k=k'):EP X pins σ Q (.bool k') s:=by
  subst e
  exact⟨.bl k,H,I,rfl,q⟩
theorem Hr:hV X (NU .Lt) (yt fun i j=>.bl (decide (i < j))):=E8 fun _ _ _ _ _ _ _ q=>lt_int q
theorem Hq:hV X (NU .Gt) (yt fun i j=>.bl (decide (j < i))):=E8 fun _ _ _ _ _ _ _ q=>gt_int q
theorem Ho:hV X (NU .GtE) (yt fun i j=>.bl (decide (j≤i))):=E8 fun _ _ _ _ _ _ _ q=>ge_int q
theorem Fe:hV X (NU .Is) (fun x y H Q=>y=.non∧Q (.bl (decide (x=.non))) H):=by
  intro pins s σ H x y v u Q I rx ry h
  obtain⟨rfl,q⟩:=h
  cases ry
  refine is_none_gen (zA I q ?_)
  cases x<;>first
    | (cases rx;rfl)
    | (obtain⟨t,rfl⟩:=rx;rfl)
theorem CC:hV X (NU .IsNot) (fun x y H Q=>y=.non∧Q (.bl (!decide (x=.non))) H):=by
  intro pins s σ H x y v u Q I rx ry h
  obtain⟨rfl,q⟩:=h
  cases ry
  refine isnot_none_gen (zA I q ?_)
  cases x<;>first
    | (cases rx;rfl)
    | (obtain⟨t,rfl⟩:=rx;rfl)
theorem hV.or{f:MX→MX→Sem MX}{r r':R2}(h:hV X f r)(h':hV X f r'):hV X f (fun x y H Q=>r x y H Q∨r' x y H Q):=by
  intro pins s σ H x y v u Q I rx ry q
  rcases q with q | q
  · exact h pins s σ H x y v u Q I rx ry q
  · exact h' pins s σ H x y v u Q I rx ry q
theorem bi(b:Na){op:CmpOp}(h:op≠.In:=by decide)(h2:op≠.NotIn:=by decide):PV op b=false:=by
  have e1:(op==CmpOp.In)=false:=by cases op<;>first | rfl | exact absurd rfl h
  have e2:(op==CmpOp.NotIn)=false:=by cases op<;>first | rfl | exact absurd rfl h2
  cases b<;>simp [PV,e1,e2]
theorem CM{op:CmpOp}{r:R2}(ho:hV X (NU op) r)(ha:PE X a ta)(hb:PE X b tb)(hm:PV op b=false):PE X (.Compare a [op] [b] pos) (H_ r ta tb):=by
  intro pins s σ H Q I h
  exact wpAny_Compare1 (Eu ha hb I h fun v u s2 x y H2 I2 rx ry q=>ho pins s2 σ H2 x y v u Q I2 rx ry q) hm
def Ib(t:TE):TT:=fun σ H Q=>t σ H fun x H'=>∃k,x=.bl k∧Q k H'
theorem C2{op:CmpOp}{r:R2}(ho:hV X (NU op) r)(ha:PE X a ta)(hb:PE X b tb)(hm:PV op b=false):PT X (.Compare a [op] [b] pos) (Ib (H_ r ta tb)):=by
  intro pins s σ H Q I h
  refine wpAny_isTrue_Compare1 (cM (ha pins s σ H _ I h) fun v s1 ⟨x,H1,I1,r1,q1⟩=>cM (hb pins s1 σ H1 _ I1 q1) fun u s2 ⟨y,H2,I2,r2,q2⟩=>
    cM (ho pins s2 σ H2 x y v u _ I2 r1 r2 q2) fun c s3 ⟨z,H3,I3,r3,k,e,q3⟩=>?_) hm
  subst e
  cases r3
  exact QA ⟨H3,I3,q3⟩
def GM(K:⇑0)(x:V)(H:Hp)(k:Bool):Prop:=
  match x with
  | .non=>k=false
  | .bl b=>k=b
  | .int i=>k=(i != 0)
  | .str y=>y.length≤Nr∧k=((y.length:Int) != 0)
  | .byt y=>y.size≤Nr∧k=((y.size:Int) != 0)
  | .ref p=>(∃xs,gC K H p xs∧k= !xs.isEmpty)∨(∃xs,dz K H p xs∧k= !xs.isEmpty)∨∃kvs,H p=some (.dK kvs)∧k= !kvs.isEmpty
  | _=>False
theorem vo{κ:Type}{kvs:List (κ × V)}{vs:List (κ × MX)}(r:KV kvs vs):(!vs.isEmpty)= !kvs.isEmpty:=by
  cases r<;>rfl
theorem ou{xs:List V}{its:List MX}(r:aR xs its):(!its.toArray.isEmpty)= !xs.isEmpty:=by
  cases r<;>simp
theorem oE:(Nr:Nat) < 2 ^ 63:=by rw [Om];decide
theorem Gk:IW X (fun x H Q=>∃k,GM X.K x H k∧Q k H):=by
  intro pins s σ H x v Q I rx h
  obtain⟨k,e,q⟩:=h
  have hl:=oE
  have hs:Nr=16777216:=Om
  cases x with
  | non=>
    cases rx
    have e':k=false:=e
    subst e'
    exact truthy_none ⟨H,I,q⟩
  | bl b=>
    cases rx
    have e':k=b:=e
    subst e'
    exact QA ⟨H,I,q⟩
  | int i=>
    obtain⟨t,rfl⟩:=rx
    have e':k=(i != 0):=e
    subst e'
    exact PySem.P.truthy_int ⟨H,I,q⟩
  | str y=>
    obtain⟨t,rfl⟩:=rx
    obtain⟨hy,e'⟩:y.length≤Nr∧k=((y.length:Int) != 0):=e
    subst e'
    exact PySem.P.truthy_str ↥0 ⟨H,I.tok _,q⟩
  | byt y=>
    obtain⟨t,rfl⟩:=rx
    obtain⟨hy,e'⟩:y.size≤Nr∧k=((y.size:Int) != 0):=e
    subst e'
    exact PySem.W.truthy_bytes ↥0 ⟨H,I.tok _,q⟩
  | ref p=>
    cases rx
    have e':(∃xs,gC X.K H p xs∧k= !xs.isEmpty)∨(∃xs,dz X.K H p xs∧k= !xs.isEmpty)∨∃kvs,H p=some (.dK kvs)∧k= !kvs.isEmpty:=e
    rcases e' with ⟨xs,hx,e'⟩ | ⟨xs,hx,e'⟩ | ⟨kvs,hx,e'⟩
    · subst e'
      obtain⟨its,r,pl,hz⟩:=I.list hx
      have hlen:=r.length
      exact wpAny_truthy_list pl.isList (by simp only [NA];lia) ⟨H,I.tok _,by rw [ou r];exact q⟩
    · subst e'
      obtain⟨its,r,pl,hz⟩:=I.tuple hx
      have hlen:=r.length
      exact truthy_tuple pl (by simp only [NA];lia) ⟨H,I.tok _,by rw [ou r];exact q⟩
    · subst e'
      obtain⟨hz,hS,vs,r,m⟩:kvs.length≤Nr∧(p==OI)=false∧∃vs,KV kvs vs∧s.heap.DictOf (ci X.prog X.w) p vs:=I.hok p _ hx
      have hlen:kvs.length=vs.length:=Paired.length r
      exact wpAny_truthy_dict hS m ↥0 ⟨H,I.tok _,by rw [vo r];exact q⟩
  | _=>exact(show False from e).elim
theorem AS(ha:PE X a ta)(he:∀whole,isTrue a X.env whole=(do let v ←whole;Pk a.pos;NY [v] (truthy v))):
    PT X a (fun σ H Q=>ta σ H fun x H'=>∃k,GM X.K x H' k∧Q k H'):=by
  intro pins s σ H Q I h
  exact isTrue_plain (cM (ha pins s σ H _ I h) fun v s1 ⟨x,H1,I1,r1,q1⟩=>Gk pins s1 σ H1 x v Q I1 r1 q1) (he _)
theorem qO{x:V}{us:List MX}(r:aR [x] us):∃u,us=[u]∧bv x u:=by
  cases r with
  | cons r1 r2=>cases r2;exact⟨_,rfl,r1⟩
theorem Ee{x y:V}{us:List MX}(r:aR [x,y] us):∃u w',us=[u,w']∧bv x u∧bv y w':=by
  cases r with
  | cons r1 r2=>
    cases r2 with
    | cons r3 r4=>cases r4;exact⟨_,_,rfl,r1,r3⟩
theorem y6:fZ X (.builtin "abs") (fun xs H Q=>∃i,xs=[.int i]∧Q (.int (if i < 0 then -i else i)) H):=by
  intro pins s σ H xs us Q I r h
  obtain⟨i,rfl,q⟩:=h
  obtain⟨u,rfl,t,rfl⟩:=qO r
  exact call_abs_int fun u tk=>⟨.int (if i < 0 then -i else i),H,I.tok _,⟨_,rfl⟩,q⟩
theorem xH(hc:X.calm=true):fZ X (.builtin "max") (fun xs H Q=>∃i j,xs=[.int i,.int j]∧Q (.int (if j > i then j else i)) H):=by
  intro pins s σ H xs us Q I r h
  obtain⟨i,j,rfl,q⟩:=h
  obtain⟨u,w',rfl,⟨t,rfl⟩,⟨t',rfl⟩⟩:=Ee r
  refine max_two_ints (I.ok.hd hc) fun h' tk k=>⟨_,H,I.kept k,?_,q⟩
  by_cases hj:j > i
  · rw [if_pos hj,if_pos hj];exact⟨_,rfl⟩
  · rw [if_neg hj,if_neg hj];exact⟨_,rfl⟩
theorem xI(hc:X.calm=true):fZ X (.builtin "min") (fun xs H Q=>∃i j,xs=[.int i,.int j]∧Q (.int (if j < i then j else i)) H):=by
  intro pins s σ H xs us Q I r h
  obtain⟨i,j,rfl,q⟩:=h
  obtain⟨u,w',rfl,⟨t,rfl⟩,⟨t',rfl⟩⟩:=Ee r
  refine min_two_ints (I.ok.hd hc) fun h' tk k=>⟨_,H,I.kept k,?_,q⟩
  by_cases hj:j < i
  · rw [if_pos hj,if_pos hj];exact⟨_,rfl⟩
  · rw [if_neg hj,if_neg hj];exact⟨_,rfl⟩
theorem xG:fZ X (.type "int") (fun xs H Q=>(∃i,xs=[.int i]∧Q (.int i) H)∨∃k,xs=[.bl k]∧Q (.int (if k then 1 else 0)) H):=by
  intro pins s σ H xs us Q I r h
  rcases h with ⟨i,rfl,q⟩ | ⟨k,rfl,q⟩
  · obtain⟨u,rfl,t,rfl⟩:=qO r
    exact call_int_int ⟨.int i,H,I,⟨_,rfl⟩,q⟩
  · obtain⟨u,rfl,r1⟩:=qO r
    cases r1
    exact call_int_bool ⟨.int (if k then 1 else 0),H,I.tok _,⟨_,rfl⟩,q⟩
end
structure J7 (h:Nh) (x dx C:MW) (mA:Str→Option MX):Prop where
  obj:h.get? x=some (PySem.W.instObj C dx)
  ns:h.Ns1 dx mA
  ne:dx≠x
section
variable{prog:Nk}{w:Ng}{A:Nn}{E:MX→MZ→Prop}{s:MZ}{K:⇑0}{x dx C f:MW}{mA:Str→Option MX}{name:Str}{v:MX}
end
section
variable{P:Nk}{w:Ng}{H H':Hp}{h h':Nh}{a C dx:MW}{fs fs':List (Str × V)}
end
structure J2 (K:⇑0) (C:MW):Prop where
  pg:PySem.W.plainGet K C Str.empty=true
  hd:PySem.W.hasDictIn K C=true
  po:PySem.W.plainOver K C=true
  sa:QT K (.ref C) "__setattr__"=some (some (.builtin "object.__setattr__"))
structure Kq (K:⇑0) (C:MW) (f:Str) (v:V) (u:MX):Prop where
  at_:QT K (.ref C) f=some (some u)
  rel:bv v u
  get:PySem.W.specialIn K u "__get__"=some none
  cp:PySem.W.copiedNames.contains f=false
structure J6 (K:⇑0) (C:MW) (m:Str) (f:MW):Prop where
  at_:QT K (.ref C) m=some (some (.ref f))
  fn:PySem.W.isFn K (.ref f)=true
  kp:Qg K (.ref f)=true
section
variable{X:Cx}{pins:List (MW × Obj)}{σ:St}{H:Hp}{s:MZ}{a C dx:MW}{fs:List (Str × V)}{f:Str}{v:V}{A:Nn}{E:MX→MZ→Prop}
end
section
variable{X:Cx}{o e value:Na}{f:Str}{pos pos' tpos:Pos}{ta tv:TE}
end
section
variable{X:Cx}{pins:List (MW × Obj)}{σ:St}{H:Hp}{s:MZ}{A:Nn}{E:MX→MZ→Prop}{Q:MX→MZ→Prop}{c:MX}{b:Bool}
inductive nD (K:⇑0) (H:Hp):V→MX→Prop where
  | non:nD K H .non (.type "NoneType")
  | bl (x:Bool):nD K H (.bl x) (.type "bool")
  | int (i:Int):nD K H (.int i) (.type "int")
  | str (x:Str):nD K H (.str x) (.type "str")
  | flt (x:UInt64):nD K H (.flt x) (.type "float")
  | lst {a:MW} {xs:List V} (e:H a=some (.lst xs)):nD K H (.ref a) (.type "list")
  | frz {a:MW} {o:Obj} {xs:List V} (e:H a=some (.frz o (.lst xs))):nD K H (.ref a) (.type "list")
  | tup {a:MW} {xs:List V} (e:H a=some (.tup xs)):nD K H (.ref a) (.type "tuple")
  | dK {a:MW} {kvs:List (fx × V)} (e:H a=some (.dK kvs)):nD K H (.ref a) (.type "dict")
  | dT {a:MW} {kvs:List (List fx × V)} (e:H a=some (.dT kvs)):nD K H (.ref a) (.type "dict")
  | ins {a C dx:MW} {fs:List (Str × V)} (e:H a=some (.ins C dx fs)) (cl:J2 K C) (ha:QT K (.ref C) "__class__"=some (some (.builtin "object.__class__")))
      (hn:PySem.W.specialIn K (.builtin "object.__class__") "__get__"=some (some (.builtin "getset_descriptor.__get__"))) (htk:PySem.W.takesIn K (.builtin "object.__class__")=some true)
      (hm:PySem.W.mroIn K C (.type "object")=some true):nD K H (.ref a) (.ref C)
end
structure dI (k:Nat) (A:Nn):Prop where
  hd:A.handled=none
  dp:A.depth+3*k+5 < recursionLimit
  un:A.units+16*k+200 < cLine
  gd:A.guards=some []
theorem dI.mono{j k:Nat}{A:Nn}(r:dI k A)(h:j≤k):dI j A:=⟨r.hd,by have:=r.dp;lia,by have:=r.un;lia,r.gd⟩
theorem dI.deeper{k:Nat}{A:Nn}(r:dI (k+1) A)(env:Env):dI k (A.deeper env):=
  ⟨r.hd,by have:=r.dp;show A.depth+1+3*k+5 < _;lia,by have:=r.un;show A.units+3+16*k+200 < _;lia,r.gd⟩
theorem dI.depth{k:Nat}{A:Nn}(r:dI k A):A.depth < recursionLimit:=by have:=r.dp;lia
theorem dI.units{k:Nat}{A:Nn}(r:dI k A):A.units+64 < cLine:=by have:=r.un;lia
def Gd:TA:=fun _ H Q=>Q [] H
def uC(ta:TE)(tr:TA):TA:=fun σ H Q=>ta σ H fun x H1=>tr σ H1 fun xs H2=>Q (x::xs) H2
section
variable{X:Cx}{e:Na}{es:List Na}{te:TE}{t:TA}{pos:Pos}
theorem si:PA X [] Gd:=fun _ _ _ _ H Q I h=>Calls.spliced_nil ⟨[],H,I,.nil,h⟩
theorem CJ(ha:PE X e te)(hr:PA X es t)(hs:Nl (e::es) X.env=(false,Nj e X.env)::Nl es X.env:=by rfl):PA X (e::es) (uC te t):=by
  intro pos pins s σ H Q I h
  rw [hs]
  show Nf _ _ (spliced ((false,Nj e X.env)::NO pos (Nl es X.env))) _ _ s
  refine QU (cM (ha pins s σ H _ I h) fun u s1 ⟨x,H1,I1,r1,q1⟩=>?_)
  exact cM (hr pos pins s1 σ H1 _ I1 q1) fun us s2 ⟨xs,H2,I2,r2,q2⟩=>⟨x::xs,H2,I2,.cons r1 r2,q2⟩
def Ic(t:TA):TE:=fun σ H Q=>t σ H fun xs H1=>xs.length≤Nr∧∀p,H1 p=none→Q (.ref p) (bC H1 p (.tup xs))
def Jz(t:TA):TE:=fun σ H Q=>t σ H fun xs H1=>xs.length≤Nr∧∀p,H1 p=none→Q (.ref p) (bC H1 p (.lst xs))
theorem Fq{x1}(h:PA X es t):PE X (.Tuple es x1 pos) (Ic t):=by
  intro pins s σ H Q I hq
  refine wpAny_Tuple_spliced (cM (h pos pins s σ H _ I hq) fun us s1 ⟨xs,H1,I1,r,z,q⟩=>⟨by rw [←r.length];exact z,?_⟩)
  have hf:H1 ↑s1=none:=I1.hok.fresh ↥8
  refine⟨.ref ↑s1,bC H1 ↑s1 (.tup xs),I1.laid (t':=s1.toks) (fun b u e=>Nz _ e) ↥8 ?_,rfl,q _ hf⟩
  exact⟨z,us,r,⟨_,Oj _ rfl,rfl,_,rfl,rfl⟩⟩
theorem AB(h:PA X es t):PE X (.List es pos) (Jz t):=by
  intro pins s σ H Q I hq
  refine wpAny_List_spliced (cM (h pos pins s σ H _ I hq) fun us s1 ⟨xs,H1,I1,r,z,q⟩=>⟨by rw [←r.length];exact z,?_⟩)
  have hf:H1 ↑s1=none:=I1.hok.fresh ↥8
  refine⟨.ref ↑s1,bC H1 ↑s1 (.lst xs),I1.laid (t':=s1.toks) (fun b u e=>Nz _ e) ↥8 ?_,rfl,q _ hf⟩
  exact⟨z,us,0,r,Oj _ rfl⟩
end
abbrev Sp:=List V→Hp→VK→XK→Prop
abbrev uR:=List Env→Hp→MZ→XK→MX→MZ→Prop
structure BN (P:Nk) (w:Ng) (K:⇑0) (mg:Str→Option MX) (base:Nh) (A:Nn) (outer:List Env) (s:MZ) (H:Hp):Prop where
  frames:A.frames=some outer
  mod:Mod K mg base
  bs:∀b o,base.get? b=some o→s.heap.get? b=some o∧H b=none
  bsz:base.objs.size≤↑s
  funs:s.heap.FunFrames base outer
  frf:∀b∈zB outer,H b=none
  hok:lE P w H s.heap
  bare:AllBare s.gens
def CE(outer:List Env)(P:Nk)(w:Ng)(H:Hp)(s:MZ)(Q:VK)(u:MX)(s':MZ):Prop:=
  ∃v H',s'.os=s.os∧AllBare s'.gens∧Un (zB outer) [] H H' s.heap s'.heap∧lE P w H' s'.heap∧bv v u∧Q v H'
def CR(CX:uR)(outer:List Env)(P:Nk)(w:Ng)(H:Hp)(s:MZ)(Q:VK)(E:XK)(r:Result)(s':MZ):Prop:=
  match r with
  | .ok (.ret u)=>CE outer P w H s Q u s'
  | .ok _=>False
  | .error e=>CX outer H s E e s'
structure aW (P:Nk) (w:Ng) (K:⇑0) (mg:Str→Option MX) (base:Nh) (CX:uR) (k:Nat) (f:MW) (fd:Nt) (ps:List Str) (sp:Sp):Prop where
  len:∀vs H Q E,sp vs H Q E→vs.length=ps.length
  run:∀(A:Nn) (outer:List Env) (s:MZ) (H:Hp) (args:Args) (us:List MX) (vs:List V) (Q:VK) (E:XK),dI k A→BN P w K mg base A outer s H→BindsTo s fd args (ps.zip us)→aR vs us→sp vs H Q E→
    codeAny (Ni P w) A (.call (.ref f) args) (CR CX outer P w H s Q E) s
section
variable{X:Cx}{pins:List (MW × Obj)}{σ:St}{H:Hp}{s s':MZ}
theorem aI.env0(I:aI X pins σ H s):BN X.prog X.w X.K X.mg X.base X.A X.stack s H:=
  ⟨I.ok.frames,I.ok.mod,I.bs,NS I.ok.bsz I.sz,I.stack,I.stkFree,I.hok,I.bare⟩
theorem aI.after{Q:VK}{u:MX}(I:aI X pins σ H s)(h:CE X.stack X.prog X.w H s Q u s'):EP X pins σ Q u s':=by
  obtain⟨v,H',os,bare,un,hok,r,q⟩:=h
  obtain⟨hh,g,d,t,os'⟩:=s'
  obtain rfl:os'=s.os:=os
  exact⟨v,H',I.call (h':=hh) (g':=g) (d':=d) (t':=t) (ch:=[]) un hok bare (fun b z=>absurd z ↥1),r,q⟩
end
def Bn(sp:Sp)(dvs:List V)(E:XK)(t:TA):TE:=fun σ H Q=>t σ H fun vs H1=>sp (vs++dvs) H1 Q E
def p6(K:⇑0)(fd:Nt)(ps:List Str)(ds:List MX):Prop:=
  ∀(s:MZ) (us:List MX),K.In s.heap→(us++ds).length=ps.length→BindsTo s fd ⟨us,[]⟩ (ps.zip (us++ds))
theorem p6.all{K:⇑0}{fd:Nt}{ps:List Str}(h:∀us:List MX,us.length=ps.length→bindArgs fd ⟨us,[]⟩=pure (ps.zip us)):p6 K fd ps []:=fun s us _ hl=>by
  rw [Qh] at hl ⊢
  exact .of_eq (h us hl)
def uS(CX:uR)(X:Cx)(E:XK):Prop:=∀(pins:List (MW × Obj)) (σ:St) (H:Hp) (s:MZ) (e:MX) (s':MZ),aI X pins σ H s→CX X.stack H s E e s'→X.xe e s'
section
variable{X:Cx}{CX:uR}{k:Nat}{f C:MW}{fd:Nt}{ps:List Str}{sp:Sp}{dvs:List V}{ds:List MX}{E:XK}{x m:Str}{p pos apos:Pos}{e o:Na}{es:List Na}{ta:TE}{t:TA}
theorem FZ{pins:List (MW × Obj)}{σ:St}{H:Hp}{s:MZ}{Q:VK}{us:List MX}{vs:List V}(F:aW X.prog X.w X.K X.mg X.base CX k f fd ps sp)(hr:dI k X.A)(hb:p6 X.K fd ps ds)(hd:aR dvs ds)(hx:uS CX X E)
    (I:aI X pins σ H s)(r:aR vs us)(h:sp (vs++dvs) H Q E):Nf (Ni X.prog X.w) X.A (call (.ref f) us) (EP X pins σ Q) X.xe s:=by
  have r2:aR (vs++dvs) (us++ds):=r.append hd
  have hl:(us++ds).length=ps.length:=by rw [←r2.length];exact F.len _ _ _ _ h
  refine wpAny_call (codeAny_mono (F.run X.A X.stack s H ⟨us,[]⟩ (us++ds) (vs++dvs) Q E hr I.env0 (hb s us I.kIn hl) r2 h) fun r s' hq=>?_)
  cases r with
  | error e=>exact hx pins σ H s e s' I hq
  | ok fl=>
    cases fl with
    | ret u=>exact I.after hq
    | next=>exact Pl hq
    | brk=>exact Pl hq
    | cont=>exact Pl hq
theorem CL(F:aW X.prog X.w X.K X.mg X.base CX k f fd ps sp)(hr:dI k X.A)(hg:Gl X x)(hm:X.mg x=some (.ref f))(hk:Qg X.K (.ref f)=true)(hb:p6 X.K fd ps ds)(hd:aR dvs ds)(hx:uS CX X E)
    (ha:PA X (e::es) t)(hdb:(x==("__debug__":Str))=false:=by decide)(he:Nl (e::es) X.env=(false,Nj e X.env)::Nl es X.env:=by rfl)(hpl:(NO pos (Nl es X.env)).any (·.1)=false:=by rfl):
    PE X (.Call (.Name x p) (e::es) [] pos) (Bn sp dvs E t):=by
  intro pins s σ H Q I h
  refine QV (wJ I hg hm ?_ hdb)
  refine PySem.W.callWith_K (h₀:=X.base) I.ok.mod.kin hk (cM (ha pos pins s σ H _ I h) fun us s1 ⟨vs,H1,I1,r,q⟩=>⟨I1.kIn,?_⟩) he hpl
  exact FZ F hr hb hd hx I1 r q
structure Mk (K:⇑0) (C f:MW):Prop where
  makes:PySem.W.makesIn K C=true
  init:QT K (.ref C) "__init__"=some (some (.ref f))
  fn:PySem.W.isFn K (.ref f)=true
  kp:Qg K (.ref C)=true
end
section
variable{X:Cx}{CX:uR}{k:Nat}{f C:MW}{fd:Nt}{ps ks:List Str}{sp:Sp}{E:XK}{x m:Str}{p pos apos kpos:Pos}{e o:Na}{es:List Na}{kws:List Oe}{te ta:TE}{t tk:TA}{nm:Option Str}
structure IM (K:⇑0) (fd:Nt) (ps ks:List Str) (g:List MX→List MX→List MX) (gV:List V→List V→List V):Prop where
  to:∀(s:MZ) (us ws:List MX),K.In s.heap→(g us ws).length=ps.length→BindsTo s fd ⟨us,ks.zip ws⟩ (ps.zip (g us ws))
  rel:∀{vs:List V} {us:List MX} {zs:List V} {ws:List MX},aR vs us→aR zs ws→aR (gV vs zs) (g us ws)
variable{g:List MX→List MX→List MX}{gV:List V→List V→List V}
end
structure aM (N P:List Str) (sc:NC):Prop where
  kind:sc.kind=.function
  co:sc.isCoroutine=false
  gen:sc.isGenerator=false
  nd:N.Nodup
  pre:N.take P.length=P
  par:∀x∈P,sc.names.lookup x=some .local∨sc.names.lookup x=some .cell
  nofree:∀y∈sc.names,y.2≠.free
theorem qb{OE:Str→Option Of}{x:Str}:∀{binds:List (Str × MX)} {m:Str→Option MX},(∀v,(x,v)∉binds)→bindL OE binds m x=m x
  | [],_,_=>rfl
  | (n,v)::r,m,h=>by
    unfold bindL
    rw [qb fun w hw=>h w (NT _ hw)]
    split
    · have:x≠n:=by rintro rfl;exact h v Pj
      simp [this]
    · rfl
theorem p_{OE:Str→Option Of}{x:Str}:∀{binds:List (Str × MX)} {m:Str→Option MX},(∀v,(x,v)∉binds)→bindC OE binds m x=m x
  | [],_,_=>rfl
  | (n,v)::r,m,h=>by
    unfold bindC
    rw [p_ fun w hw=>h w (NT _ hw)]
    split
    · rfl
    · have:x≠n:=by rintro rfl;exact h v Pj
      simp [this]
theorem qa{OE:Str→Option Of}{x:Str}{v:MX}:∀{P:List Str} {vs:List MX} {i:Nat} {m:Str→Option MX},P.Nodup→P[i]?=some x→vs[i]?=some v→OE x=some .local→
    bindL OE (P.zip vs) m x=some v
  | [],_,_,_,_,h,_,_=>by simp at h
  | _::_,[],_,_,_,_,h,_=>by simp at h
  | p::P,w::vs,0,m,nd,h1,h2,hk=>by
    simp at h1 h2;subst h1;subst h2
    show bindL OE ((p,w)::P.zip vs) m p=_
    unfold bindL
    rw [qb fun v hv=>(OY.mp nd).1 (List.of_mem_zip hv).1,if_pos hk]
    simp
  | p::P,w::vs,i+1,m,nd,h1,h2,hk=>by
    show bindL OE ((p,w)::P.zip vs) m x=_
    unfold bindL
    exact qa (i:=i) (OY.mp nd).2 (by simpa using h1) (by simpa using h2) hk
theorem p9{OE:Str→Option Of}{x:Str}{v:MX}:∀{P:List Str} {vs:List MX} {i:Nat} {m:Str→Option MX},P.Nodup→P[i]?=some x→vs[i]?=some v→OE x≠some .local→
    bindC OE (P.zip vs) m x=some v
  | [],_,_,_,_,h,_,_=>by simp at h
  | _::_,[],_,_,_,_,h,_=>by simp at h
  | p::P,w::vs,0,m,nd,h1,h2,hk=>by
    simp at h1 h2;subst h1;subst h2
    show bindC OE ((p,w)::P.zip vs) m p=_
    unfold bindC
    rw [p_ fun v hv=>(OY.mp nd).1 (List.of_mem_zip hv).1,if_neg hk]
    simp
  | p::P,w::vs,i+1,m,nd,h1,h2,hk=>by
    show bindC OE ((p,w)::P.zip vs) m x=_
    unfold bindC
    exact p9 (i:=i) (OY.mp nd).2 (by simpa using h1) (by simpa using h2) hk
def gR(N:List Str)(vs:List V):St:=vs.map some++Np (N.length - vs.length) none
def u9(CX:uR)(P:Nk)(w:Ng)(K:⇑0)(mg:Str→Option MX)(base:Nh)(N:List Str)(qual:Str)(scope:NC)(f:MW)(cd:MX)(A:Nn)(outer:List Env)(s:MZ)(H:Hp)(E:XK):Cx where
  prog:=P
  w:=w
  K:=K
  mg:=mg
  base:=base
  A:=A.deeper (envOfC qual scope ↑s f cd)
  N:=N
  s₀:=s
  H₀:=H
  env:=envOfC qual scope ↑s f cd
  outer:=outer
  stack:=envOfC qual scope ↑s f cd::outer
  ex:=[]
  calm:=true
  fn:=fun _=>true
  pn:=[]
  xe:=fun e s'=>Nf (Ni P w) (A.deeper (envOfC qual scope ↑s f cd)) (leaving (envOfC qual scope ↑s f cd) e) (fun _ s''=>CX outer H s E e s'') (fun e' s''=>CX outer H s E e' s'') s'
theorem tH{sc:NC}{n:Nat}{x:Str}(h:sc.names.lookup x=some .cell):∃c,(NK n sc.names []).lookup x=some c:=by
  have q:=PySem.W.cellsFrom_some sc.names n [] (.inl h)
  exact Option.isSome_iff_exists.mp q
theorem xW{CX:uR}{P:Nk}{w:Ng}{K:⇑0}{mg:Str→Option MX}{base:Nh}{N ps:List Str}{qual:Str}{scope:NC}{f:MW}{cd:MX}{A:Nn}{outer:List Env}{s s1:MZ}{H:Hp}{E:XK}{us:List MX}{vs:List V}
    (S:aM N ps scope)(hd:A.handled=none)(e0:BN P w K mg base A outer s H)(hl:vs.length=ps.length)(r:aR vs us)
    (x:InCallC s ↑s (bindL (envOfC qual scope ↑s f cd).kindOf (ps.zip us) fun _=>none) (NK (↑s+1) scope.names []) (bindC (envOfC qual scope ↑s f cd).kindOf (ps.zip us) fun _=>none) s1):
    aI (u9 CX P w K mg base N qual scope f cd A outer s H E) [] (gR N vs) H s1:=by
  have hpl:ps.length≤N.length:=by have:=congrArg List.length S.pre;rw [OK] at this;lia
  obtain⟨h1,tk,rfl,hk⟩:=x.done
  have noA:∀b:MW,b∉(u9 CX P w K mg base N qual scope f cd A outer s H E).ex:=fun b z=>absurd (show b∈([]:List MW) from z) ↥1
  refine⟨⟨e0.mod,S.kind,rfl,rfl,Ny _,fun y z c h1 h2=>?_,fun y hy=>?_,fun y c _ h=>?_,fun _=>hd,Around.frames_deeper e0.frames,.inr ⟨rfl,rfl⟩,fun b z=>absurd z (noA b),e0.bs,e0.bsz,fun b _ _=>noA b,fun b z=>absurd z (noA b),e0.funs,e0.frf⟩,
    rfl,e0.bare,Un.kept hk,⟨_,x.toInCall.ns,fun i y v h1 h2 h3=>?_⟩,fun y c h=>⟨_,x.cell y c h⟩,e0.hok.fresh ↥8,fun y c h=>?_,fun p hp=>absurd (show p∈([]:List (MW × Obj)) from hp) ↥1,e0.hok.kept hk,?_⟩
  · exact name_of_addr x.apart (QW h1) (QW h2)
  · have hy:scope.names.lookup y=some .cell∨scope.names.lookup y=some .free:=hy
    rcases hy with hy | hy
    · exact tH hy
    · exact absurd rfl (S.nofree _ (QW hy))
  · exact Qz (x.above y c (QW h))
  · have hi:i < vs.length:=by
      unfold gR at h2
      by_cases hi:i < vs.length
      · exact hi
      · rw [List.getElem?_append_right (by simpa using hi)] at h2
        rw [RU] at h2
        split at h2<;>cases h2
    have ha:vs[i]?=some v:=by
      unfold gR at h2
      rw [Pz (by simpa using hi),NH] at h2
      cases e:vs[i]? with
      | none=>rw [e] at h2;cases h2
      | some a=>rw [e] at h2;cases h2;rfl
    obtain⟨u,hu,rv⟩:=r.get ha
    have hp:ps[i]?=some y:=by
      rw [←S.pre,List.getElem?_take_of_lt ↥0];exact h1
    have ndP:ps.Nodup:=by rw [←S.pre];exact S.nd.sublist (List.take_sublist _ _)
    refine⟨u,rv,?_⟩
    rcases S.par y (MV hp) with k | k
    · exact .inl ⟨k,qa ndP hp hu k⟩
    · obtain⟨c,e⟩:=tH (n:=↑s+1) k
      refine .inr ⟨.inl k,c,e,?_⟩
      have q:=x.cell y c e
      rw [p9 ndP hp hu (by show scope.names.lookup y≠_;rw [k];decide)] at q
      exact q
  · exact e0.hok.fresh (Qz (x.above y c (QW h)))
  · unfold gR
    show _=N.length
    rw [Ox,Nw,Qi]
    lia
theorem GX{CX:uR}{P:Nk}{w:Ng}{K:⇑0}{mg:Str→Option MX}{base:Nh}{k:Nat}{f:MW}{name qual:Str}{params:Arguments}{body:List Nq}{scope:NC}{dV kV doc pm cdv ct oc:MX}{an od:Option MW}
    {osl:Array (Option MX)}{N ps:List Str}{sp:Sp}(lk:K.lookup f=some ⟨oc,od,.func (OL name qual params body scope dV kV doc pm an cdv ct),osl⟩)(hcd:QX K cdv qual=true)(S:aM N ps scope)
    (len:∀vs H Q E,sp vs H Q E→vs.length=ps.length)
    (hbody:∀(A:Nn) (outer:List Env) (s:MZ) (H:Hp) (vs:List V) (Q:VK) (E:XK),dI k (A.deeper (envOfC qual scope ↑s f cdv))→sp vs H Q E→
      ∃t,mM (u9 CX P w K mg base N qual scope f cdv A outer s H E) body t∧t {nx:=fun _ H'=>Q .non H',rt:=Q} (gR N vs) H):
    aW P w K mg base CX (k+1) f (OL name qual params body scope dV kV doc pm an cdv ct) ps sp:=by
  refine⟨len,fun A outer s H args us vs Q E hr e0 hb r hsp=>?_⟩
  have hl:=len _ _ _ _ hsp
  have KX:K.In s.heap:=e0.mod.kin.keeps fun b o e=>(e0.bs b o e).1
  have lim:s.heap.NoLimit:=e0.mod.nolimit.keeps fun b o e=>(e0.bs b o e).1
  have hkind:∀y∈ps.zip us,scope.names.lookup y.1=some .local∨(scope.names.lookup y.1=some .cell∧((NK (↑s+1) scope.names []).lookup y.1).isSome=true):=fun⟨n,v⟩ hy=>by
    rcases S.par n (List.of_mem_zip hy).1 with q | q
    · exact .inl q
    · exact .inr ⟨q,PySem.W.cellsFrom_some _ _ _ (.inl q)⟩
  refine codeAny_call_function hr.depth (KX _ _ lk) rfl S.co S.gen rfl (PySem.W.codeRec_of KX hcd) (hb _ _ _ _ ?_)
  refine wpAny_newFunctionEnv_cells S.kind hkind fun env he s1 x=>?_
  subst he
  refine⟨lim.keeps x.toInCall.keep,codeAny_func ?_⟩
  obtain⟨t,ht,hq⟩:=hbody A outer s H vs Q E (hr.deeper _) hsp
  have I:aI (u9 CX P w K mg base N qual scope f cdv A outer s H E) [] (gR N vs) H s1:=xW S hr.hd e0 hl r x
  refine NW (ht [] s1 (gR N vs) H _ I hq) (fun fl s' hs=>?_) fun e s' hs=>hs
  have fin:∀{σ':St} {H':Hp} {v:V} {u:MX},aI (u9 CX P w K mg base N qual scope f cdv A outer s H E) [] σ' H' s'→bv v u→Q v H'→CE outer P w H s Q u s':=
    fun{σ' H' v u} J rv q=>⟨v,H',J.os,J.bare,J.base,J.hok,rv,q⟩
  cases fl with
  | ret u=>
    obtain⟨v,σ',H',J,rv,q⟩:=hs
    exact fin J rv q
  | next=>
    obtain⟨σ',H',J,q⟩:=hs
    exact fin (v:=V.non) (u:=Value.none) J rfl q
  | brk=>
    obtain⟨_,_,_,q⟩:=hs
    exact Pl q
  | cont=>
    obtain⟨_,_,_,q⟩:=hs
    exact Pl q
section
variable{X:Cx}{x:Str}{p pos:Pos}{e:Na}{es:List Na}{t:TA}{id T:String}{r:List V→Hp→VK→Prop}
def Ju(r:List V→Hp→VK→Prop)(t:TA):TE:=fun σ H Q=>t σ H fun vs H1=>r vs H1 Q
theorem Aw(hc:fZ X (.builtin id) r)(hg:Gl X x)(hm:X.mg x=none)(hv:OX x=some (.builtin id))(ha:PA X (e::es) t)(hn:x≠"__name__":=by decide)(hdb:(x==("__debug__":Str))=false:=by decide)
    (he:Nl (e::es) X.env=(false,Nj e X.env)::Nl es X.env:=by rfl)(hpl:(NO pos (Nl es X.env)).any (·.1)=false:=by rfl):PE X (.Call (.Name x p) (e::es) [] pos) (Ju r t):=by
  intro pins s σ H Q I h
  refine QV (gr I hg hm hv ?_ hn hdb)
  exact PyProof.Rows.callWith_builtin1 (cM (ha pos pins s σ H _ I h) fun us s1 ⟨vs,H1,I1,r1,q1⟩=>hc pins s1 σ H1 vs us Q I1 r1 q1) he hpl
theorem yk(hc:fZ X (.type T) r)(hg:Gl X x)(hm:X.mg x=none)(hv:OX x=some (.type T))(ha:PA X (e::es) t)(hn:x≠"__name__":=by decide)(hdb:(x==("__debug__":Str))=false:=by decide)
    (he:Nl (e::es) X.env=(false,Nj e X.env)::Nl es X.env:=by rfl)(hpl:(NO pos (Nl es X.env)).any (·.1)=false:=by rfl):PE X (.Call (.Name x p) (e::es) [] pos) (Ju r t):=by
  intro pins s σ H Q I h
  refine QV (gr I hg hm hv ?_ hn hdb)
  exact Po (cM (ha pos pins s σ H _ I h) fun us s1 ⟨vs,H1,I1,r1,q1⟩=>hc pins s1 σ H1 vs us Q I1 r1 q1) he hpl
end
end L2
namespace HT
open PySem PyProof.Rows
def lexLt:List Int→List Int→Bool
  | [],[]=>false
  | [],_::_=>true
  | _::_,[]=>false
  | x::xs,y::ys=>if x=y then lexLt xs ys else decide (x < y)
theorem vD(x y:Int)(xs ys:List Int):lexLt (x::xs) (y::ys)=if x=y then lexLt xs ys else decide (x < y):=rfl
theorem pU:lexLt [] []=false:=rfl
theorem oD(y:Int)(ys:List Int):lexLt [] (y::ys)=true:=rfl
theorem oC(x:Int)(xs:List Int):lexLt (x::xs) []=false:=rfl
theorem zp(A:Nn)(s:MZ)(a:Int)(t:Tok)(c:Int)(u:Tok):∃e,SeqAt.EqAt A s (.int a t) (.int c u) e∧(e=true↔ a=c):=
  ⟨(a==c),SeqAt.EqAt.int_int a t c u,by simp⟩
theorem A9(A:Nn)(s:MZ)(a:Int)(t:Tok)(c:Int)(u:Tok)(prog:Nk)(w:Ng)(E:MX→MZ→Prop)(Q:MX→MZ→Prop)(h:Q (.bool (decide (a < c))) s):
    Nf (Ni prog w) A (richCompare .Lt (.int a t) (.int c u)) Q E s:=
  (PyProof.Rows.lt_int h:Nf (Ni prog w) A (NU .Lt (.int a t) (.int c u)) Q E s)
section
open PySem.SeqAt
open PySem.AutoSeq1 (wpAny_loadPart')
open PySem.MeetsSeq PySem.MeetsSeq2 PySem.MeetsSeq3
theorem pY(l b:MW)(items items2:Array MX)(n n2:Nat)(dd dd2:Option MW)(sl sl2:Array (Option MX))(ns ms:List Int)(hi:OM items.toList ns)(hj:OM items2.toList ms):
    Meets (Builtin.«tuple.__lt__» ⟨[.ref l,.ref b],[]⟩)
      (fun _ R s=>s.heap.get? l=some {cls:=.type "tuple",dict:=dd,data:=.seq items n,slots:=sl}∧s.heap.get? b=some {cls:=.type "tuple",dict:=dd2,data:=.seq items2 n2,slots:=sl2}∧
        R (.ok (.ret (.bool (lexLt ns ms)))) s):=
  .of_wp fun prog w A R s h=>by
    obtain⟨hp,g,d,tk,os⟩:=s;obtain⟨hl,hb,h⟩:=h
    have f2:=AutoSeq1.sub_tuple_tuple
    have z1:items.size=ns.length:=by rw [←hi.length];simp
    have z2:items2.size=ms.length:=by rw [←hj.length];simp
    wp_walk using ON hl,ON hb,wpAny_forIn_list _ (fun dP b s'=>b.1=none∧s'=⟨hp,g,d,tk,os⟩∧∃(vs ws:List MX) (ns' ms':List Int),dP=vs.zip ws∧
      OM vs ns'∧OM ws ms'∧ns'.length+items2.size=ms'.length+items.size∧R (.ok (.ret (.bool (lexLt ns' ms')))) ⟨hp,g,d,tk,os⟩) _
    case turn=>
      rintro⟨y,x⟩ dP b s' ⟨hb',rfl,vs,ws,ns',ms',hz,hvi,hwi,hlen,hR⟩
      cases hvi with
      | nil=>rw [List.zip_nil_left] at hz;cases hz
      | cons a t hvi'=>
        cases hwi with
        | nil=>rw [List.zip_nil_right] at hz;cases hz
        | cons c u hwi'=>
          rw [List.zip_cons_cons] at hz
          injection hz with hyx hrest
          injection hyx with hy hx
          subst hy hx
          rw [vD] at hR
          simp only [Pp] at hlen
          obtain⟨e,he,hiff⟩:=zp A.in1 ⟨hp,g,d,tk,os⟩ a t c u
          refine Nc (he prog w _ _ ?_)
          cases e with
          | true=>
            rw [if_pos (hiff.mp rfl)] at hR
            wp_walk
            exact⟨rfl,rfl,_,_,_,_,hrest,hvi',hwi',by lia,hR⟩
          | false=>
            rw [if_neg (fun q=>absurd (hiff.mpr q) Pn)] at hR
            have hri:=A9 A.in1 ⟨hp,g,d,tk,os⟩ a t c u prog w
            wp_walk using hri
            exact⟨_,rfl,by simpa using hR⟩
    case fin=>
      rintro⟨b1,b2⟩ s' ⟨hb',rfl,vs,ws,ns',ms',hz,hvi,hwi,hlen,hR⟩
      simp only at hb'
      subst hb'
      have hv:lexLt ns' ms'=decide (items.size < items2.size):=by
        cases hvi with
        | nil=>
          cases hwi with
          | nil=>
            simp only [Ro] at hlen
            rw [pU]
            exact(decide_eq_false ↥0).symm
          | cons c u hw=>
            simp only [Ro,Pp] at hlen
            rw [oD]
            exact(decide_eq_true ↥0).symm
        | cons a t hv=>
          cases hwi with
          | nil=>
            simp only [Ro,Pp] at hlen
            rw [oC]
            exact(decide_eq_false ↥0).symm
          | cons c u hw=>
            rw [List.zip_cons_cons] at hz
            cases hz
      rw [hv] at hR
      wp_walk
      exact⟨_,rfl,by simpa [Builtin.Tuple.tupleCompareSizes] using hR⟩
    case h=>
      exact⟨rfl,rfl,items.toList,items2.toList,ns,ms,rfl,hi,hj,by lia,h⟩
end
section
variable{prog:Nk}{w:Ng}{A:Nn}{E:MX→MZ→Prop}{s:MZ}
theorem lt_tupInts{l b:MW}{items items2:Array MX}{ns ms:List Int}{Q:MX→MZ→Prop}(hl:IsTup s.heap l items)(hb:IsTup s.heap b items2)(hi:OM items.toList ns)(hj:OM items2.toList ms)
    (hu:A.units < cLine)(h:Q (.bool (lexLt ns ms)) s):Nf (Ni prog w) A (NU .Lt (.ref l) (.ref b)) Q E s:=by
  obtain⟨⟨cls,dd,data,sl⟩,ho,hc,n,hd⟩:=id hl
  obtain⟨⟨cls2,dd2,data2,sl2⟩,ho2,hc2,n2,hd2⟩:=id hb
  simp only at hc hd hc2 hd2
  subst hc hd hc2 hd2
  exact richCompare_meets_room (op:=.Lt) ⟨_,ho,rfl⟩ ⟨_,ho2,rfl⟩ PySem.F.slot_tuple_lt PySem.F.entry_tuple_lt (PySem.F.args_tuple_lt_2 _ _) (pY l b items items2 n n2 dd dd2 sl sl2 ns ms hi hj)
    ⟨ho,ho2,show Value.bool (lexLt ns ms)≠Value.notImplemented∧Q (.bool (lexLt ns ms)) s from⟨(fun x=>nomatch x),h⟩⟩ hu
theorem cat_tup{t b:MW}{vs ws:List MX}{Q:MX→MZ→Prop}(ht:IsTup s.heap t vs.toArray)(hb:IsTup s.heap b ws.toArray)(hv:vs≠[])
    (h1:ws=[]→Q (.ref t) s)(h2:ws≠[]→Q (.ref ↑s) {s with heap:=s.heap.push {cls:=.type "tuple",data:=.seq (vs++ws).toArray}})
    (hsz:vs.length+ws.length≤Nr):Nf (Ni prog w) A (Oa .Add (.ref t) (.ref b)) Q E s:=by
  obtain⟨⟨cls,dd,data,sl⟩,ho,hc,n,hd⟩:=id ht
  obtain⟨⟨cls2,dd2,data2,sl2⟩,ho2,hc2,n2,hd2⟩:=id hb
  simp only at hc hd hc2 hd2
  subst hc hd hc2 hd2
  have e:vs.toArray++ws.toArray=(vs++ws).toArray:=by simp
  by_cases hw:ws=[]
  · exact concat_meets ⟨_,ho,rfl⟩ ⟨_,ho2,rfl⟩ noFill_tuple_add seq_tuple_add PySem.F.slot_tuple_add PySem.F.entry_tuple_add (PySem.F.args_tuple_add_2 _ _)
      (tuple_addW1 t b vs.toArray ws.toArray n n2 dd dd2 sl sl2 (by simpa using hv) (by simp [hw])) ⟨ho,ho2,h1 hw⟩
  · refine concat_meets ⟨_,ho,rfl⟩ ⟨_,ho2,rfl⟩ noFill_tuple_add seq_tuple_add PySem.F.slot_tuple_add PySem.F.entry_tuple_add (PySem.F.args_tuple_add_2 _ _)
      (tuple_addW2 t b vs.toArray ws.toArray n n2 dd dd2 sl sl2 (by simpa using hv) (by simpa using hw) (by rw [NA,NA];exact hsz)) ⟨ho,ho2,?_⟩
    rw [e]
    exact h2 hw
def sIx(n d:Nat):Option Int→Nat
  | none=>d
  | some v=>if v < 0 then(v+(n:Int)).toNat else min v.toNat n
theorem sIx_none(n d:Nat):sIx n d none=d:=rfl
theorem sIx_nat(n d k:Nat):sIx n d (some (k:Int))=min k n:=by
  show(if (k:Int) < 0 then((k:Int)+(n:Int)).toNat else min (k:Int).toNat n)=min k n
  rw [if_neg ↥0,OF]
theorem F7(n d:Nat)(hd:d≤n)(o:Option Int):sIx n d o≤n:=by
  cases o with
  | none=>exact hd
  | some v=>
    show(if v < 0 then(v+(n:Int)).toNat else min v.toNat n)≤n
    by_cases hv:v < 0
    · rw [if_pos hv];lia
    · rw [if_neg hv];exact Nat.min_le_right _ _
theorem wf(v:Int)(n d:Nat):(if v < 0 then max (v+(n:Int)) 0 else min v (n:Int))=((sIx n d (some v):Nat):Int):=by
  show(if v < 0 then max (v+(n:Int)) 0 else min v (n:Int))=(((if v < 0 then(v+(n:Int)).toNat else min v.toNat n):Nat):Int)
  by_cases hv:v < 0
  · simp only [if_pos hv];lia
  · simp only [if_neg hv];lia
theorem uU(lo hi:Option Int)(n:Nat):RV lo hi 1 (n:Int)=(((sIx n 0 lo:Nat):Int),((sIx n n hi:Nat):Int)):=by
  have h1:¬((1:Int) < 0):=by lia
  unfold RV
  simp only [h1,if_false]
  refine Prod.ext ?_ ?_
  · cases lo with
    | none=>rfl
    | some v=>exact wf v n 0
  · cases hi with
    | none=>rfl
    | some v=>exact wf v n n
theorem vI(i j:Nat):Qj (i:Int) (j:Int) 1=j - i:=by
  unfold Qj
  have h1:(1:Int) > 0:=by lia
  simp only [h1,if_true,Int.ediv_one]
  split<;>lia
theorem slicePart_{v:MX}{o:Option Int}{Q:Option Int→MZ→Prop}(p:IsPart v o)(h:Q o s):Nf (Ni prog w) A (Builtin.Slice.slicePartIndex v) Q E s:=by
  cases p with
  | none=>exact slicePart_none h
  | int i t=>exact slicePart_int h
theorem iz{sl:MW}{vl vu:MX}{lo hi:Option Int}{n:Nat}{Q:Int × Int × Nat→MZ→Prop}(hs:s.heap.IsSliceOf sl vl vu .none)(pl:IsPart vl lo)(pu:IsPart vu hi)
    (h:Q (((sIx n 0 lo:Nat):Int),1,sIx n n hi - sIx n 0 lo) s):Nf (Ni prog w) A (Rp (.ref sl) (pure (n:Int))) Q E s:=by
  obtain⟨os,hos,hcs,hds⟩:=id hs
  unfold Rp SK
  refine Nc (Nc (NZ hos hds (x:=vl) rfl (Nc (NZ hos hds (x:=vu) rfl (Nc (NZ hos hds (x:=.none) rfl (Nm ?_)))))))
  refine Nc (slicePart_none ?_)
  show Nf _ _ (if ((1:Int)==0)=true then _ else _) _ _ s
  rw [if_neg ⋯]
  refine Nc (slicePart_ pl (Nc (slicePart_ pu (Nc (Nm ?_)))))
  show Nf _ _ (match RV lo hi 1 (n:Int) with | (lo,hi)=>pure (lo,(1:Int),Qj lo hi 1)) _ _ s
  rw [uU lo hi n]
  show Nf _ _ (pure (((sIx n 0 lo:Nat):Int),(1:Int),Qj ((sIx n 0 lo:Nat):Int) ((sIx n n hi:Nat):Int) 1)) _ _ s
  rw [vI]
  exact Nm h
theorem AH(xs:Array MX)(i k:Nat):((Nb k).filterMap fun(m:Nat)=>xs[((i:Int)+(m:Int)*1).toNat]?).toArray=((xs.toList.drop i).take k).toArray:=by
  have e:(fun(m:Nat)=>xs[((i:Int)+(m:Int)*1).toNat]?)=fun m=>xs[i+m]?:=by
    funext m
    have:((i:Int)+(m:Int)*1).toNat=i+m:=by lia
    rw [this]
  rw [e]
  have:=pick_run xs i k
  rw [List.filterMap_map] at this
  have e2:((fun x=>xs[x]?) ∘ fun x=>i+x)=fun m=>xs[i+m]?:=rfl
  rw [e2] at this
  rw [this]
theorem getItem_tuple_cut{t sl:MW}{items:Array MX}{vl vu:MX}{lo hi:Option Int}{Q:MX→MZ→Prop}(ht:IsTup s.heap t items)(hs:s.heap.IsSliceOf sl vl vu .none)(pl:IsPart vl lo)(pu:IsPart vu hi)
    (hw:¬(sIx items.size 0 lo=0∧sIx items.size items.size hi=items.size))
    (h:Q (.ref ↑s) {s with heap:=s.heap.push {cls:=.type "tuple",data:=.seq ((items.toList.drop (sIx items.size 0 lo)).take (sIx items.size items.size hi - sIx items.size 0 lo)).toArray}})
    (hsz:items.size≤Nr):Nf (Ni prog w) A (getItem (.ref t) (.ref sl)) Q E s:=by
  have htake:sizeOk (.seq ((items.toList.drop (sIx items.size 0 lo)).take (sIx items.size items.size hi - sIx items.size 0 lo)).toArray):=by
    show((items.toList.drop (sIx items.size 0 lo)).take (sIx items.size items.size hi - sIx items.size 0 lo)).toArray.size≤Nr
    rw [NA,OK,OZ,QB]
    lia
  have hj:sIx items.size items.size hi≤items.size:=F7 _ _ ↥8 hi
  obtain⟨os,hos,hcs,hds⟩:=id hs
  have hTs:s.TypeIs (.ref sl) "slice":=⟨os,hos,hcs⟩
  unfold getItem
  try with_reducible refine Pm ?_
  first | refine Nc (Nm ?_) | skip
  refine Nc (wpAny_sequenceKey ht.typeIs ⋯ ?_)
  refine Nc (PX (name:=On "__getitem__") ht.typeIs Pq
    (PB Pq ht.typeIs entry_tuple_getitem ?_ (args_tuple_getitem _ _)))
  show Nf _ _ (RW (.ref t) >>= _) _ _ s
  refine Nc (tupleItemsOf_ ht ?_)
  refine Nc (wpAny_typeOf hTs ?_)
  rw [if_pos ⋯]
  refine Nc (iz hs pl pu ?_)
  have hno:¬((((sIx items.size 0 lo:Nat):Int)==0&&(1:Int)==1&&(sIx items.size items.size hi - sIx items.size 0 lo)==items.size)=true):=by
    intro q
    rw [NP,NP] at q
    have q1:((sIx items.size 0 lo:Nat):Int)=0:=eq_of_beq q.1.1
    have q2:sIx items.size items.size hi - sIx items.size 0 lo=items.size:=eq_of_beq q.2
    exact hw ⟨by lia,by lia⟩
  show Nf _ _ (if (((sIx items.size 0 lo:Nat):Int)==0&&(1:Int)==1&&(sIx items.size items.size hi - sIx items.size 0 lo)==items.size)=true then _ else _) _ _ s
  rw [if_neg hno,AH]
  first
    | exact Nc (m:=Pr _) (Ow (Nm ⟨_,rfl,Nm h⟩) htake)
    | exact Nc (m:=Pr _) (Ow (Nc (Nm (Nm ⟨_,rfl,Nm h⟩))) htake)
    | exact Nc (Nc (m:=Pr _) (Ow (Nm (Nm ⟨_,rfl,Nm h⟩)) htake))
    | exact Nc (Nc (m:=Pr _) (Ow (Nm ⟨_,rfl,Nm h⟩) htake))
end
end HT
namespace L2
open PySem PySem.Spec PyProof.Rows
abbrev TO:=St→Hp→(Option Int→Hp→Prop)→Prop
def PO(X:Cx)(e:Option Na)(t:TO):Prop:=
  ∀(pins:List (MW × Obj)) (s:MZ) (σ:St) (H:Hp) (Q:Option Int→Hp→Prop),aI X pins σ H s→t σ H Q→
    Nf (Ni X.prog X.w) X.A (evalPart e X.env) (fun u s'=>∃o H',aI X pins σ H' s'∧IsPart u o∧Q o H') X.xe s
def Dh:TO:=fun _ H Q=>Q none H
def Ia(t:TE):TO:=fun σ H Q=>t σ H fun x H1=>∃i,x=.int i∧Q (some i) H1
theorem vm{ns:List Int}:∀{us:List MX},aR (ns.map V.int) us→OM us ns:=by
  induction ns with
  | nil=>intro us r;rw [Oy] at r;cases r;exact .nil
  | cons n ns ih=>
    intro us r
    rw [Nx] at r
    cases r with
    | cons r1 r2=>
      obtain⟨t,e⟩:=r1
      subst e
      exact .cons n t (ih r2)
section
variable{X:Cx}{e:Na}{te:TE}{lo hi:Option Na}{tl th:TO}{pos p2:Pos}
theorem CU:PO X none Dh:=by
  intro pins s σ H Q I h
  rw [evalPart_none]
  exact Nm ⟨none,H,I,.none,h⟩
theorem CV(h:PE X e te):PO X (some e) (Ia te):=by
  intro pins s σ H Q I hw
  rw [evalPart_some]
  refine cM (h pins s σ H _ I hw) fun u s1 ⟨x,H1,I1,r1,q1⟩=>?_
  obtain⟨i,rfl,q⟩:=q1
  obtain⟨t,rfl⟩:=r1
  exact⟨some i,H1,I1,.int i t,q⟩
def BO(X:Cx)(r:V→Option Int→Option Int→Hp→VK→Prop):Prop:=
  ∀(pins:List (MW × Obj)) (s:MZ) (σ:St) (H:Hp) (x:V) (v vl vu:MX) (lo hi:Option Int) (sl:MW) (Q:VK),aI X pins σ H s→bv x v→s.heap.IsSliceOf sl vl vu .none→IsPart vl lo→IsPart vu hi→r x lo hi H Q→
    ∃T id,typeLookup (.type T) "__getitem__"=pure (some (.builtin id))∧s.TypeIs v T∧Nf (Ni X.prog X.w) X.A (getItem v (.ref sl)) (EP X pins σ Q) X.xe s
theorem BO.or{r r':V→Option Int→Option Int→Hp→VK→Prop}(h:BO X r)(h':BO X r'):BO X (fun x lo hi H Q=>r x lo hi H Q∨r' x lo hi H Q):=by
  intro pins s σ H x v vl vu lo hi sl Q I rx hs pl pu q
  rcases q with q | q
  · exact h pins s σ H x v vl vu lo hi sl Q I rx hs pl pu q
  · exact h' pins s σ H x v vl vu lo hi sl Q I rx hs pl pu q
def Kn(r:V→Option Int→Option Int→Hp→VK→Prop)(te:TE)(tl th:TO):TE:=fun σ H Q=>te σ H fun x H1=>tl σ H1 fun l H2=>th σ H2 fun u H3=>r x l u H3 Q
theorem AC{r:V→Option Int→Option Int→Hp→VK→Prop}(hr:BO X r)(he:PE X e te)(hl:PO X lo tl)(hu:PO X hi th):PE X (.Subscript e (.Slice lo hi none p2) pos) (Kn r te tl th):=by
  intro pins s σ H Q I h
  refine Subscript_ (cM (he pins s σ H _ I h) fun v s1 ⟨x,H1,I1,r1,q1⟩=>?_)
  refine wpAny_Slice (cM (hl pins s1 σ H1 _ I1 q1) fun vl s2 ⟨l,H2,I2,pl,q2⟩=>cM (hu pins s2 σ H2 _ I2 q2) fun vu s3 ⟨u,H3,I3,pu,q3⟩=>?_)
  rw [evalPart_none]
  refine Nm ?_
  have I4:aI X pins σ H3 {s3 with heap:=s3.heap.push {cls:=.type "slice",data:=.fields #[vl,vu,.none]}}:=I3.kept (t':=s3.toks) fun b ob q=>Nz _ q
  obtain⟨T,id,hT,ht,hg⟩:=hr pins {s3 with heap:=s3.heap.push {cls:=.type "slice",data:=.fields #[vl,vu,.none]}} σ H3 x v vl vu l u ↑s3 Q I4 r1 (RX ..) pl pu q3
  show Nf (Ni X.prog X.w) X.A (subscriptTail e (.Slice lo hi none p2) v (.ref ↑s3)) (EP X pins σ Q) X.xe {s3 with heap:=s3.heap.push {cls:=.type "slice",data:=.fields #[vl,vu,.none]}}
  exact tail_any (ops:=[.ref ↑s3,v]) ht hT hg (by with_unfolding_all rfl)
def pR(xs:List V)(lo hi:Option Int):List V:=(xs.drop (HT.sIx xs.length 0 lo)).take (HT.sIx xs.length xs.length hi - HT.sIx xs.length 0 lo)
theorem mz(xs:List V)(lo hi:Option Int):(pR xs lo hi).length≤xs.length:=by
  unfold pR
  rw [OK,OZ]
  lia
def HN(K:⇑0):V→Option Int→Option Int→Hp→VK→Prop:=fun x lo hi H Q=>∃a xs,x=.ref a∧dz K H a xs∧
  ¬(HT.sIx xs.length 0 lo=0∧HT.sIx xs.length xs.length hi=xs.length)∧∀p,H p=none→Q (.ref p) (bC H p (.tup (pR xs lo hi)))
theorem F8:BO X (HN X.K):=by
  intro pins s σ H x v vl vu lo hi sl Q I rx hs pl pu h
  obtain⟨a,xs,rfl,hx,hw,q⟩:=h
  cases rx
  obtain⟨its,r,ht,hz⟩:=I.tuple hx
  have hlen:its.toArray.size=xs.length:=by rw [NA];exact r.length.symm
  refine⟨"tuple",_,Pq.lookup,ht.typeIs,?_⟩
  refine HT.getItem_tuple_cut ht hs pl pu (by rw [hlen];exact hw) ?_ (by rw [hlen];exact hz)
  rw [hlen]
  refine⟨.ref ↑s,_,I.laid (t':=s.toks) (o:=.tup (pR xs lo hi)) (fun b ob q=>Nz _ q) ↥8 ?_,rfl,q _ (I.hok.fresh ↥8)⟩
  exact⟨NS (mz xs lo hi) hz,_,(r.drop (HT.sIx xs.length 0 lo)).take (HT.sIx xs.length xs.length hi - HT.sIx xs.length 0 lo),lG.new _ _⟩
def HG(K:⇑0):R2:=fun x y H Q=>∃a b xs ys,x=.ref a∧y=.ref b∧dz K H a xs∧dz K H b ys∧xs≠[]∧xs.length+ys.length≤Nr∧
  (ys=[]→Q (.ref a) H)∧(ys≠[]→∀p,H p=none→Q (.ref p) (bC H p (.tup (xs++ys))))
theorem aR.nil_iff{xs:List V}{us:List MX}(r:aR xs us):us=[]↔ xs=[]:=by
  cases r with
  | nil=>simp
  | cons _ _=>simp
theorem Cw:hV X (Oa .Add) (HG X.K):=by
  intro pins s σ H x y v u Q I rx ry h
  obtain⟨a,b,xs,ys,rfl,rfl,ha,hb,hx,hz,q1,q2⟩:=h
  cases rx
  cases ry
  obtain⟨its,r1,p1,_⟩:=I.tuple ha
  obtain⟨its2,r2,p2,_⟩:=I.tuple hb
  refine HT.cat_tup p1 p2 (fun z=>hx (r1.nil_iff.mp z)) (fun z=>⟨.ref a,H,I,rfl,q1 (r2.nil_iff.mp z)⟩) (fun z=>?_) (by rw [←r1.length,←r2.length];exact hz)
  refine⟨.ref ↑s,_,I.laid (t':=s.toks) (o:=.tup (xs++ys)) (fun b ob q=>Nz _ q) ↥8 ?_,rfl,q2 (fun w=>z (r2.nil_iff.mpr w)) _ (I.hok.fresh ↥8)⟩
  exact⟨by rw [Ox];exact hz,_,r1.append r2,lG.new _ _⟩
end
def m_(n:Nat)(i:Int):Option Nat:=if 0≤i then(if i < n then some i.toNat else none) else if -(n:Int)≤i then some (i+n).toNat else none
def atI{α:Type}(xs:List α)(i:Int):Option α:=(m_ xs.length i).bind fun j=>xs[j]?
theorem wG{n:Nat}{i:Int}{j:Nat}(h:m_ n i=some j):seqIndex? i n=some j∧j < n∧ -(n:Int)≤i∧i < n:=by
  unfold m_ at h
  by_cases h0:0≤i
  · rw [if_pos h0] at h
    by_cases h1:i < n
    · rw [if_pos h1] at h
      have e:i.toNat=j:=NQ h
      exact⟨by rw [seqIndex_of h0 h1,e],by lia,by lia,h1⟩
    · rw [if_neg h1] at h;cases h
  · rw [if_neg h0] at h
    by_cases h1: -(n:Int)≤i
    · rw [if_pos h1] at h
      have e:(i+n).toNat=j:=NQ h
      exact⟨by rw [seqIndex_neg ↥0 h1,e],by lia,h1,by lia⟩
    · rw [if_neg h1] at h;cases h
theorem vZ{α:Type}{xs:List α}{i:Int}{v:α}(h:atI xs i=some v):∃j,seqIndex? i xs.length=some j∧xs[j]?=some v∧j < xs.length∧ -(xs.length:Int)≤i∧i < xs.length:=by
  unfold atI at h
  cases e:m_ xs.length i with
  | none=>rw [e] at h;cases h
  | some j=>
    rw [e] at h
    obtain⟨h1,h2,h3,h4⟩:=wG e
    exact⟨j,h1,h,h2,h3,h4⟩
def mZ(b:Na):Prop:=∀o i,subscripted b false o i=operate [o,i] (getItem o i)
def BH(X:Cx)(r:R2):Prop:=
  ∀(value slice:Na) (pins:List (MW × Obj)) (s:MZ) (σ:St) (H:Hp) (x y:V) (v u:MX) (Q:VK),aI X pins σ H s→bv x v→bv y u→r x y H Q→
    subscripted slice false v u=operate [v,u] (getItem v u)→Nf (Ni X.prog X.w) X.A (subscriptTail value slice v u) (EP X pins σ Q) X.xe s
def JL(X:Cx)(id:String)(r:V→List V→Hp→VK→Prop):Prop:=
  ∀(pins:List (MW × Obj)) (s:MZ) (σ:St) (H:Hp) (x:V) (xs:List V) (v:MX) (us:List MX) (Q:VK),aI X pins σ H s→bv x v→aR xs us→r x xs H Q→
    Nf (Ni X.prog X.w) X.A (call (.builtin id) (v::us)) (EP X pins σ Q) X.xe s
section
variable{X:Cx}{a b:Na}{ta tb:TE}{pos:Pos}
theorem BH.or{r r':R2}(h:BH X r)(h':BH X r'):BH X (fun x y H Q=>r x y H Q∨r' x y H Q):=by
  intro value slice pins s σ H x y v u Q I rx ry q hs
  rcases q with q | q
  · exact h value slice pins s σ H x y v u Q I rx ry q hs
  · exact h' value slice pins s σ H x y v u Q I rx ry q hs
theorem D3{r:R2}(hr:BH X r)(ha:PE X a ta)(hb:PE X b tb)(hs:mZ b):PE X (.Subscript a b pos) (H_ r ta tb):=by
  intro pins s σ H Q I h
  exact Subscript_ (Eu ha hb I h fun v u s2 x y H2 I2 rx ry q=>hr a b pins s2 σ H2 x y v u Q I2 rx ry q (hs _ _))
def FQ(K:⇑0):R2:=fun x y H Q=>∃p xs i v,x=.ref p∧y=.int i∧gC K H p xs∧atI xs i=some v∧Q v H
def HK(K:⇑0):R2:=fun x y H Q=>∃p xs i v,x=.ref p∧y=.int i∧dz K H p xs∧atI xs i=some v∧Q v H
theorem wH:BH X (FQ X.K):=by
  intro value slice pins s σ H x y v u Q I rx ry h hs
  obtain⟨p,xs,i,z,rfl,rfl,hq,he,q⟩:=h
  cases rx
  obtain⟨t,rfl⟩:=ry
  obtain⟨its,r,pl,hz⟩:=I.list hq
  obtain⟨j,h1,h2,h3,h4,h5⟩:=vZ he
  obtain⟨w,ew,rw'⟩:=r.get h2
  have hl:=r.length
  have hn:=oE
  have fin:EP X pins σ Q w s:=⟨z,H,I,rw',q⟩
  by_cases h0:0≤i
  · have hj:i.toNat=j:=by
      rw [seqIndex_of h0 h5] at h1
      exact NQ h1
    exact item_listR pl.isList h0 ↥0 (by rw [hj];simpa using ew) fin hs
  · have hj:(i+(its.toArray.size:Int)).toNat=j:=by
      rw [seqIndex_neg ↥0 h4] at h1
      rw [NA,←hl]
      exact NQ h1
    exact subscriptTail_builtinR (x:=w) pl.isList.typeIs slot_list_getitem.lookup
      (wpAny_getItem_list_neg (Q:=fun r s'=>r=w∧EP X pins σ Q r s') pl.isList ↥0 (by rw [NA]<;>lia) ↥0 (by rw [hj];simpa using ew) ⟨rfl,fin⟩) hs
theorem EH:BH X (HK X.K):=by
  intro value slice pins s σ H x y v u Q I rx ry h hs
  obtain⟨p,xs,i,z,rfl,rfl,hq,he,q⟩:=h
  cases rx
  obtain⟨t,rfl⟩:=ry
  obtain⟨its,r,pl,hz⟩:=I.tuple hq
  obtain⟨j,h1,h2,h3,h4,h5⟩:=vZ he
  obtain⟨w,ew,rw'⟩:=r.get h2
  have hl:=r.length
  have hn:=oE
  have fin:EP X pins σ Q w s:=⟨z,H,I,rw',q⟩
  exact subscriptTail_builtinR (x:=w) pl.typeIs Pq.lookup
    (getItem_tuple (j:=j) (Q:=fun r s'=>r=w∧EP X pins σ Q r s') pl ↥0 ↥0 (by rw [NA,←hl];exact h1) (by simpa using ew) ⟨rfl,fin⟩) hs
theorem vE(its:List MX)(n j:Nat)(u:MX):Qk (·.setIfInBounds j u) {cls:=.type "list",data:=.seq its.toArray n}={cls:=.type "list",data:=.seq (its.set j u).toArray n}:=by
  simp [Qk]
theorem aI.lst{pins:List (MW × Obj)}{σ:St}{H:Hp}{s:MZ}{p:MW}{xs:List V}(I:aI X pins σ H s)(h:H p=some (.lst xs)):
    ∃(its:List MX) (n:Nat),aR xs its∧s.heap.get? p=some {cls:=.type "list",data:=.seq its.toArray n}∧xs.length≤Nr:=by
  obtain⟨z,its,n,r,e⟩:=I.hok p _ h
  exact⟨its,n,r,e,z⟩
theorem aI.lstUpd{pins:List (MW × Obj)}{σ:St}{H:Hp}{s:MZ}{p:MW}{xs ys:List V}{its its':List MX}{n n':Nat}{f:Obj→Obj}(I:aI X pins σ H s)(h:H p=some (.lst xs))
    (ho:s.heap.get? p=some {cls:=.type "list",data:=.seq its.toArray n})(hf:f {cls:=.type "list",data:=.seq its.toArray n}={cls:=.type "list",data:=.seq its'.toArray n'})(r:aR ys its')(hz:ys.length≤Nr)(t:Nat):
    aI X pins σ (bC H p (.lst ys)) {s with heap:=s.heap.update p f,toks:=t}:=by
  have e:(s.heap.update p f).get? p=some {cls:=.type "list",data:=.seq its'.toArray n'}:=by
    rw [RY f ho (by rw [hf]<;>rfl),hf]
  refine I.write (x:=p) (e:=p) (by rw [h];trivial) (.inl rfl) (fun b u hb q=>(Ql _ _ (NF hb)).trans q) ⟨_,e⟩ ?_
  exact⟨hz,its',n',r,e⟩
def HL:V→V→V→Hp→(Hp→Prop)→Prop:=fun o i v H Q=>∃p xs k j,o=.ref p∧i=.int k∧H p=some (.lst xs)∧m_ xs.length k=some j∧Q (bC H p (.lst (xs.set j v)))
theorem pe:GI X HL:=by
  intro pins s σ H o i v ov iv u Q I ro ri rv h
  obtain⟨p,xs,k,j,rfl,rfl,hp,hj,q⟩:=h
  cases ro
  obtain⟨t,rfl⟩:=ri
  obtain⟨its,n,r,ho,hz⟩:=I.lst hp
  obtain⟨h1,h2,h3,h4⟩:=wG hj
  have hl:=r.length
  have hn:=oE
  have I':aI X pins σ (bC H p (.lst (xs.set j v))) {s with heap:=s.heap.update p (Qk (·.setIfInBounds j u))}:=
    I.lstUpd hp ho (vE its n j u) (r.set rv j) (by rw [Pa];exact hz) s.toks
  by_cases h0:0≤k
  · have hk:k.toNat=j:=by
      rw [seqIndex_of h0 h4] at h1
      exact NQ h1
    exact PySem.W.ki_setAt ho h0 ↥0 (by rw [NA,←hl];exact h4) (by rw [hk];exact⟨_,I',q⟩)
  · have hk:(k+(its.toArray.size:Int)).toNat=j:=by
      rw [seqIndex_neg ↥0 h3] at h1
      rw [NA,←hl]
      exact NQ h1
    exact PySem.W.ki_setBack ho ↥0 (by rw [NA,←hl];exact h3) ↥0 (by rw [hk];exact⟨_,I',q⟩)
theorem sO(lo hi:Option Int)(n:Nat):(Qm lo hi none n).1=((HT.sIx n 0 lo:Nat):Int)∧(Qm lo hi none n).2.1=((HT.sIx n n hi:Nat):Int)∧(Qm lo hi none n).2.2=1:=by
  refine⟨?_,?_,rfl⟩
  · cases lo with
    | none=>simp [Qm,HT.sIx]
    | some i=>
      simp only [Qm,HT.sIx,Option.getD_none,show(1:Int) > 0 by decide,if_true]
      by_cases h:i < 0
      · simp only [h,if_true]<;>lia
      · simp only [h,if_false]<;>lia
  · cases hi with
    | none=>simp [Qm,HT.sIx]
    | some i=>
      simp only [Qm,HT.sIx,Option.getD_none,show(1:Int) > 0 by decide,if_true]
      by_cases h:i < 0
      · simp only [h,if_true]<;>lia
      · simp only [h,if_false]<;>lia
theorem pW(its:List MX)(lo hi:Option Int):slicePick its.toArray lo hi none=((its.drop (HT.sIx its.length 0 lo)).take (HT.sIx its.length its.length hi - HT.sIx its.length 0 lo)).toArray:=by
  obtain⟨h1,h2,h3⟩:=sO lo hi its.toArray.size
  unfold slicePick
  rw [h1,h2,h3]
  simp only [sliceRange_one,pick_run,NA]<;>rfl
def HM(K:⇑0):V→Option Int→Option Int→Hp→VK→Prop:=fun x lo hi H Q=>∃a xs,x=.ref a∧gC K H a xs∧∀p,H p=none→Q (.ref p) (bC H p (.lst (pR xs lo hi)))
theorem De:BO X (HM X.K):=by
  intro pins s σ H x v vl vu lo hi sl Q I rx hs pl pu h
  obtain⟨a,xs,rfl,hx,q⟩:=h
  cases rx
  obtain⟨its,r,ht,hz⟩:=I.list hx
  have hlen:=r.length
  refine⟨"list",_,slot_list_getitem.lookup,ht.isList.typeIs,?_⟩
  refine wpAny_getItem_list_slice ht.isList hs pl pu .none ↥1 ?_ (by rw [NA]<;>lia)
  rw [pW,←hlen]
  refine⟨.ref ↑s,_,I.laid (t':=s.toks) (o:=.lst (pR xs lo hi)) (fun b ob q=>Nz _ q) ↥8 ?_,rfl,q _ (I.hok.fresh ↥8)⟩
  exact⟨NS (mz xs lo hi) hz,_,0,(r.drop (HT.sIx xs.length 0 lo)).take (HT.sIx xs.length xs.length hi - HT.sIx xs.length 0 lo),Oj _ rfl⟩
theorem qX:fZ X (.builtin "len") (fun xs H Q=>∃p ys,xs=[.ref p]∧(gC X.K H p ys∨dz X.K H p ys)∧Q (.int ys.length) H):=by
  intro pins s σ H xs us Q I r h
  obtain⟨p,ys,rfl,hq,q⟩:=h
  obtain⟨u,rfl,rx⟩:=qO r
  cases rx
  have hn:=oE
  rcases hq with hq | hq
  · obtain⟨its,r',pl,hz⟩:=I.list hq
    have hlen:=r'.length
    exact Calls.call_len_list pl.isList (by simp only [NA]<;>lia) ⟨.int ys.length,H,I.tok _,⟨s.toks+1,by rw [NA,hlen]⟩,q⟩
  · obtain⟨its,r',pl,hz⟩:=I.tuple hq
    have hlen:=r'.length
    exact len_tuple pl (by simp only [NA]<;>lia) ⟨.int ys.length,H,I.tok _,⟨s.toks+1,by rw [NA,hlen]⟩,q⟩
theorem qY:fZ X (.type "list") (fun xs H Q=>∃p ys,xs=[.ref p]∧(gC X.K H p ys∨dz X.K H p ys)∧∀l,H l=none→Q (.ref l) (bC H l (.lst ys))):=by
  intro pins s σ H xs us Q I r h
  obtain⟨p,ys,rfl,hq,q⟩:=h
  obtain⟨u,rfl,rx⟩:=qO r
  cases rx
  have fin:∀(its:List MX),aR ys its→ys.length≤Nr→∀(h':Nh) (c':Nat),(∀b o',s.heap.get? b=some o'→h'.get? b=some o')→
      h'.get? ↑s=some {cls:=.type "list",dict:=none,data:=.seq its.toArray c',slots:=#[]}→EP X pins σ Q (.ref ↑s) {s with heap:=h'}:=fun its r' hz h' c' kp e=>
    ⟨.ref ↑s,_,I.laid (t':=s.toks) kp ↥8 (show dy X.prog X.w _ h' _ (.lst ys) from⟨hz,its,c',r',e⟩),rfl,q _ (I.hok.fresh ↥8)⟩
  rcases hq with hq | hq
  · obtain⟨its,r',pl,hz⟩:=I.list hq
    have hlen:=r'.length
    obtain⟨o,ho,hc,n,hd⟩:=pl.isList
    exact call_list_seq p (.inl rfl) ho hc hd (fun h' c' kp e=>fin its r' hz h' c' kp e) (by simp only [NA]<;>lia)
  · obtain⟨its,r',pl,hz⟩:=I.tuple hq
    have hlen:=r'.length
    obtain⟨o,ho,hc,n,hd⟩:=pl
    exact call_list_seq p (.inr rfl) ho hc hd (fun h' c' kp e=>fin its r' hz h' c' kp e) (by simp only [NA]<;>lia)
theorem pO:fZ X (.type "tuple") (fun xs H Q=>∃p ys,xs=[.ref p]∧((gC X.K H p ys∧∀l,H l=none→Q (.ref l) (bC H l (.tup ys)))∨(dz X.K H p ys∧Q (.ref p) H))):=by
  intro pins s σ H xs us Q I r h
  obtain⟨p,ys,rfl,h⟩:=h
  obtain⟨u,rfl,rx⟩:=qO r
  cases rx
  rcases h with ⟨hq,q⟩ | ⟨hq,q⟩
  · obtain⟨its,r',pl,hz⟩:=I.list hq
    have hlen:=r'.length
    refine call_tuple_list pl.isList (fun h' kp=>?_) (by simp only [NA]<;>lia)
    have I1:aI X pins σ H {s with heap:=h'}:=I.kept (t':=s.toks) kp
    have I2:aI X pins σ (bC H h'.objs.size (.tup ys)) {s with heap:=h'.push {cls:=.type "tuple",data:=.seq its.toArray}}:=
      I1.laid (t':=s.toks) (fun b o e=>Nz _ e) ↥8 (show dy X.prog X.w _ _ _ (.tup ys) from⟨hz,its,r',lG.new _ _⟩)
    exact⟨.ref h'.objs.size,_,I2,rfl,q _ (I1.hok.fresh ↥8)⟩
  · obtain⟨its,r',pl,hz⟩:=I.tuple hq
    exact call_tuple_same pl ⟨.ref p,H,I,rfl,q⟩
def J0(K:⇑0)(T:String)(x:V)(H:Hp):Prop:=match x with
  | .str _=>T="str"
  | .int _=>T="int"
  | .ref p=>(T="list"∧∃xs,gC K H p xs)∨(T="tuple"∧∃o,K.lookup p=some o∧o.cls=.type "tuple"∧o.dict=none)∨
      (T="dict"∧((∃kvs,H p=some (.dK kvs))∨∃kvs,H p=some (.dT kvs)))∨(T="set"∧∃S n,H p=some (.set S n))
  | _=>False
theorem Gn{pins:List (MW × Obj)}{σ:St}{H:Hp}{s:MZ}{T:String}{x:V}{v:MX}(I:aI X pins σ H s)(r:bv x v)(ty:J0 X.K T x H):
    s.TypeIs v T∧∀a,v=.ref a→∃ob,s.heap.get? a=some ob∧ob.dict=none:=by
  cases x with
  | str z=>
    obtain⟨t,rfl⟩:=r
    cases (show T="str" from ty)
    exact⟨typeIs_str s z t,fun _ e=>nomatch e⟩
  | int i=>
    obtain⟨t,rfl⟩:=r
    cases (show T="int" from ty)
    exact⟨QY s i t,fun _ e=>nomatch e⟩
  | ref p=>
    cases r
    rcases ty with ⟨rfl,xs,hq⟩ | ⟨rfl,o,hk,hc,hd⟩ | ⟨rfl,hk⟩ | ⟨rfl,S,n,hk⟩
    · obtain⟨its,_,pl,_⟩:=I.list hq
      refine⟨pl.isList.typeIs,fun a e=>?_⟩
      cases e
      obtain⟨o,n,e,c,hd,_⟩:=pl
      exact⟨o,e,hd⟩
    · refine⟨⟨o,I.kIn p o hk,hc⟩,fun a e=>?_⟩
      cases e
      exact⟨o,I.kIn _ o hk,hd⟩
    · have z:∃o,s.heap.get? p=some o∧o.ExactDict:=by
        rcases hk with ⟨kvs,hk⟩ | ⟨kvs,hk⟩
        · obtain⟨_,_,_,_,o,_,_,e,ex,_⟩:=I.hok p _ hk
          exact⟨o,e,ex⟩
        · obtain⟨_,_,_,_,o,_,_,e,ex,_⟩:=I.hok p _ hk
          exact⟨o,e,ex⟩
      obtain⟨o,e,ex⟩:=z
      refine⟨⟨o,e,ex.1⟩,fun a e2=>?_⟩
      cases e2
      exact⟨o,e,ex.2.1⟩
    · obtain⟨o,_,_,_,e,ex,_⟩:=I.hok p _ hk
      refine⟨⟨o,e,ex.1⟩,fun a e2=>?_⟩
      cases e2
      exact⟨o,e,ex.2.1⟩
  | _=>exact Pl ty
def JX(K:⇑0)(T:String)(r:V→List V→Hp→VK→Prop)(to:TE)(t:TA):TE:=fun σ H Q=>to σ H fun x H1=>J0 K T x H1∧t σ H1 fun xs H2=>r x xs H2 Q
variable{o e:Na}{es:List Na}{to:TE}{t:TA}{name:Str}{apos cpos:Pos}{T id:String}{r:V→List V→Hp→VK→Prop}
theorem D2(pa:PlainAttrs T)(slot:Slot T name id)(hty:typeOf (.builtin id)=pure (.type "method_descriptor"))(hm:JL X id r)(ho:PE X o to)(ha:PA X (e::es) t)
    (hbase:Qn o name X.env (Nj o X.env)=Nj o X.env:=by rfl)
    (hfew:((NO cpos (Nl (e::es) X.env)).all (fun x=> !x.1)&&(backToKw cpos (Qo [] X.env)).all (fun x=>x.1.isSome)
      &&decide ((e::es).length+([]:List Oe).length+(if ([]:List Oe).isEmpty then 0 else 1) < 30))=true:=by rfl)
    (hline:(apos.endLine==cpos.line)=true:=by rfl)(hs:Nl (e::es) X.env=(false,Nj e X.env)::Nl es X.env:=by rfl)(hplain:(NO cpos (Nl es X.env)).any (·.1)=false:=by rfl):
    PE X (.Call (.Attribute o name apos) (e::es) [] cpos) (JX X.K T r to t):=by
  intro pins s σ H Q I h
  refine wpAny_Call_method_late hbase hfew hline rfl (cM (ho pins s σ H _ I h) fun v s1 ⟨x,H1,I1,r1,ty,q1⟩=>?_)
  obtain⟨h1,h2⟩:=Gn I1 r1 ty
  refine⟨T,id,pa,slot,hty,h1,h2,?_⟩
  have hA:=ha cpos pins s1 σ H1 _ I1 q1
  rw [hs] at hA ⊢
  refine Calls.callWith_builtin (by show(false || (NO cpos (Nl es X.env)).any (·.1))=false;rw [hplain]<;>rfl) (Calls.evalArgs_plain ?_)
  exact cM hA fun us s2 ⟨vs,H2,I2,r2,q2⟩=>hm pins s2 σ H2 x vs v us Q I2 r1 r2 q2
end
def JK(X:Cx)(id:String)(r:V→List V→Hp→VK→Prop):Prop:=
  ∀(pins:List (MW × Obj)) (s:MZ) (σ:St) (H:Hp) (x:V) (xs:List V) (v:MX) (us:List MX) (Q:VK),aI X pins σ H s→bv x v→aR xs us→r x xs H Q→
    Nf (Ni X.prog X.w) X.A (call (.builtin id) (v::us)) (EP X pins σ Q) X.xe s
theorem aR.one:∀{x:V} {us:List MX},aR [x] us→∃u,us=[u]∧bv x u
  | _,_,.cons r .nil=>⟨_,rfl,r⟩
theorem aR.eraseIdx:∀{xs:List V} {us:List MX} (i:Nat),aR xs us→aR (xs.eraseIdx i) (us.eraseIdx i)
  | _,_,_,.nil=>.nil
  | _,_,0,.cons _ t=>t
  | _,_,i+1,.cons r t=>.cons r (aR.eraseIdx i t)
theorem aR.reverse{xs:List V}{us:List MX}(h:aR xs us):aR xs.reverse us.reverse:=by
  induction h with
  | nil=>exact .nil
  | cons r t ih=>rw [Rq,Rq];exact aR.append ih (.cons r .nil)
theorem aR.rep{xs:List V}{us:List MX}(h:aR xs us):∀k:Nat,aR (Np k xs).flatten (Np k us).flatten
  | 0=>.nil
  | k+1=>by
    rw [PY,PY,Rr,Rr]
    exact aR.append h (aR.rep h k)
theorem ql{α:Type}:∀(l:List α) (i:Nat),(l.eraseIdx i).length≤l.length
  | [],_=>Ny _
  | _::_,0=>Nat.le_succ _
  | _::r,i+1=>Nat.succ_le_succ (ql r i)
theorem qh(its:List MX):∀(k:Nat) (acc:List MX),
    QE (fun x1 x2=>x1++x2) acc.toArray (Np k its.toArray)=(acc++(Np k its).flatten).toArray
  | 0,acc=>by simp
  | k+1,acc=>by
    have e:acc.toArray++its.toArray=(acc++its).toArray:=by simp
    have e2:(acc++its)++(Np k its).flatten=acc++(Np (k+1) its).flatten:=by
      rw [PY,Rr,List.append_assoc]
    rw [←e2,←qh its k (acc++its),←e,PY,List.foldl_cons]
section
variable{X:Cx}{pins:List (MW × Obj)}{σ:St}{H:Hp}{s:MZ}{l b:MW}{xs ys zs:List V}
theorem aI.lset{its its':List MX}{n:Nat}{f:Array MX→Array MX}{t':Nat}(I:aI X pins σ H s)(hH:H l=some (.lst xs))
    (e:s.heap.get? l=some {cls:=.type "list",data:=.seq its.toArray n})(hf:f its.toArray=its'.toArray)(hv:aR ys its')(hz:ys.length≤Nr):
    aI X pins σ (bC H l (.lst ys)) {s with heap:=s.heap.update l (Qk f),toks:=t'}:=by
  have q:=PySem.IsL.update e f
  rw [hf] at q
  refine I.write (x:=l) (e:=l) (by rw [hH];exact trivial) (.inl rfl) (fun b' u hb hu=>(Ql s.heap (Qk f) (NF hb)).trans hu) ⟨_,q⟩ ?_
  exact⟨hz,its',_,hv,q⟩
theorem aI.lnew{its:List MX}{t':Nat}(I:aI X pins σ H s)(hv:aR ys its)(hz:ys.length≤Nr):
    aI X pins σ (bC H ↑s (.lst ys)) {s with heap:=s.heap.push {cls:=.type "list",data:=.seq its.toArray},toks:=t'}:=
  I.laid (fun _ _ q=>Nz _ q) ↥8 ⟨hz,its,0,hv,Oj _ rfl⟩
theorem aI.fresh(I:aI X pins σ H s):H ↑s=none:=I.hok.fresh ↥8
theorem aI.lstM(I:aI X pins σ H s)(hH:H l=some (.lst xs)):xs.length≤Nr∧∃(its:List MX) (n:Nat),aR xs its∧xs.length=its.length∧s.heap.get? l=some {cls:=.type "list",data:=.seq its.toArray n}:=by
  obtain⟨z,its,n,r,e⟩:=I.hok l _ hH
  exact⟨z,its,n,r,r.length,e⟩
theorem Ak{n:Nat}(h:n≤Nr):RZ n=false:=by
  unfold RZ
  exact decide_eq_false ↥0
end
section
variable{X:Cx}
def wW:V→List V→Hp→VK→Prop:=fun x vs H Q=>∃l xs y,x=.ref l∧vs=[y]∧H l=some (.lst xs)∧xs.length < Nr∧Q .non (bC H l (.lst (xs++[y])))
theorem lZ:JK X "list.append" wW:=by
  intro pins s σ H x vs v us Q I rx rv h
  obtain⟨l,xs,y,rfl,rfl,hH,hz,q⟩:=h
  cases rx
  obtain⟨u,rfl,ru⟩:=rv.one
  obtain⟨z,its,n,r,hl,e⟩:=I.lstM hH
  refine Qa Sa ⟨_,e,rfl⟩ F.entry_list_append (F.args_list_append_2 _ _) (PySem.list_append l its.toArray n u (by rw [NA];lia)) ⟨e,?_⟩
  refine⟨.non,_,I.lset (its':=its++[u]) hH e ↥1 (r.append (.cons ru .nil)) ?_,rfl,q⟩
  rw [Ox,List.length_singleton]
  lia
def A6:V→List V→Hp→VK→Prop:=fun x vs H Q=>∃l xs i k y,x=.ref l∧vs=[.int i]∧H l=some (.lst xs)∧ -(2 ^ 63)≤i∧i < 2 ^ 63∧seqIndex? i xs.length=some k∧xs[k]?=some y∧Q y (bC H l (.lst (xs.eraseIdx k)))
theorem Ah:JK X "list.pop" A6:=by
  intro pins s σ H x vs v us Q I rx rv h
  obtain⟨l,xs,i,k,y,rfl,rfl,hH,h1,h2,hk,hy,q⟩:=h
  cases rx
  obtain⟨u,rfl,ru⟩:=rv.one
  obtain⟨t,rfl⟩:=ru
  obtain⟨z,its,n,r,hl,e⟩:=I.lstM hH
  obtain⟨w,hw,rw'⟩:=r.get hy
  refine Qa F.slot_list_pop ⟨_,e,rfl⟩ F.entry_list_pop (F.args_list_pop_2 _ _)
    (MeetsSeq.list_pop_at l its.toArray n i t k w (fitsIndex_both h1 h2) (by rw [NA,←hl];exact hk) (by rw [←Array.getElem?_toList];exact hw) (by rw [NA];lia)) ⟨e,?_⟩
  refine⟨y,_,I.lset (its':=its.eraseIdx k) hH e ?_ (r.eraseIdx k) ?_,rw',q⟩
  · show its.toArray.eraseIdxIfInBounds k=(its.eraseIdx k).toArray
    rw [List.eraseIdxIfInBounds_toArray]
  · have:=ql xs k
    lia
def FN:R2:=fun x y H Q=>∃l b xs zs,x=.ref l∧y=.ref b∧H l=some (.lst xs)∧H b=some (.lst zs)∧xs.length+zs.length≤Nr∧∀p,H p=none→Q (.ref p) (bC H p (.lst (xs++zs)))
theorem E_:hV X (Oa .Add) FN:=by
  intro pins s σ H x y v u Q I rx ry h
  obtain⟨l,b,xs,zs,rfl,rfl,hH,hB,hz,q⟩:=h
  cases rx
  cases ry
  obtain⟨z,its,n,r,hl,e⟩:=I.lstM hH
  obtain⟨z2,its2,n2,r2,hl2,e2⟩:=I.lstM hB
  refine PySem.P.add_list e e2 ?_ (by rw [NA,NA];lia)
  have ea:its.toArray++its2.toArray=(its++its2).toArray:=by simp
  rw [ea]
  exact⟨.ref _,_,I.lnew (t':=s.toks) (r.append r2) (by rw [Ox];lia),rfl,q _ I.fresh⟩
def FR:R2:=fun x y H Q=>∃l k xs,x=.ref l∧y=.int k∧H l=some (.lst xs)∧ -(2 ^ 63)≤k∧k < 2 ^ 63∧xs.length*k.toNat≤Nr∧
  ∀p,H p=none→Q (.ref p) (bC H p (.lst (Np k.toNat xs).flatten))
theorem Cb{α:Type}(xs:List α)(k:Nat):(Np k xs).flatten.length=k*xs.length:=by
  induction k with
  | zero=>simp
  | succ k ih=>rw [PY,Rr,Ox,ih,Nat.succ_mul,Nat.add_comm]
theorem Fi:hV X (Oa .Mult) FR:=by
  intro pins s σ H x y v u Q I rx ry h
  obtain⟨l,k,xs,rfl,rfl,hH,h1,h2,hz,q⟩:=h
  cases rx
  obtain⟨t,rfl⟩:=ry
  obtain⟨z,its,n,r,hl,e⟩:=I.lstM hH
  have hlen:its.toArray.size*k.toNat≤Nr:=by rw [NA,←hl];exact hz
  have hcap:¬its.toArray.size*k.toNat > (2 ^ 63 - 1) / 8:=by
    have:(Nr:Nat)≤(2 ^ 63 - 1) / 8:=by decide
    lia
  have hfit:¬(!Builtin.List.listFitsIndex k)=true:=by
    rw [fitsIndex_both h1 h2]
    exact Pn
  have hlong:¬RZ (its.toArray.size*k.toNat)=true:=by
    rw [Ak hlen]
    exact Pn
  have hnew:QE (fun x1 x2=>x1++x2) #[] (Np (if its.toArray.isEmpty=true then 0 else k.toNat) its.toArray)=(Np k.toNat its).flatten.toArray:=by
    have f0:∀m:Nat,QE (fun x1 x2=>x1++x2) #[] (Np m its.toArray)=(Np m its).flatten.toArray:=fun m=>by
      have:=qh its m []
      rw [Qp] at this
      exact this
    rw [f0]
    cases its with
    | nil=>simp
    | cons a r'=>rw [if_neg ↥1]
  refine wpAny_binaryOp_repeat_ref (T:="list") (U:="int") ⋯ ⟨_,e,rfl⟩ (fun s'=>QY s' k t) noFill_list_mul F.fills_int_mul Rt repeat_list F.slot_int_index.lookup
    (Qa Rt (QY s k t) F.entry_int_rmul (F.args_int_rmul_2 _ _) (int___rmul___int_list k t l its.toArray n)
      ⟨e,rfl,⟨_,e,rfl⟩,Qa F.slot_list_mul ⟨_,e,rfl⟩ F.entry_list_mul (F.args_list_mul_2 _ _) (AutoListH.list___mul___list_int_3 l its.toArray n k t hfit hcap hlong) ⟨e,?_⟩⟩)
  rw [hnew]
  exact⟨.ref _,_,I.lnew (t':=s.toks) (r.rep k.toNat) (by rw [Cb,Nat.mul_comm];exact hz),rfl,q _ I.fresh⟩
end
section
variable{prog:Nk}{w:Ng}{A:Nn}{E:MX→MZ→Prop}{s:MZ}
end
section
variable{X:Cx}
end
end L2
namespace Att
open PySem PySem.W PySem.Calls PyProof.Rows
theorem mN{P:Params}{h:Nh}:∀(ns:List Int) (vs:List MX),WellAll P h vs (ns.map WData.int)→OM vs ns:=by
  intro ns
  induction ns with
  | nil=>
    intro vs w
    rw [Oy] at w
    cases w
    exact .nil
  | cons n ns ih=>
    intro vs w
    rw [Nx] at w
    cases w with
    | cons a b=>
      cases a
      exact .cons _ _ (ih _ b)
theorem yu{l:OpenLaw}{n:Nat}(hn:l.most=some n){P:Params}{h:Nh}{args:List WData}{vals:List MX}
    (hpre:l.row.toRowW.claim.pre args=true)(hwl:WellAll P h vals args):
    ∃a vs ns,vals=[Value.ref a]∧args=[WData.list (ns.map WData.int)]∧h.get? a=some {cls:=.type "list",data:=.seq vs.toArray}∧OM vs ns∧ns.length≤n:=by
  have hsh:WShape.hasAll [] args [.list .int]=true:=(pre_splitW hpre).1
  have hc:l.pre.holds [] {args:=args}=true:=(pre_splitW hpre).2
  obtain⟨d,r,rfl,h1,h2⟩:=hasAllW_cons hsh
  obtain rfl:=hasAllW_nil h2
  obtain⟨xs,rfl,h3⟩:=hasW_list h1
  obtain⟨ns,rfl⟩:=items_int h3
  have hlen:ns.length≤n:=by
    unfold OpenLaw.pre at hc
    have h4:(WTm.not (.lt (.lit (.int (n:Int))) (.len (.arg 0)))).holds [] {args:=[.list (ns.map .int)]}=true:=by
      have h4:=(holds_andW hc).1
      rw [hn] at h4
      exact h4
    have h5:=condW_of h4 (w_not (w_lt w_lit (w_len_list (w_arg rfl))))
    rw [Nw] at h5
    refine Nat.le_of_not_lt fun q=>?_
    have q':(n:Int) < ((ns.length:Nat):Int):=by lia
    first
      | (rw [decide_eq_true q'] at h5;exact absurd h5 ⋯)
      | (simp at h5;lia)
  cases hwl with
  | cons w1 w2=>
    cases w2
    cases w1 with
    | list ho hall=>exact⟨_,_,ns,rfl,rfl,ho,mN ns _ hall,hlen⟩
theorem yo(l:OpenLaw)(args:List WData):l.row.toRowW.claim.post args (.bool true) args=true:=
  postW_of (r:=l.row.toRowW) (X:=(true==true))
    (show WShape.has [] (.bool true) .bool=true by first | rfl | decide | simp [WShape.has,WShape.arms,WShape.armsAll])
    (show(WTm.eq .res (.lit (.bool true))).value [] {args:=args,res:=some (.bool true),after:=args}=some (.bool (true==true)) from w_eq_bool (w_res rfl) w_lit) rfl
theorem attach_call{l:OpenLaw}{n:Nat}{q:Nk}{loose:List Str}{XP:(Str→Option MX)→Nh→Prop}{YP:Ng→Nh→Prop}{d:DefRec}
    (hn:l.most=some n)(hdf:d.params.defaults=[])
    (call:∀(w:Ng) (s₀ s₁:MZ) (mg mb:Str→Option MX) (fa:MW) (o:Obj) (pm cd doc:MX) (a:MW) (vs:List MX) (ns:List Int),
      Ground q loose [] XP w s₀ mg mb s₁.heap→YP w s₁.heap→
      s₁.heap.get? fa=some o→o.data=.func (docDef d.name d.params d.body d.scope pm cd doc)→s₁.heap.CodeRec cd d.name→mg d.name=some (.ref fa)→
      s₁.heap.get? a=some {cls:=.type "list",data:=.seq vs.toArray}→OM vs ns→ns.length≤n→s₁.gens=#[]→
      codeAny (Ni l.prog w) callerA (.call (.ref fa) ⟨[.ref a],[]⟩) (fun r s'=>r=.ok (.ret (.bool true))∧OldK s₁.heap s'.heap∧s'.os=s₁.os∧AllBare s'.gens) s₁):
    WalkO q loose XP YP l.row.toRowW d [] (fun f vs=>PySem.call f vs):=by
  intro w s₀ s₁ mg mb G Y fa o pm cd doc dV kV ho hd hcd hD hmg hg args vals as hpre hlay hrd hwl hlo
  obtain rfl:dV=.none:=Dflts.none hD hdf
  obtain rfl:kV=.none:=Dflts.noKw hD
  obtain⟨a,vs,ns,rfl,rfl,hobj,hints,hlen⟩:=yu hn hpre hwl
  refine enter_call (codeAny_mono (call w s₀ s₁ mg mb fa o pm cd doc a vs ns G Y ho (fd_plain hd) hcd hmg hobj hints hlen hg) fun r s' hq=>?_)
  obtain⟨rfl,h2,h3,h4⟩:=hq
  exact⟨.inl ⟨.bool true,.bool true,[],rfl,fun _=>rfl,.bool true,yo l _,fun _=>⟨List.Pairwise.nil,fun _ hm=>(nomatch hm)⟩⟩,h2,h3,h4⟩
section
variable{prog:Nk}{w:Ng}{A:Nn}{E:MX→MZ→Prop}{s:MZ}{K:Frag}
end
end Att
namespace L2
open PySem PySem.Spec PyProof.Rows
theorem qP:∀{vs:List MX} {ns:List Int},OM vs ns→aR (ns.map V.int) vs
  | _,_,.nil=>.nil
  | _,_,.cons n t h=>.cons ⟨t,rfl⟩ (qP h)
def Em(H:Hp):Prop:=∀b,H b=none∨∃o xs,H b=some (.frz o (.lst xs))
theorem Ab{P:Nk}{w:Ng}{K:⇑0}{mg mb:Str→Option MX}{CX:uR}{k:Nat}{fa a:MW}{fd:Nt}{x:Str}{sp:Sp}{s₁:MZ}{vs:List MX}{ns:List Int}
    (KX:K.In s₁.heap)(hns:s₁.heap.Ns ND mg)(hb:s₁.heap.Ns builtinsNs mb)(hbb:∀x:Str,x≠"__name__"→mb x=OX x)(hlim:s₁.heap.NoLimit)(hg:s₁.gens=#[])
    (ha:s₁.heap.get? a=some {cls:=.type "list",data:=.seq vs.toArray})(hi:OM vs ns)(hl:ns.length≤Nr)(hr:dI k callerA)
    (F:∀base:Nh,K.In base→base.Ns ND mg→aW P w K mg base CX k fa fd [x] sp)(hbind:∀(s:MZ) (u:MX),BindsTo s fd ⟨[u],[]⟩ [(x,u)])
    (hsp:∀H:Hp,Em H→gC K H a (ns.map V.int)→sp [.ref a] H (fun v _=>v=.bl true) fun _ _ _=>False)
    (hCX:∀H e s',CX [] H s₁ (fun _ _ _=>False) e s'→False):
    codeAny (Ni P w) callerA (.call (.ref fa) ⟨[.ref a],[]⟩) (fun r s'=>r=.ok (.ret (.bool true))∧OldK s₁.heap s'.heap∧s'.os=s₁.os∧AllBare s'.gens) s₁:=by
  have rv:=qP hi
  have lenV:=hi.length
  have core:∀H:Hp,Em H→gC K H a (ns.map V.int)→lE P w H s₁.heap→(∀b,H b≠none→b=a)→(H a≠none→K.lookup a=none)→
      codeAny (Ni P w) callerA (.call (.ref fa) ⟨[.ref a],[]⟩) (fun r s'=>r=.ok (.ret (.bool true))∧OldK s₁.heap s'.heap∧s'.os=s₁.os∧AllBare s'.gens) s₁:=by
    intro H hO hS hok hA hK
    have base_of:∀{b:MW} {o:Obj},s₁.heap.get? b=some o→H b=none→(rO s₁.heap H).get? b=some o:=fun e n=>zQ e n
    have noA:∀{b:MW} {o:Obj} {es:Array DictEntry} {ep:Nat},s₁.heap.get? b=some o→o.data=.dict es ep→H b=none:=fun{b o es ep} e d=>by
      cases q:H b with
      | none=>rfl
      | some u=>
        have e':b=a:=hA b (by rw [q];simp)
        subst e'
        rw [ha] at e;cases e
        have d':Data.seq vs.toArray _=Data.dict es ep:=d
        cases d'
    have nsK:∀{b:MW} {m:Str→Option MX},s₁.heap.Ns b m→(rO s₁.heap H).Ns b m:=fun{b m} ⟨o,es,ep,e,d,r⟩=>⟨o,es,ep,base_of e (noA e d),d,r⟩
    have hKb:K.In (rO s₁.heap H):=fun b o e=>base_of (KX b o e) (by
      cases q:H b with
      | none=>rfl
      | some u=>
        have e':b=a:=hA b (by rw [q];simp)
        subst e'
        rw [hK (by rw [q];simp)] at e;cases e)
    have hM:Mod K mg (rO s₁.heap H):=⟨hKb,nsK hns,⟨mb,nsK hb,hbb⟩,let ⟨mc,h1,h2⟩:=hlim;⟨mc,nsK h1,h2⟩⟩
    have e0:BN P w K mg (rO s₁.heap H) callerA [] s₁ H:=⟨rfl,hM,fun b o e=>Cm e,Nat.le_of_eq (xU _ _),trivial,fun b hb=>absurd (show b∈([]:List MW) from hb) ↥1,hok,.of_eq hg⟩
    refine codeAny_mono ((F _ hKb (nsK hns)).run callerA [] s₁ H ⟨[.ref a],[]⟩ [.ref a] [.ref a] _ _ hr e0 (hbind s₁ (.ref a)) (.cons rfl .nil) (hsp H hO hS)) fun r s' h=>?_
    cases r with
    | error e=>exact(hCX H e s' h).elim
    | ok fl=>
      cases fl with
      | next=>exact Pl h
      | brk=>exact Pl h
      | cont=>exact Pl h
      | ret u=>
        obtain⟨v,H',os,bare,un,hok',r',q⟩:=h
        have q':v=.bl true:=q
        subst q'
        obtain rfl:u=Value.bool true:=r'
        refine⟨rfl,OldK.of_keep fun b o e=>?_,os,bare⟩
        cases q:H b with
        | none=>exact un.keep b o e q (by intro z;exact absurd (show b∈([]:List MW) from z) ↥1) ↥1
        | some u=>
          rcases hO b with z | ⟨ob,xs,z⟩
          · rw [q] at z;cases z
          · have z2:=un.frzs b ob _ z
            obtain⟨e1,_⟩:=hok b _ z
            obtain⟨e2,_⟩:=hok' b _ z2
            rw [e] at e1;cases e1
            exact e2
  cases hk:K.lookup a with
  | some o=>
    have e:=KX a o hk
    rw [ha] at e
    cases e
    refine core (fun _=>none) (fun _=>.inl rfl) (.inr ⟨_,vs.toArray,_,hk,rfl,rfl,rfl,by rw [NA,lenV];exact hl,by simpa using rv⟩) (fun b u z=>by have z':(none:Option HO)=some u:=z;cases z') (fun b z=>absurd rfl z) fun z=>absurd rfl z
  | none=>
    refine core (fun b=>if b=a then some (.frz {cls:=.type "list",data:=.seq vs.toArray} (.lst (ns.map V.int))) else none) (fun b=>?_) (.inl (.inr ⟨{cls:=.type "list",data:=.seq vs.toArray},if_pos rfl⟩)) (fun b u z=>?_) (fun b z=>?_) fun _=>hk
    · by_cases hb:b=a
      · exact .inr ⟨_,_,if_pos hb⟩
      · exact .inl (if_neg hb)
    · by_cases hb:b=a
      · have z':=(if_pos hb).symm.trans z
        cases z'
        subst hb
        exact⟨ha,by rw [Nw];exact hl,vs,_,rv,ha⟩
      · have z':=(if_neg hb).symm.trans z
        cases z'
    · by_cases hb:b=a
      · exact hb
      · exact absurd (if_neg hb) z
theorem walk_of{l:PySem.W.OpenLaw}{n k:Nat}{q:Nk}{loose:List Str}{XP:(Str→Option MX)→Nh→Prop}{YP:Ng→Nh→Prop}{d:DefRec}{K:Params→⇑0}{CX:Ng→uR}{sp:Ng→Sp}{x:Str}
    (hn:l.most=some n)(hn2:n≤Nr)(hdf:d.params.defaults=[])(hr:dI k callerA)
    (hY:∀(w:Ng) (h:Nh),YP w h→(K w.params).In h)
    (F:∀(w:Ng) (mg:Str→Option MX) (fa:MW) (h:Nh),(K w.params).In h→h.Ns ND mg→mg d.name=some (.ref fa)→
      ∃fd:Nt,(∀(s:MZ) (u:MX),BindsTo s fd ⟨[u],[]⟩ [(x,u)])∧
        ∀base:Nh,(K w.params).In base→base.Ns ND mg→aW l.prog w (K w.params) mg base (CX w) k fa fd [x] (sp w))
    (hsp:∀(w:Ng) (H:Hp) (a:MW) (ns:List Int),ns.length≤n→Em H→gC (K w.params) H a (ns.map V.int)→sp w [.ref a] H (fun v _=>v=.bl true) fun _ _ _=>False)
    (hCX:∀(w:Ng) (H:Hp) (s:MZ) (e:MX) (s':MZ),CX w [] H s (fun _ _ _=>False) e s'→False):
    PySem.W.WalkO q loose XP YP l.row.toRowW d [] (fun f vs=>PySem.call f vs):=by
  refine Att.attach_call hn hdf fun w s₀ s₁ mg mb fa o pm cd doc a vs ns G Y ho hd hcd hmg hobj hints hlen hg=>?_
  have KX:=hY w _ Y
  obtain⟨fd,hb,hF⟩:=F w mg fa _ KX G.T.g hmg
  exact Ab KX G.T.g G.T.b G.T.builtins G.T.nolimit hg hobj hints (NS hlen hn2) hr hF hb (fun H hO hS=>hsp w H a ns hlen hO hS) fun H e s'=>hCX w H s₁ e s'
def eF(s:Nq):Arguments:=match s with
  | .FunctionDef _ a _ _ _ _ _ _ _ _=>a
  | _=>{posonlyargs:=[],args:=[],vararg:=none,kwonlyargs:=[],kw_defaults:=[],kwarg:=none,defaults:=[]}
def dk(s:Nq):List Nq:=match s with
  | .FunctionDef _ _ b _ _ _ _ _ _ _=>b
  | _=>[]
def aw(s:Nq):NC:=match s with
  | .FunctionDef _ _ _ _ _ _ sc _ _ _=>sc
  | _=>{kind:=.function,names:=[],isGenerator:=false,isCoroutine:=false}
abbrev cD:uR:=fun _ _ _ _ _ _=>False
abbrev E0:XK:=fun _ _ _=>False
theorem Hs{X:Cx}:uS cD X E0:=fun _ _ _ _ _ _ _ h=>h.elim
structure Gz (K:⇑0) (x qual:Str) (st:Nq) (f:MW) (fd:Nt):Prop where
  ex:∃(oc:MX) (od:Option MW) (kV doc pm:MX) (an:Option MW) (cdv ct:MX) (osl:Array (Option MX)),
    fd=OL x qual (eF st) (dk st) (aw st) .none kV doc pm an cdv ct∧K.lookup f=some ⟨oc,od,.func fd,osl⟩∧QX K cdv qual=true
  kp:Qg K (.ref f)=true
section
variable{P:Nk}{w:Ng}{K:⇑0}{mg:Str→Option MX}{base:Nh}
theorem Gz.ok{x qual:Str}{st:Nq}{f:MW}{fd:Nt}{N ps:List Str}{k:Nat}{sp:Sp}(F:Gz K x qual st f fd)(S:aM N ps (aw st))(len:∀vs H Q E,sp vs H Q E→vs.length=ps.length)
    (hbody:∀(cdv:MX) (A:Nn) (outer:List Env) (s:MZ) (H:Hp) (vs:List V) (Q:VK) (E:XK),dI k (A.deeper (envOfC qual (aw st) ↑s f cdv))→sp vs H Q E→
      ∃t,mM (u9 cD P w K mg base N qual (aw st) f cdv A outer s H E).nox (dk st) t∧t {nx:=fun _ H'=>Q .non H',rt:=Q} (gR N vs) H):aW P w K mg base cD (k+1) f fd ps sp:=by
  obtain⟨oc,od,kV,doc,pm,an,cdv,ct,osl,rfl,lk,hcd⟩:=F.ex
  refine GX lk hcd S len fun A outer s H vs Q E hr hsp=>?_
  obtain⟨t,h,q⟩:=hbody cdv A outer s H vs Q E hr hsp
  exact⟨t,h.nox,q⟩
theorem Gz.binds{x qual:Str}{st:Nq}{f:MW}{fd:Nt}{ps:List Str}(F:Gz K x qual st f fd)
    (h:∀(kV doc pm:MX) (an:Option MW) (cdv ct:MX) (us:List MX),us.length=ps.length→bindArgs (OL x qual (eF st) (dk st) (aw st) .none kV doc pm an cdv ct) ⟨us,[]⟩=pure (ps.zip us)):p6 K fd ps []:=by
  obtain⟨oc,od,kV,doc,pm,an,cdv,ct,osl,rfl,lk,hcd⟩:=F.ex
  exact .all (h kV doc pm an cdv ct)
theorem zC{x qual:Str}{st:Nq}{f:MW}{oc:MX}{od an:Option MW}{osl:Array (Option MX)}{kV doc pm cdv ct:MX}(l:K.lookup f=some ⟨oc,od,.func (OL x qual (eF st) (dk st) (aw st) .none kV doc pm an cdv ct),osl⟩)
    (c:QX K cdv qual=true)(k:Qg K (.ref f)=true):Gz K x qual st f (OL x qual (eF st) (dk st) (aw st) .none kV doc pm an cdv ct):=⟨⟨oc,od,kV,doc,pm,an,cdv,ct,osl,rfl,l,c⟩,k⟩
end
theorem G3{A:Nn}{k:Nat}(hr:dI k A):A.units+1 < cLine:=Pb (Nat.add_le_add_left (by decide:1≤64) _) hr.units
theorem qH{n:Nat}(h:n≤1000):n < Nr:=Pb h ⋯
section
variable{X:Cx}
end
theorem Hb{A B:Prop}(h:B):if false=true then A else B:=by
  rw [if_neg Pn]
  exact h
theorem EG{A B:Prop}(h:A):if true=true then A else B:=by
  rw [if_pos rfl]
  exact h
def aG(H H':Hp):Prop:=∀b o,H b=some o→H' b=some o
theorem aG.refl(H:Hp):aG H H:=fun _ _ h=>h
theorem aG.trans{H H1 H2:Hp}(a:aG H H1)(b:aG H1 H2):aG H H2:=fun c o h=>b c o (a c o h)
theorem aG.free{H H':Hp}(e:aG H H'){l:MW}(h:H' l=Option.none):H l=Option.none:=by
  cases q:H l with
  | none=>rfl
  | some o=>
    rw [e l o q] at h
    cases h
theorem aG.seq{K:⇑0}{H H':Hp}{a:MW}{xs:List V}(e:aG H H')(h:gC K H a xs):gC K H' a xs:=by
  rcases h with (h | ⟨o,h⟩) | h
  · exact .inl (.inl (e _ _ h))
  · exact .inl (.inr ⟨o,e _ _ h⟩)
  · exact .inr h
end L2
set_option maxHeartbeats 4000000
namespace L2
open PySem PySem.Spec PyProof.Rows
def Bt(n:Nat)(i:Int):Prop:=i.natAbs < 2 ^ n
theorem Bt.mono{m n:Nat}{i:Int}(h:Bt m i)(hm:m≤n):Bt n i:=NV h (Ru ⋯ hm)
theorem Bt.mul{m n:Nat}{i j:Int}(h:Bt m i)(h':Bt n j):Bt (m+n) (i*j):=by
  unfold Bt at*
  rw [Qq,Nat.pow_add]
  exact Nat.mul_lt_mul'' h h'
theorem Bt.log{m:Nat}{i:Int}(h:Bt m i)(hm:0 < m):i.natAbs.log2 < m:=by
  unfold Bt at h
  rcases Nat.eq_zero_or_pos i.natAbs with h0 | hp
  · rw [h0];exact hm
  · exact(Nat.log2_lt ↥0).mpr h
theorem Bt.bits{m:Nat}{i:Int}(h:Bt m i)(hm:0 < m):Builtin.Int.intBits i≤m:=by
  unfold Builtin.Int.intBits
  split
  · exact Qr _
  · exact h.log hm
theorem Bt.of_le{m:Nat}{i:Int}{j:Int}(h:Bt m j)(e:i.natAbs≤j.natAbs):Bt m i:=Pb e h
section
variable{X:Cx}
def DC(i j:Int):Prop:=Bt 4000 i∧Bt 4000 j
theorem CB:hV X (Oa .Mult) (rI DC fun i j=>.int (i*j)):=Hm fun _ _ _ _ _ _ _ hc q=>
  mul_int q (.of_bits (NS (hc.1.bits ⋯) ⋯) (NS (hc.2.bits ⋯) ⋯))
def DB(i j:Int):Prop:=j≠0∧Bt 8000 j
theorem Ar:hV X (Oa .FloorDiv) (rI DB fun i j=>.int (i.fdiv j)):=Hm fun _ _ _ _ _ _ _ hc q=>
  floordiv_int hc.1 q (.inl (PyProof.noPylong_of_log2 (QZ (hc.2.log ⋯) ⋯)))
theorem Fd:hV X (NU .Is) (fun x y H Q=>∃b c,x=.bl b∧y=.bl c∧Q (.bl (b==c)) H):=by
  intro pins s σ H x y v u Q I rx ry h
  obtain⟨b,c,rfl,rfl,q⟩:=h
  cases rx;cases ry
  exact is_bool ⟨.bl _,H,I,rfl,q⟩
end
def mw(H H':Hp):Prop:=∀a o,H a=some o→(∀xs,o≠.lst xs)→(∀ob xs,o≠.frz ob (.lst xs))→H' a=some o
theorem mw.trans{H H1 H2:Hp}(a:mw H H1)(b:mw H1 H2):mw H H2:=fun c o h n m=>b c o (a c o h n m) n m
theorem aG.ts{H H':Hp}(h:aG H H'):mw H H':=fun a o e _ _=>h a o e
theorem mw.tup{K:⇑0}{H H':Hp}(h:mw H H'){a:MW}{xs:List V}(q:dz K H a xs):dz K H' a xs:=by
  rcases q with (q | ⟨o,q⟩) | q
  · exact .inl (.inl (h _ _ q (fun _ e=>nomatch e) (fun _ _ e=>nomatch e)))
  · exact .inl (.inr ⟨o,h _ _ q (fun _ e=>nomatch e) (fun _ _ e=>nomatch e)⟩)
  · exact .inr q
section
variable{X:Cx}
end
structure bE (K:⇑0) (mg:Str→Option MX) (x:Str) (st:Nq) (f:MW) (fd:Nt) (ps:List Str):Prop where
  F:Gz K x x st f fd
  m:mg x=some (.ref f)
  b:p6 K fd ps []
theorem EE{K:⇑0}{mg:Str→Option MX}{h:Nh}{x:Str}{st:Nq}{f:MW}{ps:List Str}{oc:MX}{od an:Option MW}{osl:Array (Option MX)}{kV doc pm cdv ct:MX}(X:K.In h)(G:h.Ns ND mg)(a:Og K ND x=some (some (.ref f)))
    (l:K.lookup f=some ⟨oc,od,.func (OL x x (eF st) (dk st) (aw st) .none kV doc pm an cdv ct),osl⟩)(c:QX K cdv x=true)(k:Qg K (.ref f)=true)
    (hb:∀(kV doc pm:MX) (an:Option MW) (cdv ct:MX) (us:List MX),us.length=ps.length→bindArgs (OL x x (eF st) (dk st) (aw st) .none kV doc pm an cdv ct) ⟨us,[]⟩=pure (ps.zip us)):
    bE K mg x st f (OL x x (eF st) (dk st) (aw st) .none kV doc pm an cdv ct) ps:=⟨zC l c k,PySem.W.mg_of X G a,(zC l c k).binds hb⟩
theorem Jp{X:Cx}{x:Str}{st:Nq}{f:MW}{fd:Nt}{ps:List Str}{k:Nat}{sp:Sp}{e:Na}{es:List Na}{t:TA}{p pos:Pos}(h:bE X.K X.mg x st f fd ps)(G:aW X.prog X.w X.K X.mg X.base cD k f fd ps sp)(hr:dI k X.A)(ha:PA X (e::es) t)
    (hg:Gl X x:=by rfl)(hdb:(x==("__debug__":Str))=false:=by decide)(he:Nl (e::es) X.env=(false,Nj e X.env)::Nl es X.env:=by rfl)(hpl:(NO pos (Nl es X.env)).any (·.1)=false:=by rfl):
    PE X (.Call (.Name x p) (e::es) [] pos) (Bn sp [] E0 t):=CL G hr hg h.m h.F.kp h.b .nil Hs ha hdb he hpl
theorem aG.new{H:Hp}{p:MW}{o:HO}(h:H p=none):aG H (bC H p o):=fun b u e=>by
  rw [aA (eQ e h)];exact e
theorem aG.tup{K:⇑0}{H H':Hp}{a:MW}{xs:List V}(e:aG H H')(h:dz K H a xs):dz K H' a xs:=e.ts.tup h
def lowM(t b:Int):Int × Int:=if b < 0 then(t.fdiv (-(Nv t b:Int)),b.fdiv (-(Nv t b:Int))) else(t.fdiv (Nv t b:Int),b.fdiv (Nv t b:Int))
theorem tP(x y:Int):Nv y (x.fmod y)=Nv x y:=by
  rw [Int.fmod_def,Int.gcd_sub_mul_left_right,Int.gcd_comm]
theorem gL(x:Int){y:Int}(h:y≠0):(x.fmod y).natAbs < y.natAbs:=by
  rcases Int.lt_or_gt_of_ne h with h | h
  · have h1:x.fmod y= -((-x).fmod (-y)):=by
      have:=Int.neg_fmod_neg x y
      lia
    have h2:=Int.fmod_nonneg_of_pos (-x) (b:= -y) ↥0
    have h3:=Int.fmod_lt_of_pos (-x) (b:= -y) ↥0
    lia
  · have h2:=Int.fmod_nonneg_of_pos x h
    have h3:=Int.fmod_lt_of_pos x h
    lia
theorem rM{t b:Int}(h:b≠0):(0:Int) < Nv t b:=by
  have:=Int.gcd_pos_of_ne_zero_right t h
  lia
theorem ij{t b:Int}(h:b≠0):∃d:Int,d.natAbs=Nv t b∧d≠0∧(lowM t b).1*d=t∧(lowM t b).2*d=b∧0 < (lowM t b).2:=by
  have hg:=rM (t:=t) h
  have d1:(Nv t b:Int) ∣ t:=Int.gcd_dvd_left ..
  have d2:(Nv t b:Int) ∣ b:=Int.gcd_dvd_right ..
  unfold lowM
  split
  · rename_i hb
    have e1:t.fdiv (-(Nv t b:Int))*(-(Nv t b:Int))=t:=Rw (Int.neg_dvd.mpr d1)
    have e2:b.fdiv (-(Nv t b:Int))*(-(Nv t b:Int))=b:=Rw (Int.neg_dvd.mpr d2)
    refine⟨-(Nv t b:Int),by lia,by lia,e1,e2,?_⟩
    show 0 < b.fdiv (-(Nv t b:Int))
    have h3:b.fdiv (-(Nv t b:Int))*(Nv t b:Int)= -b:=by rw [Int.mul_neg] at e2;lia
    exact Int.pos_of_mul_pos_left ↥0 ↥0 (b:=(Nv t b:Int))
  · rename_i hb
    have e1:t.fdiv (Nv t b:Int)*(Nv t b:Int)=t:=Rw d1
    have e2:b.fdiv (Nv t b:Int)*(Nv t b:Int)=b:=Rw d2
    refine⟨(Nv t b:Int),by lia,by lia,e1,e2,?_⟩
    show 0 < b.fdiv (Nv t b:Int)
    exact Int.pos_of_mul_pos_left ↥0 ↥0 (b:=(Nv t b:Int))
theorem tV{t b:Int}(h:b≠0):Nv (lowM t b).1 (lowM t b).2=1:=by
  obtain⟨d,h1,h2,h3,h4,h5⟩:=ij (t:=t) h
  have e:Nv ((lowM t b).1*d) ((lowM t b).2*d)=Nv (lowM t b).1 (lowM t b).2*d.natAbs:=Int.gcd_mul_right ..
  rw [h3,h4,←h1] at e
  have hd:0 < d.natAbs:=by lia
  exact(Nat.eq_of_mul_eq_mul_right hd (by rw [Nat.one_mul];exact e)).symm
theorem oF{t b:Int}(h:b≠0):(lowM t b).1*b=(lowM t b).2*t:=by
  obtain⟨d,h1,h2,h3,h4,h5⟩:=ij (t:=t) h
  generalize (lowM t b).1=x at*
  generalize (lowM t b).2=y at*
  subst h3 h4
  rw [←PD,←PD,Pc x]
theorem zO{t b:Int}(h:b≠0){n:Nat}(hb:Bt n b):Bt n (Nv t b:Int):=by
  refine hb.of_le ?_
  have h1:=Nat.le_of_dvd (show 0 < b.natAbs by lia) (Int.ofNat_dvd.mp (by rw [Int.dvd_natAbs];exact Int.gcd_dvd_right t b))
  lia
mutual
def cnt:MY→Nat
  | .tuple ds=>1+j7 ds
  | .str _=>0
  | _=>1
def j7:List MY→Nat
  | []=>0
  | d::ds=>cnt d+j7 ds
end
mutual
def oM:MY→Bool
  | .tuple ds=>iq ds
  | .str _=>false
  | .list _=>false
  | .dict _=>false
  | _=>true
def iq:List MY→Bool
  | []=>true
  | d::ds=>oM d&&iq ds
end
theorem pT{a:Int}(h:a.natAbs.log2 < 1920):(On (toString a)).length≤1921:=by
  have e:=int_text_length_le (k:=1920) ⋯ h
  rw [PySem.ofString_length];lia
theorem oQ(x:Str)(r:List Str):piled (x::r)=x.length+2+piled r:=by
  simp [piled]
theorem qK(ts:List Str):(tupleText ts).length≤piled ts+3:=by
  unfold tupleText
  rw [strLen_append,strLen_append]
  have h1:(("(":Str)).length=1:=by decide
  have h2:(On (if (ts.length==1)=true then ",)" else ")")).length≤2:=by split<;>decide
  have h3:(Str.join ", " ts).length≤piled ts:=by
    cases ts with
    | nil=>show(Str.join ", " []).length≤0;decide
    | cons x r=>have:=join_length_add (x::r) ↥1;lia
  lia
mutual
theorem qF:∀{d:MY},oM d=true→d.showable=true→d.shown.length+2≤2000*cnt d
  | .none,_,_=>by show(On "None").length+2≤2000*1;decide
  | .bool b,_,_=>by
    cases b
    · show(On "False").length+2≤2000*1;decide
    · show(On "True").length+2≤2000*1;decide
  | .int i,_,hs=>by
    simp only [PyData.showable,decide_eq_true_eq] at hs
    have:=pT hs
    show(On (toString i)).length+2≤2000*1
    lia
  | .tuple ds,hn,hs=>by
    simp only [PyData.showable] at hs
    simp only [oM] at hn
    have h1:=lq hn hs
    have h2:=qK (Pd ds)
    simp only [PyData.shown,cnt]
    lia
  | .str _,hn,_=>by simp [oM] at hn
  | .list _,hn,_=>by simp [oM] at hn
  | .dict _,hn,_=>by simp [oM] at hn
theorem lq:∀{ds:List MY},iq ds=true→QF ds=true→piled (Pd ds)≤2000*j7 ds
  | [],_,_=>by simp [Pd,piled]
  | d::ds,hn,hs=>by
    simp only [iq,NP] at hn
    simp only [QF,NP] at hs
    have h1:=qF hn.1 hs.1
    have h2:=lq hn.2 hs.2
    simp only [Pd,j7,oQ]
    lia
end
def ic(env:Env):List (Str × Of)→List (Str × MW)→List (Str × MW)
  | [],cs=>cs
  | (n,k)::r,cs=>ic env r (if k==.free then(n,(env.cells.lookup n).getD 0)::cs else cs)
theorem kr{env:Env}:∀(names:List (Str × Of)) (cs:List (Str × MW)),(∀y∈names,y.2=.free→∃c,env.cells.lookup y.1=some c)→
    (forIn names cs (fun(x:Str × Of) (r:List (Str × MW))=>(if (x.2==Oz)=true then do let a ←cellOf env x.1;pure (Qb ((x.1,a)::r)) else pure (Qb r):Sem (ForInStep (List (Str × MW))))):Sem (List (Str × MW)))=pure (ic env names cs)
  | [],cs,_=>rfl
  | (n,k)::r,cs,h=>by
    rw [List.forIn_cons]
    have ih:=fun cs'=>kr (env:=env) r cs' (fun y hy=>h y (NT _ hy))
    by_cases hk:(k==Oz)=true
    · have hk':k=.free:=by simpa using hk
      obtain⟨c,hc⟩:=h (n,k) Pj hk'
      have e:cellOf env n=pure c:=by unfold cellOf;rw [hc]
      simp only [hk,if_true,e,pure_bind,ic,hc,Rx]
      exact ih _
    · have hk':(k==Oz)=false:=by simpa using hk
      simp only [hk',Ry,if_false,pure_bind,ic]
      exact ih _
theorem nK{scope:NC}{env:Env}(h:∀y∈scope.names,y.2=.free→∃c,env.cells.lookup y.1=some c):closureFor scope env=pure (ic env scope.names []):=by
  have e:=kr (env:=env) scope.names [] h
  unfold closureFor
  simp only [pure_bind,bind_pure] at e ⊢
  exact e
theorem nJ{env:Env}:∀(names:List (Str × Of)) (cs:List (Str × MW)) (x:Str) (c:MW),(∀y∈names,y.2=.free→∃c,env.cells.lookup y.1=some c)→(∀x c,cs.lookup x=some c→env.cells.lookup x=some c)→(ic env names cs).lookup x=some c→env.cells.lookup x=some c
  | [],cs,x,c,_,hs,h=>hs x c h
  | (n,k)::r,cs,x,c,hn,hs,h=>by
    refine nJ r _ x c (fun y hy=>hn y (NT _ hy)) (fun x' c' e=>?_) h
    by_cases hk:(k==Oz)=true
    · rw [if_pos hk] at e
      obtain⟨c0,hc⟩:=hn (n,k) Pj (by simpa using hk)
      rw [Pe] at e
      cases hx:x'==n with
      | true=>
        rw [hx] at e
        have e1:x'=n:=by simpa using hx
        subst e1
        simp only [hc,Rx,Qy] at e
        rw [←e];exact hc
      | false=>rw [hx] at e;exact hs x' c' e
    · rw [if_neg hk] at e
      exact hs x' c' e
theorem tI{env:Env}:∀(names:List (Str × Of)) (cs:List (Str × MW)) (x:Str),((∃y∈names,y.1=x∧y.2=.free)∨∃c,cs.lookup x=some c)→∃c,(ic env names cs).lookup x=some c
  | [],cs,x,h=>by
    rcases h with ⟨y,hy,_⟩ | h
    · cases hy
    · exact h
  | (n,k)::r,cs,x,h=>by
    refine tI r _ x ?_
    by_cases hk:(k==Oz)=true
    · rw [if_pos hk,Pe]
      cases hx:x==n with
      | true=>exact .inr ⟨_,rfl⟩
      | false=>
        rcases h with ⟨y,hy,e1,e2⟩ | h
        · rcases MU hy with z | z
          · subst z;subst e1;simp at hx
          · exact .inl ⟨y,z,e1,e2⟩
        · exact .inr h
    · rw [if_neg hk]
      rcases h with ⟨y,hy,e1,e2⟩ | h
      · rcases MU hy with z | z
        · subst z;exact absurd (by simpa using e2) hk
        · exact .inl ⟨y,z,e1,e2⟩
      · exact .inr h
theorem iZ{env:Env}:∀{names:List (Str × Of)} {x:Str},names.lookup x=some .free→
    (names.map fun(n,k)=>if (k==Oz&&env.scope.kind==.function&&env.kindOf n==some .cell) then(n,Qs) else(n,k)).lookup x≠some .local
  | [],x,h=>by simp at h
  | (n,k)::r,x,h=>by
    rw [Nx]
    cases hx:x==n with
    | true=>
      simp only [hx,Pe] at h
      cases h
      show List.lookup x ((if (Oz==Oz&&env.scope.kind==.function&&env.kindOf n==some .cell)=true then(n,Qs) else(n,Oz))::_)≠_
      split<;>simp [Pe,hx]
    | false=>
      simp only [hx,Pe] at h
      have ih:=@iZ env r x h
      have e2:∀(l:List (Str × Of)),((if (k==Oz&&env.scope.kind==.function&&env.kindOf n==some .cell)=true then(n,Qs) else(n,k))::l).lookup x=l.lookup x:=fun l=>by
        split<;>simp [Pe,hx]
      simp only [e2]
      exact ih
def yJ(X:Cx)(ifs:List Na)(t:TT):Prop:=
  ∀(pins:List (MW × Obj)) (s:MZ) (σ:L2.St) (H:Hp) (Q:Bool→Hp→Prop),aI X pins σ H s→t σ H Q→
    Nf (Ni X.prog X.w) X.A (forIn ifs true fun c r=>if r=true then do let ok ←isTrue c X.env (Nj c X.env);pure (Qb ok) else pure (Qb r)) (TP X pins σ Q) X.xe s
theorem C3{X:Cx}:yJ X [] (fun _ H Q=>Q true H):=fun _ _ _ H _ I h=>wpAny_tests_nil ⟨H,I,h⟩
theorem C4{X:Cx}{c:Na}{t:TT}(h:PT X c t):yJ X [c] t:=fun pins s σ H Q I q=>wpAny_tests_one (h pins s σ H Q I q)
abbrev yc:MX→MZ→Prop:=fun _ _=>False
def Ez(prog:Nk)(w:Ng)(A:Nn)(elt tg:Na)(ifs:List Na)(env:Env)(it acc:MX)(onward:MZ→Prop)(v:MX)(u:MZ):Prop:=
  Nf (Ni prog w) A (QD tg it v) (fun _ u1=>Nf (Ni prog w) A (Od tg env v) (fun _ u2=>Nf (Ni prog w) A
    (forIn ifs true fun c r=>if r=true then do let ok ←isTrue c env (Nj c env);pure (Qb ok) else pure (Qb r)) (fun ok u3=>if ok=true then Nf (Ni prog w) A (Nj elt env) (fun x u4=>Nf (Ni prog w) A (call (.builtin "list.append") [acc,x]) (fun _ u5=>onward u5) yc u4) yc u3 else onward u3) yc u2) yc u1) yc u
theorem q5{prog:Nk}{w:Ng}{A:Nn}{R:Result→MZ→Prop}{elt tg iter:Na}{ifs:List Na}{scope:NC}{pos:Pos}{it acc:MX}{env:Env}(J:Nat→MZ→Prop)
    (turn:∀n u,J n u→Nf (Ni prog w) A (OJ it) (fun r u1=>(r=none→R (.ok .next) u1)∧∀v,r=some v→Ez prog w A elt tg ifs env it acc (fun u2=>∃m,m < n∧J m u2) v u1) yc u){n0:Nat}{u0:MZ}(gR:J n0 u0):
    codeAny (Ni prog w) A (.compLoop (.ListComp elt [⟨tg,iter,ifs,0⟩] scope pos) 0 it acc env) R u0:=by
  refine codeAny_loop rfl J (fun n u ju=>?_) n0 gR
  show Nf _ A ((compTurn (.ListComp elt [⟨tg,iter,ifs,0⟩] scope pos) 0 it acc env).onRaise _) _ _ u;refine wpAny_noted ?_;rw [compTurn_list]
  refine Nc (QC (Nc (NW (turn n u ju) (fun r u1 k1=>?_) fun _ _ z=>z.elim)))
  cases r with
  | none=>exact Nm (k1.1 rfl)
  | some v=>
    refine Nc (NW (k1.2 v rfl) (fun _ u2 k2=>Nc (NW k2 (fun _ u3 k3=>Nc (NW k3 (fun ok u4 k4=>?_) fun _ _ z=>z.elim)) fun _ _ z=>z.elim)) fun _ _ z=>z.elim)
    cases ok with
    | false=>rw [if_neg Pn] at k4;exact Nm ⟨rfl,k4⟩
    | true=>
      rw [if_pos rfl] at k4
      refine Nc (Nc (NW k4 (fun x u5 k5=>Nc (NW k5 (fun _ u6 k6=>?_) fun _ _ z=>z.elim)) fun _ _ z=>z.elim));exact Nm (Nm ⟨rfl,k6⟩)
def gD(cp:List (Nat × Str))(nT:Nat)(σ:L2.St):L2.St:=cp.map (fun p=>(σ[p.1]?).join)++Np nT none
structure xn (cp:List (Nat × Str)) (nT:Nat) (wi:TI) (g:TG) (tc:TT) (te:TE) (σ:L2.St) (H:Hp) (Q:VK):Prop where
  go:wi σ H fun J H1=>∀l,H1 l=none→
  ∃W:Nat→Nat→L2.St→Hp→Prop,(∃m,W 0 m (gD cp nT σ) (bC H1 l (.lst [])))∧∀i m σ' H',W i m σ' H'→
    (J.stop i H'∧Q (.ref l) H')∨(J.go i H'∧∃N:L2.St→Hp→Prop,(∀σ2 H2,N σ2 H2→∃m',m' < m∧W (i+1) m' σ2 H2)∧
      ∀x H2,J.yld i H' x H2→g x σ' H2 fun σ2 H3=>tc σ2 H3 fun b H4=>if b=true then te σ2 H4 fun v H5=>∃ys,H5 l=some (.lst ys)∧ys.length < Nr∧N σ2 (bC H5 l (.lst (ys++[v]))) else N σ2 H4)
section
variable{X:Cx}
def A4(K:⇑0):R2:=fun x y H Q=>∃a b xs ys,x=.ref a∧y=.ref b∧dz K H a xs∧dz K H b ys∧xs.length+ys.length≤Nr∧∀p H',aG H H'→dz K H' p (xs++ys)→Q (.ref p) H'
theorem Cv:hV X (Oa .Add) (A4 X.K):=by
  intro pins s σ H x y v u Q I rx ry h
  obtain⟨a,b,xs,ys,rfl,rfl,ha,hb,hz,q⟩:=h
  cases rx;cases ry
  by_cases hx:xs=[]
  · obtain⟨i1,r1,p1,_⟩:=I.tuple ha
    obtain⟨i2,r2,p2,_⟩:=I.tuple hb
    obtain⟨m,F⟩:=I.fr
    have e1:i1=[]:=by subst hx;cases r1;rfl
    refine add_tuples F (Aj (g:=X.base)) p1 p2 (fun _=>?_) (fun z1 _=>absurd e1 z1) (fun z1 _ _ _ _=>absurd e1 z1) (by rw [←r1.length,←r2.length];exact hz)
    exact⟨.ref b,H,I,rfl,q b H (aG.refl H) (by rw [hx];exact hb)⟩
  · exact Cw pins s σ H (.ref a) (.ref b) _ _ Q I rfl rfl ⟨a,b,xs,ys,rfl,rfl,ha,hb,hx,hz,fun z=>q a H (aG.refl H) (by rw [z,Qh];exact ha),fun _ p hp=>q p _ (aG.new hp) (dz.of ay)⟩
theorem se{x:V}{us:List MX}(r:aR [x] us):∃u,us=[u]∧bv x u:=by
  cases r with
  | cons p p'=>cases p';exact⟨_,rfl,p⟩
end
section
variable{X:Cx}
end
theorem yw{e:Na}{es:List Na}{env:Env}(h:QG e=false):Nl (e::es) env=(false,Nj e env)::Nl es env:=by
  cases e<;>first | rfl | cases h
theorem CK{X:Cx}{e:Na}{es:List Na}{te:TE}{t:TA}(ha:PE X e te)(hr:PA X es t)(h:QG e=false:=by rfl):PA X (e::es) (uC te t):=CJ ha hr (yw h)
def xu:List (Int × Int)→TA
  | []=>Gd
  | p::r=>uC (Ic (uC (tC (.int p.1)) (uC (tC (.int p.2)) Gd))) (xu r)
@[irreducible] def JB(ps:List (Int × Int)):TA:=xu ps
structure hJ where
  one:Int
  other:Int
  top:Int
  bot:Int
  worth:Int
structure bZ where
  things:Int
  ties:List hJ
  pat:List Int
  asks:Int
structure hJ.Ok (n:Int) (t:hJ):Prop where
  o0:0≤t.one
  o1:t.one < t.other
  o2:t.other < n
  c0:0≤t.top
  c1:t.top≤t.bot
  b0:1≤t.bot
  b1:t.bot≤100
  w0:0≤t.worth
  w1:t.worth≤1000
  cop:Nv t.top t.bot=1
structure bZ.Ok (w:bZ):Prop where
  t0:0≤w.things
  t1:w.things≤12
  ties:∀t∈w.ties,t.Ok w.things
  len:w.ties.length≤16
  pl:(w.pat.length:Int)=w.things
  pat:∀p∈w.pat,0≤p∧p≤20
  a0:0≤w.asks
  a1:w.asks≤40
def GL(K:⇑0)(H:Hp)(v:V)(t:hJ):Prop:=∃p q,v=.ref p∧dz K H p [.int t.one,.int t.other,.ref q,.int t.worth]∧dz K H q [.int t.top,.int t.bot]
inductive qR (K:⇑0) (H:Hp):List V→List hJ→Prop
  | nil:qR K H [] []
  | cons {v vs t ts}:GL K H v t→qR K H vs ts→qR K H (v::vs) (t::ts)
structure JR (K:⇑0) (H:Hp) (v:V) (w:bZ):Prop where
  ex:∃a b c ts,v=.ref a∧dz K H a [.int w.things,.ref b,.ref c,.int w.asks]∧dz K H b ts∧qR K H ts w.ties∧dz K H c (w.pat.map V.int)
section
variable{K:⇑0}{H H':Hp}
end
theorem oG{t b:Int}(hb:0 < b)(h0:0≤t)(h1:t≤b)(h2:b≤100):0≤(lowM t b).1∧(lowM t b).1≤(lowM t b).2∧1≤(lowM t b).2∧(lowM t b).2≤100:=by
  obtain⟨d,e1,e2,e3,e4,e5⟩:=ij (t:=t) (b:=b) ↥0
  generalize (lowM t b).1=x at*
  generalize (lowM t b).2=y at*
  have dp:0 < d:=by
    rcases Int.lt_or_gt_of_ne e2 with z | z
    · exfalso
      have:y*d < 0:=Int.mul_neg_of_pos_of_neg e5 z
      lia
    · exact z
  have x0:0≤x:=by
    rcases Int.lt_or_le x 0 with z | z
    · have:x*d < 0:=Int.mul_neg_of_neg_of_pos z dp
      lia
    · exact z
  have xy:x≤y:=by
    rcases Int.lt_or_le y x with z | z
    · have:y*d < x*d:=Int.mul_lt_mul_of_pos_right z dp
      lia
    · exact z
  have yb:y≤y*d:=by
    have:=Rz (show(1:Int)≤d by lia) (show 0≤y by lia)
    lia
  exact⟨x0,xy,by lia,by lia⟩
inductive mK {α β:Type} (R:α→β→Prop):List α→List β→Prop
  | nil:mK R [] []
  | cons {a b as bs}:R a b→mK R as bs→mK R (a::as) (b::bs)
namespace mK
variable{α β:Type}{R S:α→β→Prop}
theorem mono(h:∀a b,R a b→S a b):∀{as:List α} {bs:List β},mK R as bs→mK S as bs
  | _,_,.nil=>.nil
  | _,_,.cons x r=>.cons (h _ _ x) (mono h r)
theorem len:∀{as:List α} {bs:List β},mK R as bs→as.length=bs.length
  | _,_,.nil=>rfl
  | _,_,.cons _ r=>by simp [len r]
theorem snoc{a:α}{b:β}(h:R a b):∀{as:List α} {bs:List β},mK R as bs→mK R (as++[a]) (bs++[b])
  | _,_,.nil=>.cons h .nil
  | _,_,.cons x r=>.cons x (snoc h r)
theorem get:∀{as:List α} {bs:List β} {i:Nat} {b:β},mK R as bs→bs[i]?=some b→∃a,as[i]?=some a∧R a b
  | _,_,_,_,.nil,e=>by simp at e
  | _,_,0,_,.cons x _,e=>by simp at e;subst e;exact⟨_,rfl,x⟩
  | _,_,i+1,b,.cons _ r,e=>by
    obtain⟨v,h1,h2⟩:=get (i:=i) (b:=b) r (by simpa using e)
    exact⟨v,by simpa using h1,h2⟩
end mK
section
variable{K:⇑0}{a l:MW}{xs:List V}{g:TG}{tc:TT}{te:TE}{Q:VK}{σ:L2.St}{H:Hp}{α β:Type}{us:List α}{cp:List (Nat × Str)}{nT:Nat}
def Iz(bc:Hp→V→β→Prop)(SI:L2.St→Prop)(us:List α)(f:α→Option β)(H:Hp)(l:MW)(i:Nat)(σ:L2.St)(H':Hp):Prop:=SI σ∧aG H H'∧∃vs,H' l=some (.lst vs)∧vs.length≤i∧mK (bc H') vs ((us.take i).filterMap f)
end
def uB(ns:List Int):List Int:=ns.mergeSort
theorem pv(ns:List Int):(uB ns).Perm ns:=List.mergeSort_perm ns _
theorem GC{ns:List Int}{x:Int}:x∈uB ns↔ x∈ns:=(pv ns).mem_iff
theorem GB(ns:List Int):(uB ns).length=ns.length:=(pv ns).length_eq
section
variable{X:Cx}{K:⇑0}{pos:Pos}
theorem zU(h:X.K=K):BH X (FQ K):=h ▸ wH
theorem CP{es:List Na}{k:Nat}{t:BI}{n:Nat}(hK:X.K=K)(hc:X.calm=true)(h:yI X es t)(hn:(Ol es X.env).length=n:=by rfl)(hst:(Ol es X.env).findIdx? (·.1)=none:=by rfl):PG X (.Tuple es k pos) (G1 K n t):=hK ▸ Fs hc h hn hst
theorem CT{tg l:Na}{tl:TE}(h:X.K=K)(hl:PE X l tl):PI X tg l (G6 K tl):=h ▸ Ft hl
theorem AG{tg l:Na}{tl:TE}(h:X.K=K)(hl:PE X l tl):PI X tg l (DS K tl):=h ▸ CS hl
end
instance:Inhabited hJ:=⟨⟨0,1,1,1,0⟩⟩
def bZ.tie(W:bZ)(k:Int):hJ:=W.ties.getD k.toNat default
def bZ.has(W:bZ)(k thing:Int):Bool:=(W.tie k).one==thing || (W.tie k).other==thing
def bZ.many(W:bZ)(asked:List Int)(thing:Int):Int:=((asked.filter fun k=>W.has k thing).length:Nat)
def bZ.bears(W:bZ)(asked taken:List Int)(thing:Int):Bool:= !taken.contains thing&&decide (W.many asked thing < W.pat.getD thing.toNat 0)
def bZ.may(W:bZ)(asked taken:List Int)(k:Int):Bool:= !(asked.contains k || decide (W.asks≤(asked.length:Int)))&&(W.bears asked taken (W.tie k).one&&W.bears asked taken (W.tie k).other)
def bZ.askd(asked:List Int)(k:Int):List Int:=uB (asked++[k])
def bZ.took(W:bZ)(taken:List Int)(k:Int)(truth:Bool):List Int:=if truth then uB (taken++[(W.tie k).one,(W.tie k).other]) else taken
def bZ.rng(W:bZ):List Int:=(Nb W.ties.length).map Int.ofNat
def xD(W:bZ)(k:Int):Prop:=0≤k∧k < (W.ties.length:Int)
theorem xD.get{W:bZ}{k:Int}(h:xD W k):W.ties[k.toNat]?=some (W.tie k):=by
  have hk:k.toNat < W.ties.length:=by have:=h.1;have:=h.2;lia
  unfold bZ.tie
  rw [Pf,NL hk];rfl
theorem xD.ok{W:bZ}{k:Int}(h:xD W k)(o:W.Ok):(W.tie k).Ok W.things:=o.ties _ (MV h.get)
theorem IF{W:bZ}{k:Int}:k∈W.rng↔ xD W k:=by
  unfold bZ.rng xD
  rw [Pi]
  constructor
  · rintro⟨n,hn,rfl⟩
    have:=NB.mp hn
    exact⟨Int.natCast_nonneg n,by simp;lia⟩
  · rintro⟨h0,h1⟩
    exact⟨k.toNat,NB.mpr ↥0,by simp;lia⟩
def Eo(K:⇑0)(H:Hp)(v:V)(asked taken:List Int):Prop:=∃a b c,v=.ref a∧dz K H a [.ref b,.ref c]∧dz K H b (asked.map V.int)∧dz K H c (taken.map V.int)
theorem Eo.ts{K:⇑0}{H H':Hp}(s:mw H H'){v:V}{asked taken:List Int}(h:Eo K H v asked taken):Eo K H' v asked taken:=by
  obtain⟨a,b,c,e,h1,h2,h3⟩:=h
  exact⟨a,b,c,e,s.tup h1,s.tup h2,s.tup h3⟩
section
variable{K:⇑0}{σ:L2.St}{H:Hp}{Q:VK}{i j:Nat}{vW:V}{W:bZ}{k:Int}
end
def small(k:Int):Prop:= -1000000≤k∧k≤1000000
def Dk(n dep:Nat)(d:MY):Prop:=d.showable=true∧oM d=true∧L2.cnt d≤n∧d.depth≤dep
theorem Dk.mono{n m dep e:Nat}{d:MY}(h:Dk n dep d)(h1:n≤m)(h2:dep≤e):Dk m e d:=⟨h.1,h.2.1,NS h.2.2.1 h1,NS h.2.2.2 h2⟩
theorem Dk.int{k:Int}(h:small k):Dk 1 2 (.int k):=by
  refine⟨?_,rfl,Ny _,by simp [OA]⟩
  show decide (k.natAbs.log2 < 1920)=true
  rw [decide_eq_true_eq]
  exact QZ ((show Bt 64 k by have:=h.1;have:=h.2;unfold Bt;lia).log ⋯) ⋯
theorem Dk.bool(b:Bool):Dk 1 2 (.bool b):=⟨rfl,rfl,Ny _,by simp [OA]⟩
theorem Dk.none:Dk 1 2 .none:=⟨rfl,rfl,Ny _,by simp [OA]⟩
theorem Dk.all{n dep:Nat}:∀{ds:List MY},(∀d∈ds,Dk n dep d)→QF ds=true∧iq ds=true∧j7 ds≤ds.length*n∧OP ds≤dep
  | [],_=>⟨rfl,rfl,by simp [j7],by simp [OP]⟩
  | d::r,h=>by
    obtain⟨a1,a2,a3,a4⟩:=h d ↥1
    obtain⟨b1,b2,b3,b4⟩:=Dk.all (ds:=r) fun x hx=>h x (by simp [hx])
    refine⟨?_,?_,?_,?_⟩
    · simp only [QF,a1,b1,Rb]
    · simp only [iq,a2,b2,Rb]
    · simp only [j7,Pp,Nat.succ_mul]
      lia
    · simp only [OP];lia
theorem Dk.tup{n dep m:Nat}{ds:List MY}(h:∀d∈ds,Dk n dep d)(hl:ds.length≤m):Dk (1+m*n) (dep+2) (.tuple ds):=by
  obtain⟨b1,b2,b3,b4⟩:=Dk.all h
  refine⟨b1,b2,?_,?_⟩
  · simp only [L2.cnt]
    have:=Sb n hl
    lia
  · simp only [OA];lia
theorem Dk.ok{n dep:Nat}{d:MY}(h:Dk n dep d)(h1:n≤8000)(h2:dep≤60):d.showable=true∧d.depth≤60∧d.shown.length≤Nr:=by
  have:=qF h.2.1 h.1
  have sl:Nr=16777216:=Om
  have:=h.2.2.1
  exact⟨h.1,NS h.2.2.2 h2,by lia⟩
theorem Dk.ints{ns:List Int}{m:Nat}(hl:ns.length≤m)(h:∀r∈ns,small r):Dk (1+m) 4 (.tuple (ns.map .int)):=by
  have:=Dk.tup (n:=1) (dep:=2) (m:=m) (ds:=ns.map PyData.int) (fun d hd=>by
    obtain⟨x,hx,rfl⟩:=MT hd
    exact Dk.int (h x hx)) (by rw [Nw];exact hl)
  simpa using this
section
variable{K:⇑0}{H:Hp}
def av(t:hJ):MY:=.tuple [.int t.one,.int t.other,.tuple [.int t.top,.int t.bot],.int t.worth]
def aB(W:bZ):MY:=.tuple [.int W.things,.tuple (W.ties.map av),.tuple (W.pat.map .int),.int W.asks]
def Kx(asked taken:List Int):MY:=.tuple [.tuple (asked.map .int),.tuple (taken.map .int)]
end
section
variable{X:Cx}
end
section
variable{prog:Nk}{w:Ng}{A:Nn}{E:MX→MZ→Prop}{s:MZ}
theorem Bv{it t:MW}{i:Nat}{ys}{x:MX}{Q:MX→MZ→Prop}(hi:s.heap.IsTupleIter it t i)(ht:s.heap.IsTuple t ys)(hx:ys[i]?=some x)
    (q:∀g,g.IsTupleIter it t (i+1)→PM it s.heap g→Q x {s with heap:=g}):Nf (Ni prog w) A (Pt (.ref it)) Q E s:=by
  obtain⟨o,ho,hc,hd⟩:=id hi;obtain⟨p,hp,_,n,hpd⟩:=ht;unfold Pt
  refine Nc (PX (name:=On "__next__") hi.typeIs RB (PB RB hi.typeIs F.entry_tuple_iterator_next ?_ (F.args_tuple_iterator_next_1 _)))
  show Nf _ _ (field (.ref it) 0 >>= _) _ _ s;refine Nc (NZ ho hd (x:=.ref t) rfl ?_)
  show Nf _ _ (if (Value.ref t==Value.none)=true then _ else _) _ _ s;rw [if_neg (show ¬((Value.ref t==Value.none)=true) from Pn)]
  show Nf _ _ (field (.ref it) 1 >>= _) _ _ s;refine Nc (NZ ho hd (x:=.int i 0) rfl ?_)
  show Nf _ _ (seqItems? (.ref t) >>= _) _ _ s;refine Nc (Pu hp hpd ?_)
  simp only [OF,hx];refine Nc (wpAny_setField ho hd ↥1 (Nm ⟨x,rfl,Nm (q _ ?_ (Heap.SameBut.update ..))⟩))
  refine⟨_,RY _ ho (Obj.isFreed_of_fields (Obj.data_mapFields hd _)),(Obj.cls_mapFields ..).trans hc,?_⟩;rw [Obj.data_mapFields hd];simp [rawInt]
theorem Bu{it t:MW}{i:Nat}{ys}{Q:MX→MZ→Prop}(hh:A.handled=none)(hi:s.heap.IsTupleIter it t i)(ht:s.heap.IsTuple t ys)(hx:ys[i]?=none)
    (q:∀g e,Heap.ExtBut it s.heap g→(∃o,g.get? e=some o∧o.cls=.type "StopIteration")→E (.ref e) {s with heap:=g}):Nf (Ni prog w) A (Pt (.ref it)) Q E s:=by
  obtain⟨o,ho,hc,hd⟩:=id hi;obtain⟨p,hp,_,n,hpd⟩:=ht;unfold Pt
  refine Nc (PX (name:=On "__next__") hi.typeIs RB (PB RB hi.typeIs F.entry_tuple_iterator_next ?_ (F.args_tuple_iterator_next_1 _)))
  show Nf _ _ (field (.ref it) 0 >>= _) _ _ s;refine Nc (NZ ho hd (x:=.ref t) rfl ?_)
  show Nf _ _ (if (Value.ref t==Value.none)=true then _ else _) _ _ s;rw [if_neg (show ¬((Value.ref t==Value.none)=true) from Pn)]
  show Nf _ _ (field (.ref it) 1 >>= _) _ _ s;refine Nc (NZ ho hd (x:=.int i 0) rfl ?_)
  show Nf _ _ (seqItems? (.ref t) >>= _) _ _ s;refine Nc (Pu hp hpd ?_)
  simp only [OF,hx];refine Nc (wpAny_rule (Nc (wpAny_setField ho hd ↥1 ?_)))
  show Nf _ _ (newExc (.type "StopIteration") [] >>= _) _ _ _;refine Nc ?_;simp only [newExc,newTuple]
  refine Nc (Ow ?_ (by size_fits));refine Nc (m:=firstArgMember _ _) (wpAny_of_eq (a:=Value.none) (by first | rfl | (simp only [firstArgMember];rfl)) ?_)
  refine Ow ?_ (by size_fits);simp only [raiseNew];refine Nc (wpAny_handled ?_);first | rw [show A.in1.handled=none from hh] | rw [hh]
  refine Nc (Nm (wpAny_throw ?_));exact q _ _ (((Heap.SameBut.update ..).extBut.push _).push _) ⟨_,Oj _ rfl,rfl⟩
end
structure Sc (prog:Nk) (w:Ng) (it l:MW) (St:Nat→Nh→Prop) (Sq:Nh→Array MX→Prop):Prop where
  stay:∀{k h h'},St k h→(∀o,h.get? it=some o→h'.get? it=some o)→St k h'
  live:∀{k h},St k h→∃o,h.get? it=some o∧∀v,o.data≠.cell v
  row:∀{h h' xs},Sq h xs→(∀o,h.get? l=some o→h'.get? l=some o)→Sq h' xs
  next:∀{A:Nn} {s:MZ} {E:MX→MZ→Prop} {Q:MX→MZ→Prop} {k:Nat} {xs:Array MX} {x:MX},St k s.heap→Sq s.heap xs→xs[k]?=some x→(∀g,St (k+1) g→PM it s.heap g→Q x {s with heap:=g})→Nf (Ni prog w) A (Pt (.ref it)) Q E s
  last:∀{A:Nn} {s:MZ} {E:MX→MZ→Prop} {Q:MX→MZ→Prop} {k:Nat} {xs:Array MX},A.handled=none→St k s.heap→Sq s.heap xs→xs[k]?=none→(∀g e,Heap.ExtBut it s.heap g→(∃o,g.get? e=some o∧o.cls=.type "StopIteration")→E (.ref e) {s with heap:=g})→Nf (Ni prog w) A (Pt (.ref it)) Q E s
theorem vL{prog:Nk}{w:Ng}(it l:MW):Sc prog w it l (fun k h=>h.IsTupleIter it l k) (fun h xs=>h.IsTuple l xs) where
  stay:=fun st k=>st.at fun o e=>k o e
  live:=fun st=>by
    obtain⟨o,e,c,d⟩:=st
    exact⟨o,e,fun v z=>by rw [d] at z;cases z⟩
  row:=fun q k=>by
    obtain⟨o,e,r⟩:=q
    exact⟨o,k o e,r⟩
  next:=fun st sq hx q=>Bv st sq hx q
  last:=fun hh st sq hx q=>Bu hh st sq hx q
theorem sN{prog:Nk}{w:Ng}(it l:MW):Sc prog w it l (fun k h=>h.IsListIter it l k) (fun h xs=>h.IsList l xs) where
  stay:=fun st k=>st.at fun o e=>k o e
  live:=fun st=>by
    obtain⟨o,e,c,d⟩:=st
    exact⟨o,e,fun v z=>by rw [d] at z;cases z⟩
  row:=fun q k=>by
    obtain⟨o,e,r⟩:=q
    exact⟨o,k o e,r⟩
  next:=fun st sq hx q=>wpAny_nextOf_list_item st sq hx q
  last:=fun hh st sq hx q=>wpAny_nextOf_list_end hh st sq hx q
structure p5 (z TI TO i1 i2 l1 l2:MW):Prop where
  a1:TO≠z
  a2:i1≠z
  a3:i2≠z
  a4:TO≠i1
  a5:TO≠i2
  a6:i1≠i2
  b1:l1≠z
  b2:l1≠TO
  b3:l1≠i1
  b4:l1≠i2
  c1:l2≠z
  c2:l2≠TO
  c3:l2≠i1
  c4:l2≠i2
section
variable{prog:Nk}{w:Ng}{A:Nn}{E:MX→MZ→Prop}{s:MZ}{z TI TO i1 i2 l1 l2:MW}{k:Nat}{xs ys:Array MX}{a b:MX}{S1 S2:Nat→Nh→Prop}{R1 R2:Nh→Array MX→Prop}
theorem Gx{x y:MX}{Q:MX→MZ→Prop}(P1:Sc prog w i1 l1 S1 R1)(P2:Sc prog w i2 l2 S2 R2)(D:p5 z TI TO i1 i2 l1 l2)(hz:IsZip s.heap z TI TO .none)(hI:NR s.heap TI (.ref i1) (.ref i2))(hO:NR s.heap TO a b)(u1:S1 k s.heap)(u2:S2 k s.heap)(r1:R1 s.heap xs)(r2:R2 s.heap ys)(hx:xs[k]?=some x)(hy:ys[k]?=some y)
    (q:∀g,IsZip g z TI TO (rawInt ↑s)→NR g TO x y→S1 (k+1) g→S2 (k+1) g→NR g ↑s x y→g.objs.size=↑s+1→(∀c o,c≠z→c≠TO→c≠i1→c≠i2→s.heap.get? c=some o→g.get? c=some o)→Q (.ref ↑s) {s with heap:=g}):
    Nf (Ni prog w) A (Builtin.«zip.__next__» ⟨[.ref z],[]⟩) (fun f s'=>∃v,f=.done (.ret v)∧Q v s') E s:=by
  show Nf _ _ (field (.ref z) 2 >>= _) _ _ _;refine Nc (NZ hz rfl (x:=.bool false) rfl ?_)
  show Nf _ _ (field (.ref z) 3 >>= _) _ _ _;refine Nc (NZ hz rfl (x:=.ref TI) rfl ?_);refine Nc (Pu hI rfl ?_)
  show Nf _ _ (RC (.ref z) >>= _) _ _ _;refine Nc ?_;unfold RC
  refine Nc (NZ hz rfl (x:=.none) rfl (Nm ?_));simp only [if_true];refine Nc (wpAny_rule ?_)
  refine Nc (NZ hz rfl (x:=.ref TO) rfl ?_);refine Nc (QH hz ↥1 fun g1 z1 e1=>?_)
  replace z1:IsZip g1 z TI TO .ellipsis:=z1;refine Nc ?_;simp only [List.zipIdx_cons,List.zipIdx_nil,List.forIn_cons,List.forIn_nil]
  refine Nc (Nc (wpAny_onRaise ?_));show Nf _ _ (Pt (.ref i1) >>= _) _ _ _
  refine Nc (P1.next (P1.stay u1 fun o e=>e1.extBut _ _ D.a2 e) (P1.row r1 fun o e=>e1.extBut _ _ D.b1 e) hx fun g2 v1 e2=>Nm ?_)
  have O2:NR g2 TO a b:=e2.extBut _ _ D.a4 (e1.extBut _ _ D.a1 hO)
  refine Nc (Pu O2 rfl ?_);refine Nc (Sd O2 fun g3 O3 e3=>?_);replace O3:NR g3 TO x b:=O3;refine Nc (Qu (Nm ?_))
  refine Nc (Nc (wpAny_onRaise ?_));show Nf _ _ (Pt (.ref i2) >>= _) _ _ _
  have up3:∀c o,c≠z→c≠i1→c≠TO→s.heap.get? c=some o→g3.get? c=some o:=fun c o n1 n2 n3 e=>e3.extBut _ _ n3 (e2.extBut _ _ n2 (e1.extBut _ _ n1 e))
  refine Nc (P2.next (P2.stay u2 fun o e=>up3 _ _ D.a3 D.a6.symm D.a5.symm e) (P2.row r2 fun o e=>up3 _ _ D.c1 D.c3 D.c2 e) hy fun g4 v2 e4=>Nm ?_)
  have O4:NR g4 TO x b:=e4.extBut _ _ D.a5 O3
  refine Nc (Pu O4 rfl ?_);refine Nc (Sd O4 fun g5 O5 e5=>?_);replace O5:NR g5 TO x y:=O5;refine Nc (Qu (Nm (Nm ?_)))
  refine Nc (Pu O5 rfl ?_);refine Nc (wpAny_newTuple ?_)
  have sz:g5.objs.size=↑s:=by rw [e5.1,e4.1,e3.1,e2.1,e1.1]
  have z5:IsZip g5 z TI TO .ellipsis:=e5.extBut _ _ D.a1.symm (e4.extBut _ _ D.a3.symm (e3.extBut _ _ D.a1.symm (e2.extBut _ _ D.a2.symm z1)))
  have k5:∀c o,c≠z→c≠TO→c≠i1→c≠i2→s.heap.get? c=some o→g5.get? c=some o:=fun c o n1 n2 n3 n4 e=>e5.extBut _ _ n2 (e4.extBut _ _ n4 (up3 c o n1 n3 n2 e))
  have w1:S1 (k+1) g5:=P1.stay v1 fun o e=>e5.extBut _ _ D.a4.symm (e4.extBut _ _ D.a6 (e3.extBut _ _ D.a4.symm e))
  have w2:S2 (k+1) g5:=P2.stay v2 fun o e=>e5.extBut _ _ D.a5.symm e
  have lz:z < g5.objs.size:=Nu z5
  show Nf _ _ (SL (.ref z) (.ref g5.objs.size) >>= _) _ _ _;refine Nc ?_;unfold SL
  have z6:IsZip (g5.push {cls:=.type "tuple",data:=.seq #[x,y]}) z TI TO .ellipsis:=Nz _ z5
  refine Nc (QH z6 ↥1 fun g7 z7 e7=>?_);replace z7:IsZip g7 z TI TO (rawInt g5.objs.size):=z7
  refine QH z7 ↥1 fun g8 z8 e8=>?_;replace z8:IsZip g8 z TI TO (rawInt g5.objs.size):=z8
  have up:∀c o,c≠z→g5.get? c=some o→g8.get? c=some o:=fun c o n e=>e8.extBut _ _ n (e7.extBut _ _ n (Nz _ e))
  have T8:NR g8 g5.objs.size x y:=e8.extBut _ _ (QR lz) (e7.extBut _ _ (QR lz) (Oj _ rfl))
  have n8:g8.objs.size=g5.objs.size+1:=by rw [e8.1,e7.1,Oo]
  rw [sz] at z8 T8 n8;refine Nm ⟨_,rfl,?_⟩;show Q (.ref g5.objs.size) _;rw [sz]
  exact q g8 z8 (up _ _ D.a1 O5) (P1.stay w1 fun o e=>up _ o D.a2 e) (P2.stay w2 fun o e=>up _ o D.a3 e) T8 n8 fun c o n1 n2 n3 n4 e=>up c o n1 (k5 c o n1 n2 n3 n4 e)
theorem Dz{Q:Fin→MZ→Prop}(hh:A.handled=none)(P1:Sc prog w i1 l1 S1 R1)(P2:Sc prog w i2 l2 S2 R2)(D:p5 z TI TO i1 i2 l1 l2)(hz:IsZip s.heap z TI TO .none)(hI:NR s.heap TI (.ref i1) (.ref i2))(hO:NR s.heap TO a b)(u1:S1 k s.heap)(u2:S2 k s.heap)(r1:R1 s.heap xs)(r2:R2 s.heap ys)(hn:xs[k]?=none∨ys[k]?=none)
    (q:∀g e,(∀c o,c≠z→c≠TO→c≠i1→c≠i2→s.heap.get? c=some o→g.get? c=some o)→(∃o,g.get? e=some o∧o.cls=.type "StopIteration")→E (.ref e) {s with heap:=g}):
    Nf (Ni prog w) A (Builtin.«zip.__next__» ⟨[.ref z],[]⟩) Q E s:=by
  show Nf _ _ (field (.ref z) 2 >>= _) _ _ _;refine Nc (NZ hz rfl (x:=.bool false) rfl ?_)
  show Nf _ _ (field (.ref z) 3 >>= _) _ _ _;refine Nc (NZ hz rfl (x:=.ref TI) rfl ?_);refine Nc (Pu hI rfl ?_)
  show Nf _ _ (RC (.ref z) >>= _) _ _ _;refine Nc ?_;unfold RC
  refine Nc (NZ hz rfl (x:=.none) rfl (Nm ?_));simp only [if_true];refine Nc (wpAny_rule ?_)
  refine Nc (NZ hz rfl (x:=.ref TO) rfl ?_);refine Nc (QH hz ↥1 fun g1 z1 e1=>?_)
  replace z1:IsZip g1 z TI TO .ellipsis:=z1;refine Nc ?_;simp only [List.zipIdx_cons,List.zipIdx_nil,List.forIn_cons,List.forIn_nil]
  refine Nc (Nc (wpAny_onRaise ?_));show Nf _ _ (Pt (.ref i1) >>= _) _ _ _
  cases hx:xs[k]? with
  | none=>
    refine Nc (P1.last hh (P1.stay u1 fun o e=>e1.extBut _ _ D.a2 e) (P1.row r1 fun o e=>e1.extBut _ _ D.b1 e) hx fun g2 e e2 he=>?_)
    obtain⟨oe,h1,h2⟩:=he;have z2:IsZip g2 z TI TO .ellipsis:=e2 _ _ D.a2.symm z1
    have nz:e≠z:=fun x=>by subst x;rw [z2] at h1;cases h1;simp at h2
    refine QH z2 ↥1 fun g3 _ e3=>q g3 e (fun c o n1 _ n3 _ x=>e3.extBut _ _ n1 (e2 _ _ n3 (e1.extBut _ _ n1 x))) ⟨oe,e3.extBut _ _ nz h1,h2⟩
  | some x=>
    have hy:ys[k]?=none:=by
      rcases hn with h | h
      · rw [hx] at h;cases h
      · exact h
    refine Nc (P1.next (P1.stay u1 fun o e=>e1.extBut _ _ D.a2 e) (P1.row r1 fun o e=>e1.extBut _ _ D.b1 e) hx fun g2 v1 e2=>Nm ?_)
    have O2:NR g2 TO a b:=e2.extBut _ _ D.a4 (e1.extBut _ _ D.a1 hO)
    refine Nc (Pu O2 rfl ?_);refine Nc (Sd O2 fun g3 O3 e3=>?_);refine Nc (Qu (Nm ?_))
    refine Nc (Nc (wpAny_onRaise ?_));show Nf _ _ (Pt (.ref i2) >>= _) _ _ _
    have up3:∀c o,c≠z→c≠i1→c≠TO→s.heap.get? c=some o→g3.get? c=some o:=fun c o n1 n2 n3 e=>e3.extBut _ _ n3 (e2.extBut _ _ n2 (e1.extBut _ _ n1 e))
    refine Nc (P2.last hh (P2.stay u2 fun o e=>up3 _ _ D.a3 D.a6.symm D.a5.symm e) (P2.row r2 fun o e=>up3 _ _ D.c1 D.c3 D.c2 e) hy fun g4 e e4 he=>?_)
    obtain⟨oe,h1,h2⟩:=he;have z4:IsZip g4 z TI TO .ellipsis:=e4 _ _ D.a3.symm (e3.extBut _ _ D.a1.symm (e2.extBut _ _ D.a2.symm z1))
    have nz:e≠z:=fun x=>by subst x;rw [z4] at h1;cases h1;simp at h2
    refine QH z4 ↥1 fun g5 _ e5=>q g5 e (fun c o n1 n2 n3 n4 x=>e5.extBut _ _ n1 (e4 _ _ n4 (up3 c o n1 n3 n2 x))) ⟨oe,e5.extBut _ _ nz h1,h2⟩
theorem BF{x y:MX}{Q:Option MX→MZ→Prop}(P1:Sc prog w i1 l1 S1 R1)(P2:Sc prog w i2 l2 S2 R2)(D:p5 z TI TO i1 i2 l1 l2)(hz:IsZip s.heap z TI TO .none)(hI:NR s.heap TI (.ref i1) (.ref i2))(hO:NR s.heap TO a b)(u1:S1 k s.heap)(u2:S2 k s.heap)(r1:R1 s.heap xs)(r2:R2 s.heap ys)(hx:xs[k]?=some x)(hy:ys[k]?=some y)
    (q:∀g,IsZip g z TI TO (rawInt ↑s)→NR g TO x y→S1 (k+1) g→S2 (k+1) g→NR g ↑s x y→g.objs.size=↑s+1→(∀c o,c≠z→c≠TO→c≠i1→c≠i2→s.heap.get? c=some o→g.get? c=some o)→Q (some (.ref ↑s)) {s with heap:=g}):
    Nf (Ni prog w) A (OJ (.ref z)) Q E s:=by
  have hT:s.TypeIs (.ref z) "zip":=⟨_,hz,rfl⟩;unfold OJ
  refine Nc (wpAny_attempt (PX (name:=On "__next__") hT RD (PB RD hT F.entry_zip_next ?_ (F.args_zip_next_1 _))))
  exact Gx P1 P2 D hz hI hO u1 u2 r1 r2 hx hy fun g b1 b2 b3 b4 b5 b6 b7=>Nm (q g b1 b2 b3 b4 b5 b6 b7)
theorem BG{Q:Option MX→MZ→Prop}(hh:A.handled=none)(P1:Sc prog w i1 l1 S1 R1)(P2:Sc prog w i2 l2 S2 R2)(D:p5 z TI TO i1 i2 l1 l2)(hz:IsZip s.heap z TI TO .none)(hI:NR s.heap TI (.ref i1) (.ref i2))(hO:NR s.heap TO a b)(u1:S1 k s.heap)(u2:S2 k s.heap)(r1:R1 s.heap xs)(r2:R2 s.heap ys)(hn:xs[k]?=none∨ys[k]?=none)
    (q:∀g,(∀c o,c≠z→c≠TO→c≠i1→c≠i2→s.heap.get? c=some o→g.get? c=some o)→Q none {s with heap:=g}):Nf (Ni prog w) A (OJ (.ref z)) Q E s:=by
  have hT:s.TypeIs (.ref z) "zip":=⟨_,hz,rfl⟩;unfold OJ
  refine Nc (wpAny_attempt (PX (name:=On "__next__") hT RD (PB RD hT F.entry_zip_next (Dz hh P1 P2 D hz hI hO u1 u2 r1 r2 hn fun g e hk he=>?_) (F.args_zip_next_1 _))))
  obtain⟨o,ho,hc⟩:=he;refine Nc (wpAny_isInstance (T:="StopIteration") (b:=true) ⟨o,ho,hc⟩ isSubtype_stop ?_);exact Nm (q _ hk)
end
section
variable{X:Cx}{pins:List (MW × Obj)}{σ:L2.St}{H:Hp}{s:MZ}{h':Nh}
theorem aI.turnedL{t':Nat}{fp:List MW}(I:aI X pins σ H s)(hf:∀b∈fp,gS X pins H b)(k:∀b o,b∉fp→s.heap.get? b=some o→h'.get? b=some o):aI X pins σ H {s with heap:=h',toks:=t'}:=by
  have hL:X.env.locals∉fp:=fun z=>(hf _ z).2.1 rfl
  have nit:∀b u,H b=some u→b∉fp:=fun b u e z=>by have:=(hf b z).1;rw [this] at e;cases e
  refine I.step (g':=s.gens) (d':=s.drawn) (ch:=fp) (fun b hb=>?_) (fun b o _ _ hc e _=>k b o hc e) (fun b o _ _ hc e _=>⟨o.slots,k b o hc e⟩) (fun _ _ _ _ n=>n) (fun b o hc e=>⟨o,k b o hc e⟩) (fun _ _ e=>e) (fun _ _ _ e=>e) (fun b ps e=>⟨#[],by rw [e];simp⟩) (fun m hm=>?_) (fun b u e=>?_) I.bare
  · obtain⟨f0,f1,f2,f3,f4,f5⟩:=hf b hb
    exact⟨f3,f1,f4,f5⟩
  · obtain⟨o,es,ep,ho,r⟩:=hm
    exact⟨o,es,ep,k _ o hL ho,r⟩
  · refine(I.hok b u e).stay (fun c v hc q=>k c v ?_ q) (fun _ q=>q) fun _ _ q=>q
    rcases hc with z | z
    · rw [z];exact nit b u e
    · exact nit c _ z
theorem nE(I:aI X pins σ H s){b l:MW}{xs:List V}(f:gS X pins H b)(q:dz X.K H l xs):l≠b:=by
  intro z
  subst z
  rcases q with (q | ⟨o,q⟩) | ⟨o,its,n,hk,_⟩
  · rw [f.1] at q;cases q
  · rw [f.1] at q;cases q
  · have hb:X.base.get? l=some o:=I.ok.mod.kin l o hk
    rcases f.2.2.2.1 with z | z
    · exact I.ok.noex l o hb z
    · exact absurd (NV (Nu (I.ok.bs l o hb).1) z) (OW _)
end
section
variable{prog:Nk}{w:Ng}{A:Nn}{E:MX→MZ→Prop}{s:MZ}
end
theorem yX:OX "zip"=some (.type "zip"):=by decide+kernel
def Eg(h:Nh)(z TI TO:MW)(a:MW)(f:Bool):Prop:=h.get? z=some {cls:=.type "zip",data:=.fields #[rawInt a,.bool f,.bool false,.ref TI,.ref TO]}
section
variable{prog:Nk}{w:Ng}{A:Nn}{E:MX→MZ→Prop}{s:MZ}{z TI TO i1 i2 l1 l2:MW}{k:Nat}{xs ys:Array MX}{a:MW}{f:Bool}{S1 S2:Nat→Nh→Prop}{R1 R2:Nh→Array MX→Prop}
end
structure ZL (S z TI TO i1 i2 l1 l2:MW) (xs ys:Array MX) (i:Nat) (h:Nh):Prop where
  pr:NR h TI (.ref i1) (.ref i2)
  t1:h.IsTupleIter i1 l1 i
  t2:h.IsTupleIter i2 l2 i
  s1:h.IsTuple l1 xs
  s2:h.IsTuple l2 ys
  ot:∃o,h.get? TO=some o
  zs:(IsZip h z TI TO .none∧∃a b,NR h TO a b)∨∃a f oa,Eg h z TI TO a f∧h.get? a=some oa∧a≠S∧a≠z∧a≠i1∧a≠i2
structure JH (S z TO i1 i2:MW) (xs ys:Array MX) (h:Nh) (acc:Array MX) (i:Nat):Prop where
  sz:acc.size=i
  at_:∀(j:Nat) (v:MX),acc[j]?=some v→∃(p:MW) (x y:MX),v=.ref p∧xs[j]?=some x∧ys[j]?=some y∧NR h p x y∧p≠S∧p≠z∧p≠TO∧p≠i1∧p≠i2
  lo:∀(j:Nat) (p:MW),acc[j]?=some (.ref p)→S < p
  Kg:∀(i j:Nat) (p q:MW),i < j→acc[i]?=some (.ref p)→acc[j]?=some (.ref q)→p < q
section
variable{prog:Nk}{w:Ng}{A:Nn}{R:Result→MZ→Prop}{S z TI TO i1 i2 l1 l2:MW}{xs ys:Array MX}{n:Nat}
end
section
variable{X:Cx}{pins:List (MW × Obj)}{σ:L2.St}{H H':Hp}{s:MZ}{h':Nh}
end
section
variable{prog:Nk}{w:Ng}{A:Nn}{E:MX→MZ→Prop}{s:MZ}{e it l:MW}{k:Nat}{xs:Array MX}{S:Nat→Nh→Prop}{R:Nh→Array MX→Prop}
theorem uu(P1:Sc prog w it l S R)(hh:A.handled=none)(hne:l≠it)(xs:Array MX):Draws prog w A it [it,l] xs.size (fun i v=>xs[i]?=some v) (fun i h=>S i h∧R h xs) where
  live:=fun _ _ st=>let ⟨o,ho,_⟩:=P1.live st.1;⟨o,ho⟩
  frame:=fun _ _ _ st hk=>⟨P1.stay st.1 fun o e=>hk it ↥1 o e,P1.row st.2 fun o e=>hk l ↥1 o e⟩
  item:=fun i s Q E hi st hQ=>P1.next st.1 st.2 (x:=xs[i]) (by simp [hi]) fun g h1 h2=>hQ _ g s.toks (by simp [hi]) ⟨h1,P1.row st.2 fun o e=>h2.extBut _ _ hne e⟩ h2
  done:=fun s Q E st hE=>P1.last hh st.1 st.2 ↥1 hE
theorem qg{i:Int}{old:MX}{Q:Option MX→MZ→Prop}(P1:Sc prog w it l S R)(hh:A.handled=none)(he:IsEnum s.heap e it i old)(st:S k s.heap)(sq:R s.heap xs)(hx:xs[k]?=none)(q:∀g,Heap.ExtBut it s.heap g→Q none {s with heap:=g}):Nf (Ni prog w) A (OJ (.ref e)) Q E s:=by
  have hT:s.TypeIs (.ref e) "enumerate":=⟨_,he,rfl⟩;unfold OJ
  refine Nc (wpAny_attempt (PX (name:=On "__next__") hT Se (PB Se hT F.entry_enumerate_next ?_ (F.args_enumerate_next_1 _))))
  show Nf _ _ (field (.ref e) 2 >>= _) _ _ _;refine Nc (NZ he rfl (x:=.ref it) rfl ?_)
  refine Nc (P1.last hh st sq hx fun g x hk hx'=>?_);obtain⟨o,ho,hc⟩:=hx'
  refine Nc (wpAny_isInstance (T:="StopIteration") (b:=true) ⟨o,ho,hc⟩ isSubtype_stop ?_);exact Nm (q _ hk)
theorem jC{i:Int}{old:MX}{Q:MX→MZ→Prop}(he:IsEnum s.heap e it i old)(h:Q (.ref e) s):Nf (Ni prog w) A (pyIter (.ref e)) Q E s:=by
  have hT:s.TypeIs (.ref e) "enumerate":=⟨_,he,rfl⟩
  refine wpAny_pyIter_slot hT F.slot_enumerate_iter (PB F.slot_enumerate_iter hT F.entry_enumerate_iter ?_ (F.args_enumerate_iter_1 _))
  show Nf _ _ (ret (.ref e)) _ _ s;exact Nm ⟨_,rfl,"enumerate",_,hT,Se.lookup,h⟩
end
section
variable{X:Cx}{pins:List (MW × Obj)}{σ:L2.St}{H:Hp}{s:MZ}
theorem lH(I:aI X pins σ H s){b l:MW}{xs:List V}(f:gS X pins H b)(q:gC X.K H l xs):l≠b:=by
  intro z
  subst z
  rcases q with (q | ⟨o,q⟩) | ⟨o,its,n,hk,_⟩
  · rw [f.1] at q;cases q
  · rw [f.1] at q;cases q
  · have hb:X.base.get? l=some o:=I.ok.mod.kin l o hk
    rcases f.2.2.2.1 with z | z
    · exact I.ok.noex l o hb z
    · exact absurd (NV (Nu (I.ok.bs l o hb).1) z) (OW _)
end
def Ei(K:⇑0)(l:MW):It:=
  ⟨fun i H=>∃xs x,dz K H l xs∧xs[i]?=some x,fun i H v H'=>∃p x,v=.ref p∧H p=none∧H'=bC H p (.tup [.int i,x])∧∀xs,dz K H l xs→xs[i]?=some x,fun i H=>∃xs,dz K H l xs∧xs.length≤i⟩
def wo(e it l:MW)(i:Nat)(h:Nh):Prop:=(∃old,IsEnum h e it i old)∧h.IsTupleIter it l i
theorem vS{P:Nk}{w:Ng}{K:⇑0}{es:List Na}{k0:Nat}{pos:Pos}{e it:MW}(l:MW)(ne:e≠it):uT P w K (.Tuple es k0 pos) (Ei K l) [e,it] e (wo e it l) where
  mem:=by simp
  obj:=fun i h st b hb=>by
    obtain⟨⟨old,he⟩,u⟩:=st
    simp only [NX,Oq,or_false] at hb
    rcases hb with rfl | rfl
    · exact⟨_,he,fun v z=>by cases z⟩
    · obtain⟨o,e,c,d⟩:=u
      exact⟨o,e,fun v z=>by rw [d] at z;cases z⟩
  keep:=fun i h h' st k=>by
    obtain⟨⟨old,he⟩,u⟩:=st
    exact⟨⟨old,k _ ↥1 _ he⟩,u.at fun o e=>k _ ↥1 o e⟩
  item:=by
    intro X hP hw hK hc i pins s σ H E I hf st hg
    subst hP hw hK
    obtain⟨xs,x,q1,hx⟩:=hg
    obtain⟨⟨old,he⟩,u⟩:=id st
    obtain⟨its,rv,p,hz⟩:=I.tuple q1
    obtain⟨ux,hux,rux⟩:=rv.get hx
    have fe:=hf e ↥1;have ft:=hf it ↥1
    have n1:l≠e:=nE I fe q1
    have n2:l≠it:=nE I ft q1
    have hi:i < its.toArray.size:=by have:=(MR hux).1;simpa using this
    refine wpAny_pyNext_enum_itemD (uu (A:=X.A.in1) (vL it l) (show X.A.in1.handled=none from I.ok.hd hc) n2 its.toArray) he ⟨u,p⟩ hi ne (by simpa using ⟨ne,fun z=>n1 z.symm⟩) fun x' g tk hP ho hs hT hsz hk=>?_
    have ex:x'=ux:=by
      have:its[i]?=some x':=by simpa using hP
      rw [hux] at this;exact(NQ this).symm
    subst ex
    refine⟨_,rfl,wpAny_letOwnedTupleGo_enum ho fun g' he' ge=>?_⟩
    have lt:∀b∈[e,it],b < ↑s:=fun b hb=>by
      simp only [NX,Oq,or_false] at hb
      rcases hb with rfl | rfl
      · exact Nu he
      · obtain⟨o,e,_⟩:=u;exact Nu e
    have hTn:H ↑s=none:=I.hok.fresh ↥8
    have vv:aR [.int i,x] [.int i tk,x']:=.cons ⟨tk,rfl⟩ (.cons rux .nil)
    have I1:aI X pins σ (bC H ↑s (.tup [.int i,x])) {s with heap:=s.heap.push {cls:=.type "tuple",data:=.seq #[.int i tk,x']},toks:=s.toks}:=
      I.laid (t':=s.toks) (fun b u e=>Nz _ e) ↥8 ⟨(by show 2≤Nr;decide),[.int i tk,x'],vv,lG.new _ _⟩
    have hf1:∀b∈[e,it],gS X pins (bC H ↑s (.tup [.int i,x])) b:=fun b hb=>by
      obtain⟨f0,fr⟩:=hf b hb
      exact⟨by rw [aA (NJ (lt b hb))];exact f0,fr⟩
    have I2:aI X pins σ (bC H ↑s (.tup [.int i,x])) {s with heap:=g',toks:=tk+1}:=by
      refine I1.turnedL (t':=tk+1) hf1 fun b o nb eb=>?_
      have nb':b≠e∧b≠it:=by simpa using nb
      refine ge.extBut _ _ nb'.1 ?_
      rcases Sf eb with ⟨rfl,rfl⟩ | eb
      · exact hT
      · exact hk b o nb'.1 nb'.2 eb
    refine⟨.ref ↑s,_,I2,rfl,⟨_,x,rfl,hTn,rfl,fun xs' w1=>by rw [I.tuple_inj w1 q1];exact hx⟩,⟨⟨_,by simpa using he'⟩,hs.1.at fun o e=>ge.extBut _ _ (fun z=>ne z.symm) e⟩,fun b hb=>(hf1 b hb).1⟩
  done:=by
    intro X hP hw hK hc i pins s σ H E I hf st hg
    subst hP hw hK
    obtain⟨xs,q1,hn⟩:=hg
    obtain⟨⟨old,he⟩,u⟩:=id st
    obtain⟨its,rv,p,hz⟩:=I.tuple q1
    have e1:=rv.length
    refine qg (xs:=its.toArray) (vL it l) (I.ok.hd hc) he u p ↥7 fun g gk=>⟨rfl,I.turnedL (t':=s.toks) hf fun b o nb eb=>?_⟩
    have nb':b≠e∧b≠it:=by simpa using nb
    exact gk b o nb'.2 eb
  self:=fun A i s Q E st h=>by
    obtain⟨⟨old,he⟩,u⟩:=st
    exact jC he h
def Eh(K:⇑0)(l:MW):It:=
  ⟨fun i H=>∃xs x,gC K H l xs∧xs[i]?=some x,fun i H v H'=>∃p x,v=.ref p∧H p=none∧H'=bC H p (.tup [.int i,x])∧∀xs,gC K H l xs→xs[i]?=some x,fun i H=>∃xs,gC K H l xs∧xs.length≤i⟩
def BX(e it l:MW)(i:Nat)(h:Nh):Prop:=(∃old,IsEnum h e it i old)∧h.IsListIter it l i
theorem vQ{P:Nk}{w:Ng}{K:⇑0}{es:List Na}{k0:Nat}{pos:Pos}{e it:MW}(l:MW)(ne:e≠it):uT P w K (.Tuple es k0 pos) (Eh K l) [e,it] e (BX e it l) where
  mem:=by simp
  obj:=fun i h st b hb=>by
    obtain⟨⟨old,he⟩,u⟩:=st
    simp only [NX,Oq,or_false] at hb
    rcases hb with rfl | rfl
    · exact⟨_,he,fun v z=>by cases z⟩
    · obtain⟨o,e,c,d⟩:=u
      exact⟨o,e,fun v z=>by rw [d] at z;cases z⟩
  keep:=fun i h h' st k=>by
    obtain⟨⟨old,he⟩,u⟩:=st
    exact⟨⟨old,k _ ↥1 _ he⟩,u.at fun o e=>k _ ↥1 o e⟩
  item:=by
    intro X hP hw hK hc i pins s σ H E I hf st hg
    subst hP hw hK
    obtain⟨xs,x,q1,hx⟩:=hg
    obtain⟨⟨old,he⟩,u⟩:=id st
    obtain⟨its,rv,p,hz⟩:=I.list q1
    obtain⟨ux,hux,rux⟩:=rv.get hx
    have fe:=hf e ↥1;have ft:=hf it ↥1
    have n1:l≠e:=lH I fe q1
    have n2:l≠it:=lH I ft q1
    have hi:i < its.toArray.size:=by have:=(MR hux).1;simpa using this
    refine wpAny_pyNext_enum_itemD (uu (A:=X.A.in1) (sN it l) (show X.A.in1.handled=none from I.ok.hd hc) n2 its.toArray) he ⟨u,p.isList⟩ hi ne (by simpa using ⟨ne,fun z=>n1 z.symm⟩) fun x' g tk hP ho hs hT hsz hk=>?_
    have ex:x'=ux:=by
      have:its[i]?=some x':=by simpa using hP
      rw [hux] at this;exact(NQ this).symm
    subst ex
    refine⟨_,rfl,wpAny_letOwnedTupleGo_enum ho fun g' he' ge=>?_⟩
    have lt:∀b∈[e,it],b < ↑s:=fun b hb=>by
      simp only [NX,Oq,or_false] at hb
      rcases hb with rfl | rfl
      · exact Nu he
      · obtain⟨o,e,_⟩:=u;exact Nu e
    have hTn:H ↑s=none:=I.hok.fresh ↥8
    have vv:aR [.int i,x] [.int i tk,x']:=.cons ⟨tk,rfl⟩ (.cons rux .nil)
    have I1:aI X pins σ (bC H ↑s (.tup [.int i,x])) {s with heap:=s.heap.push {cls:=.type "tuple",data:=.seq #[.int i tk,x']},toks:=s.toks}:=
      I.laid (t':=s.toks) (fun b u e=>Nz _ e) ↥8 ⟨(by show 2≤Nr;decide),[.int i tk,x'],vv,lG.new _ _⟩
    have hf1:∀b∈[e,it],gS X pins (bC H ↑s (.tup [.int i,x])) b:=fun b hb=>by
      obtain⟨f0,fr⟩:=hf b hb
      exact⟨by rw [aA (NJ (lt b hb))];exact f0,fr⟩
    have I2:aI X pins σ (bC H ↑s (.tup [.int i,x])) {s with heap:=g',toks:=tk+1}:=by
      refine I1.turnedL (t':=tk+1) hf1 fun b o nb eb=>?_
      have nb':b≠e∧b≠it:=by simpa using nb
      refine ge.extBut _ _ nb'.1 ?_
      rcases Sf eb with ⟨rfl,rfl⟩ | eb
      · exact hT
      · exact hk b o nb'.1 nb'.2 eb
    refine⟨.ref ↑s,_,I2,rfl,⟨_,x,rfl,hTn,rfl,fun xs' w1=>by rw [I.list_inj w1 q1];exact hx⟩,⟨⟨_,by simpa using he'⟩,hs.1.at fun o e=>ge.extBut _ _ (fun z=>ne z.symm) e⟩,fun b hb=>(hf1 b hb).1⟩
  done:=by
    intro X hP hw hK hc i pins s σ H E I hf st hg
    subst hP hw hK
    obtain⟨xs,q1,hn⟩:=hg
    obtain⟨⟨old,he⟩,u⟩:=id st
    obtain⟨its,rv,p,hz⟩:=I.list q1
    have e1:=rv.length
    refine qg (xs:=its.toArray) (sN it l) (I.ok.hd hc) he u p.isList ↥7 fun g gk=>⟨rfl,I.turnedL (t':=s.toks) hf fun b o nb eb=>?_⟩
    have nb':b≠e∧b≠it:=by simpa using nb
    exact gk b o nb'.2 eb
  self:=fun A i s Q E st h=>by
    obtain⟨⟨old,he⟩,u⟩:=st
    exact jC he h
theorem sW:∀(us:List MX) (f:Nat→Int),(∀(j:Nat) (v:MX),us[j]?=some v→∃t,v=Value.int (f j) t)→aR ((Nb us.length).map fun j=>V.int (f j)) us
  | [],_,_=>.nil
  | u::us,f,h=>by
    rw [Pp,List.range_succ_eq_map,Nx,Os]
    refine .cons (h 0 u rfl) (sW us (fun j=>f (j+1)) fun j v e=>h (j+1) v (by simpa using e))
def mV(n:Nat):List Int:=(Nb n).map Int.ofNat
theorem Ba(n:Nat):(mV n).length=n:=by simp [mV]
section
variable{X:Cx}{a:Na}{ta:TA}{p p2 pos pos2:Pos}
theorem zz(hg:Gl X "range")(hm:X.mg "range"=none)(ha:PA X [a] ta)(hs:Nl [a] X.env=[(false,Nj a X.env)]){pins:List (MW × Obj)}{s:MZ}{σ:L2.St}{H:Hp}{R:Int→Hp→Prop}(I:aI X pins σ H s)(h:ta σ H fun vs H1=>∃j:Int,vs=[.int j]∧R j H1):
    Nf (Ni X.prog X.w) X.A (Nj (.Call (.Name "range" p) [a] [] pos) X.env) (fun v s1=>∃(r:MW) (j:Int) (H1:Hp) (t u w:Tok),v=.ref r∧IsRange s1.heap r 0 j 1 t u w∧r < ↑s1∧aI X pins σ H1 s1∧R j H1) X.xe s:=by
  refine Call_ (gr I hg hm boot_range (Po (cM (ha pos pins s σ H _ I h) fun us s1 ⟨vs,H1,I1,r1,q1⟩=>?_) hs rfl))
  obtain⟨j,e,q⟩:=q1
  subst e
  cases r1 with
  | cons r rr=>
    cases rr
    obtain⟨t,rfl⟩:=r
    exact call_range_1 ⟨_,j,H1,_,_,_,rfl,IsRange.new ..,by simp [Oo],I1.kept fun b o e=>Nz _ e,q⟩
def Kl(ta:TA):TE:=fun σ H Q=>ta σ H fun vs H1=>∃j:Int,vs=[.int j]∧(0≤j∧j≤100000∧∀l,H1 l=none→Q (.ref l) (bC H1 l (.lst ((mV j.toNat).map V.int))))
theorem sj(hc:X.calm=true)(hgl:Gl X "list")(hml:X.mg "list"=none)(hg:Gl X "range")(hm:X.mg "range"=none)(ha:PA X [a] ta)(hs:Nl [a] X.env=[(false,Nj a X.env)]:=by rfl)
    (he:Nl [.Call (.Name "range" p) [a] [] pos] X.env=(false,Nj (.Call (.Name "range" p) [a] [] pos) X.env)::Nl [] X.env:=by rfl):PE X (.Call (.Name "list" p2) [.Call (.Name "range" p) [a] [] pos] [] pos2) (Kl ta):=by
  intro pins s σ H Q I h
  refine QV (gr I hgl hml Sg ?_ ⋯ ⋯)
  refine Po ?_ he rfl
  rw [he]
  refine QU (cM (zz hg hm ha hs I h) fun u s1 ⟨r,j,H1,t,u1,w,e,hr,lt,I1,j0,j1,q⟩=>?_)
  subst e
  refine Nm ?_
  have hsm:Builtin.Range.small 0 j 1=true:=small_one ⋯ ⋯ ↥0 ↥0
  refine call_list_range (n:=j.toNat) (I1.ok.hd hc) hr hsm (by rw [rangeSize_one];split<;>lia) (NS (show j.toNat≤100000 by lia) ⋯) fun h' tk acc c hk hD hI=>?_
  have hf:H1 ↑s1=none:=I1.hok.fresh ↥8
  have vv:aR ((mV j.toNat).map V.int) acc.toList:=by
    have z:=sW acc.toList (fun k=>(k:Int)) fun k v e=>by
      obtain⟨t,ht⟩:=hI.2 k v (by simpa using e)
      exact⟨t,by rw [ht];simp⟩
    rw [QB,hI.1] at z
    rw [mV,Os]
    exact z
  refine⟨.ref ↑s1,_,I1.laid (o:=.lst ((mV j.toNat).map V.int)) hk ↥8 ⟨?_,acc.toList,c,vv,by simpa using hD⟩,rfl,q _ hf⟩
  rw [Nw,Ba,Om];lia
end
theorem yd:fillsNumberSlot (.type "tuple") "mul"=pure false:=
  PySem.fillsNumberSlot_seq (id:="tuple.__mul__") (r:=some (.builtin "tuple.__rmul__")) Rc.lookup ↥2 F.slot_tuple_rmul.lookup ↥2
theorem FX:seqRepeat? (.type "tuple")=pure (some (.builtin "tuple.__mul__")):=by
  unfold seqRepeat?;rw [PySem.seqSlot_of (T:="tuple") (name:="__mul__") (id:="tuple.__mul__") Rc.lookup ↥2,PySem.seqSlot_of (T:="tuple") (name:="__rmul__") (id:="tuple.__rmul__") F.slot_tuple_rmul.lookup ↥2];rfl
theorem Dd(a:Int)(t:Tok)(l:MW)(items:Array MX)(n:Nat)(dd:Option MW)(sl:Array (Option MX)):
    Meets (Builtin.«int.__rmul__» ⟨[.int a t,.ref l],[]⟩) (fun _ R s=>s.heap.get? l=some {cls:=.type "tuple",dict:=dd,data:=.seq items n,slots:=sl}∧R (.ok (.ret Value.notImplemented)) s):=
  .of_wp fun prog w A R s h=>by obtain⟨hp,g,d,tk,os⟩:=s;obtain⟨hl,h⟩:=h;wp_walk;exact⟨_,rfl,h⟩
theorem EY(l:MW)(x:MX)(n:Nat)(k:Int)(u:Tok)(dd:Option MW)(sl:Array (Option MX))(h0:2≤k)(h1:k≤100000):
    Meets (Builtin.«tuple.__mul__» ⟨[.ref l,.int k u],[]⟩) (fun _ R s=>s.heap.get? l=some {cls:=.type "tuple",dict:=dd,data:=.seq #[x] n,slots:=sl}∧
      R (.ok (.ret (.ref ↑s))) {s with heap:=s.heap.push {cls:=.type "tuple",data:=.seq (Np k.toNat x).toArray}}):=
  .of_wp fun prog w A R s h=>by
    obtain⟨hp,g,d,tk,os⟩:=s;obtain⟨hl,h⟩:=h
    have f1:=Si
    have c1:¬(decide (k < -(2 ^ 63)) || decide (k≥2 ^ 63))=true:=by simp;lia
    have c2:¬((#[x]:Array MX).isEmpty || k==1)=true:=by simp;lia
    have c3:¬(decide (k≤0) || (#[x]:Array MX).isEmpty)=true:=by simp;lia
    have c4:¬(((#[x]:Array MX).size:Int)*k > (2 ^ 63 - 1) / 8):=by simp;lia
    have c5:¬Sj (((#[x]:Array MX).size:Int)*k)=true:=by
      unfold Sj;rw [Om];simp;lia
    wp_walk using ON hl
    rw [if_neg c1]
    wp_walk using ON hl
    rw [if_neg c2]
    wp_walk using ON hl
    rw [if_neg c3]
    wp_walk using ON hl
    rw [if_neg c4]
    show Nf _ _ (if Sj (((#[x]:Array MX).size:Int)*k)=true then _ else _) _ _ _
    rw [if_neg c5]
    have f0:∀(m:Nat) (acc:Array MX),QE (fun x1 x2=>x1++x2) acc (Np m #[x])=acc++(Np m x).toArray:=by
      intro m
      induction m with
      | zero=>intro acc;simp
      | succ m ih=>intro acc;rw [PY,List.foldl_cons,ih,PY];apply Array.toList_inj.mp;simp
    have e:QE (fun x1 x2=>x1++x2) #[] (Np k.toNat #[x])=(Np k.toNat x).toArray:=by rw [f0];simp
    show Nf _ _ (Pr (QE (fun x1 x2=>x1++x2) #[] (Np k.toNat #[x])) >>= fun v=>ret v) _ _ _
    rw [e]
    unfold Pr
    refine Nc (Ow ?_ (by show(Np k.toNat x).toArray.size≤Nr;rw [NA,Qi,Om];lia))
    exact Nm ⟨_,rfl,h⟩
theorem Ci(l:MW)(x:MX)(n:Nat)(u:Tok)(dd:Option MW)(sl:Array (Option MX)):
    Meets (Builtin.«tuple.__mul__» ⟨[.ref l,.int 0 u],[]⟩) (fun _ R s=>s.heap.get? l=some {cls:=.type "tuple",dict:=dd,data:=.seq #[x] n,slots:=sl}∧R (.ok (.ret (.ref ↑s))) {s with heap:=s.heap.push {cls:=.type "tuple",data:=.seq #[]}}):=
  .of_wp fun prog w A R s h=>by
    obtain⟨hp,g,d,tk,os⟩:=s;obtain⟨hl,h⟩:=h;have f1:=Si
    have c2:¬((#[x]:Array MX).isEmpty || (0:Int)==1)=true:=by simp
    wp_walk using ON hl
    first | rw [if_neg c2] | skip
    wp_walk using ON hl
    exact⟨_,rfl,h⟩
theorem Cj(l:MW)(x:MX)(n:Nat)(u:Tok)(dd:Option MW)(sl:Array (Option MX)):
    Meets (Builtin.«tuple.__mul__» ⟨[.ref l,.int 1 u],[]⟩) (fun _ R s=>s.heap.get? l=some {cls:=.type "tuple",dict:=dd,data:=.seq #[x] n,slots:=sl}∧R (.ok (.ret (.ref l))) s):=
  .of_wp fun prog w A R s h=>by
    obtain⟨hp,g,d,tk,os⟩:=s;obtain⟨hl,h⟩:=h;have f1:=Si
    wp_walk using ON hl
    exact⟨_,rfl,h⟩
section
variable{X:Cx}
def A7(K:⇑0):R2:=fun x y H Q=>∃a k v,x=.ref a∧y=.int k∧dz K H a [v]∧0≤k∧k≤100000∧∀p H',aG H H'→dz K H' p (Np k.toNat v)→Q (.ref p) H'
theorem CF:hV X (Oa .Mult) (A7 X.K):=by
  intro pins s σ H x y v u Q I rx ry h
  obtain⟨a,k,z,rfl,rfl,ha,k0,k1,q⟩:=h
  cases rx
  obtain⟨t,rfl⟩:=ry
  obtain⟨its,r,p,hz⟩:=I.tuple ha
  obtain⟨uz,rfl,rz⟩:=se r
  obtain⟨⟨cls,dd,data,sl⟩,ho,hc,n,hd⟩:=id p
  simp only at hc hd
  subst hc hd
  refine wpAny_binaryOp_repeat_ref (T:="tuple") (U:="int") ⋯ ⟨_,ho,rfl⟩ (fun s'=>QY s' k t) yd F.fills_int_mul Rt FX F.slot_int_index.lookup (Qa Rt (QY s k t) F.entry_int_rmul (F.args_int_rmul_2 _ _) (Dd k t a #[uz] n dd sl) ⟨ho,rfl,⟨_,ho,rfl⟩,?_⟩)
  have new:∀m:Nat,m=k.toNat→EP X pins σ Q (.ref ↑s) {s with heap:=s.heap.push {cls:=.type "tuple",data:=.seq (Np m uz).toArray},toks:=s.toks}:=fun m hm=>by
    have hf:H ↑s=none:=I.hok.fresh ↥8
    have vv:∀j:Nat,aR (Np j z) (Np j uz):=fun j=>by
      induction j with
      | zero=>exact .nil
      | succ j ih=>exact .cons rz ih
    refine⟨.ref ↑s,_,I.laid (t':=s.toks) (o:=.tup (Np m z)) (fun b ob q=>Nz _ q) ↥8 ⟨by rw [Qi,Om];lia,_,vv m,lG.new _ _⟩,rfl,q _ _ (aG.new hf) (dz.of (by rw [ay,hm]))⟩
  rcases(by lia:k=0∨k=1∨2≤k) with e | e | e
  · subst e
    exact Qa Rc ⟨_,ho,rfl⟩ F.entry_tuple_mul (F.args_tuple_mul_2 _ _) (Ci a uz n t dd sl) ⟨ho,new 0 rfl⟩
  · subst e
    exact Qa Rc ⟨_,ho,rfl⟩ F.entry_tuple_mul (F.args_tuple_mul_2 _ _) (Cj a uz n t dd sl) ⟨ho,⟨.ref a,H,I,rfl,q a H (aG.refl H) ha⟩⟩
  · exact Qa Rc ⟨_,ho,rfl⟩ F.entry_tuple_mul (F.args_tuple_mul_2 _ _) (EY a uz n k t dd sl e k1) ⟨ho,new _ rfl⟩
end
section
variable{prog:Nk}{w:Ng}{A:Nn}{E:MX→MZ→Prop}{s:MZ}
end
section
variable{X:Cx}{a:Na}{ta:TA}{p p2 p3 pos pos2 pos3:Pos}
end
theorem xN(l:MW)(xs:Array MX):
    Meets (Builtin.«enumerate.__new__» ⟨[.type "enumerate",.ref l],[]⟩) (fun _ R s=>s.heap.IsTuple l xs∧R (.ok (.ret (.ref (↑s+1)))) {s with heap:=(s.heap.push {cls:=.type "tuple_iterator",data:=.fields #[.ref l,.int 0 0]}).push {cls:=.type "enumerate",data:=.fields #[.none,.bool false,.ref ↑s,rawInt 0,.none,.none]}}):=
  .of_wp fun prog w A R s h=>by
    obtain⟨hp,g,d,tk,os⟩:=s;obtain⟨ht,h⟩:=h;have a1:=sub_enumerate
    have T1:Heap.IsTuple (Shared.heap ⟨hp,g,d,tk,os⟩) l xs:=ht
    obtain⟨⟨cls,dd,data,sl⟩,ho,hc,n,hd⟩:=id ht
    simp only at hc hd
    subst hc hd
    wp_walk using ON ho
    refine wpAny_stack_any fun st=>Nm ?_
    split
    · rename_i c _ _ _ _ _
      cases (c==Value.type "enumerate")
      · wp_walk using ON ho,QS T1
        refine⟨_,rfl,?_⟩
        simp only [Oo]
        exact h
      · wp_walk using ON ho,QS T1
        refine⟨_,rfl,?_⟩
        simp only [Oo]
        exact h
    · wp_walk using ON ho,QS T1
      refine⟨_,rfl,?_⟩
      simp only [Oo]
      exact h
section
variable{prog:Nk}{w:Ng}{A:Nn}{E:MX→MZ→Prop}{s:MZ}
theorem vc{l:MW}{xs:Array MX}{Q:MX→MZ→Prop}(t1:s.heap.IsTuple l xs)(h:∀g,wo (↑s+1) ↑s l 0 g→(∀c o,s.heap.get? c=some o→g.get? c=some o)→Q (.ref (↑s+1)) {s with heap:=g}):Nf (Ni prog w) A (call (.type "enumerate") [.ref l]) Q E s:=by
  refine callType_new F.called_enumerate ⋯ (F.typeCall_enumerate_1 _) (F.newCall_enumerate_1 _) (fun obj=>F.args_object_init_2 obj _) F.entry_enumerate_new (xN l xs) ⟨t1,?_⟩
  have g2:((s.heap.push {cls:=.type "tuple_iterator",data:=.fields #[.ref l,.int 0 0]}).push {cls:=.type "enumerate",data:=.fields #[.none,.bool false,.ref ↑s,rawInt 0,.none,.none]}).get? (↑s+1)=some {cls:=.type "enumerate",data:=.fields #[.none,.bool false,.ref ↑s,rawInt 0,.none,.none]}:=by
    have e:↑s+1=(s.heap.push {cls:=.type "tuple_iterator",data:=.fields #[.ref l,.int 0 0]}).objs.size:=by simp only [Oo]
    rw [e];exact Oj _ rfl
  exact⟨⟨_,g2,rfl⟩,h _ ⟨⟨.none,g2⟩,⟨_,Nz _ (Oj _ rfl),rfl,rfl⟩⟩ fun c o x=>Nz _ (Nz _ x)⟩
end
theorem ja:OX "enumerate"=some (.type "enumerate"):=by decide+kernel
def Jf(K:⇑0)(ta:TA):TI:=fun σ H R=>ta σ H fun vs H1=>∃a,vs=[.ref a]∧(∃xs,dz K H1 a xs)∧R (Ei K a) H1
def Je(K:⇑0)(ta:TA):TI:=fun σ H R=>ta σ H fun vs H1=>∃a,vs=[.ref a]∧(∃xs,gC K H1 a xs)∧R (Eh K a) H1
section
variable{X:Cx}{K:⇑0}{es:List Na}{k0:Nat}{tp:Pos}{a:Na}{ta:TA}{p pos:Pos}
theorem AF(hK:X.K=K)(hg:Gl X "enumerate")(hm:X.mg "enumerate"=none)(ha:PA X [a] ta)(hs:Nl [a] X.env=[(false,Nj a X.env)]:=by rfl):PI X (.Tuple es k0 tp) (.Call (.Name "enumerate" p) [a] [] pos) (Jf K ta):=by
  intro pins s σ H R I h
  subst hK
  refine Call_ (gr I hg hm ja (Po (cM (ha pos pins s σ H _ I h) fun us s1 ⟨vs,H1,I1,r1,q1⟩=>?_) hs rfl))
  obtain⟨a,e,⟨xs,qx⟩,q⟩:=q1
  subst e
  obtain⟨u,rfl,ru⟩:=se r1
  cases ru
  obtain⟨i1,v1,p1,_⟩:=I1.tuple qx
  refine vc p1 fun g st hk=>?_
  obtain⟨⟨old,he⟩,hit⟩:=id st
  refine jC he ?_
  have I2:aI X pins σ H1 {s1 with heap:=g,toks:=s1.toks}:=I1.kept (t':=s1.toks) fun b o e=>hk b o e
  refine⟨↑s1+1,[↑s1+1,↑s1],_,_,H1,rfl,I2,vS a (show((↑s1+1:Nat)≠↑s1) by lia),st,fun c hc=>?_,q⟩
  have le:↑s1≤c:=by
    simp only [NX,Oq,or_false] at hc
    rcases hc with rfl | rfl
    · exact QI _ 1
    · exact Ny _
  exact I1.fpOk (H':=H1) le (I1.hok.fresh le)
theorem AE(hK:X.K=K)(hg:Gl X "enumerate")(hm:X.mg "enumerate"=none)(ha:PA X [a] ta)(hs:Nl [a] X.env=[(false,Nj a X.env)]:=by rfl):PI X (.Tuple es k0 tp) (.Call (.Name "enumerate" p) [a] [] pos) (Je K ta):=by
  intro pins s σ H R I h
  subst hK
  refine Call_ (gr I hg hm ja (Po (cM (ha pos pins s σ H _ I h) fun us s1 ⟨vs,H1,I1,r1,q1⟩=>?_) hs rfl))
  obtain⟨a,e,⟨xs,qx⟩,q⟩:=q1
  subst e
  obtain⟨u,rfl,ru⟩:=se r1
  cases ru
  obtain⟨i1,v1,p1,_⟩:=I1.list qx
  refine call_enumerate_list p1.isList fun g he hit hsz hk=>?_
  refine jC he ?_
  have I2:aI X pins σ H1 {s1 with heap:=g,toks:=s1.toks}:=I1.kept (t':=s1.toks) fun b o e=>hk b o e
  refine⟨↑s1+1,[↑s1+1,↑s1],_,_,H1,rfl,I2,vQ a (show((↑s1+1:Nat)≠↑s1) by lia),⟨⟨_,he⟩,hit⟩,fun c hc=>?_,q⟩
  have le:↑s1≤c:=by
    simp only [NX,Oq,or_false] at hc
    rcases hc with rfl | rfl
    · exact QI _ 1
    · exact Ny _
  exact I1.fpOk (H':=H1) le (I1.hok.fresh le)
end
theorem yj{X:Cx}:hV X (NU .IsNot) (fun x y H Q=>∃b c,x=.bl b∧y=.bl c∧Q (.bl (!(b==c))) H):=by
  intro pins s σ H x y v u Q I rx ry h
  obtain⟨b,c,rfl,rfl,q⟩:=h
  cases rx;cases ry
  refine wpAny_isNot_plain (by cases b<;>cases c<;>rfl) ⟨.bl (!(b==c)),H,I,?_,q⟩
  show Value.bool _=Value.bool _
  cases b<;>cases c<;>rfl
section
variable{prog:Nk}{w:Ng}{A:Nn}{E:MX→MZ→Prop}{s:MZ}
end
section
variable{prog:Nk}{w:Ng}{A:Nn}{E:MX→MZ→Prop}{s:MZ}
end
section
variable{prog:Nk}{w:Ng}{A:Nn}{E:MX→MZ→Prop}{s:MZ}
end
theorem y_{X:Cx}{ix:Nat}{nm:Str}{posn:Pos}{pins:List (MW × Obj)}{σ:L2.St}{D0:sZ}(hNd:X.N.Nodup)(hix:X.N[ix]?=some nm)(hlc:X.env.scope.names.lookup nm=some .local)(C D:MW)(H5:Hp)(s6:MZ)(hn:∃m,s6.heap.Ns C m)(qn:D0.nx (σ.set ix (some (.ref D))) H5)(fC:gS X pins H5 C)(key:∀h',PM C s6.heap h'→aI X pins σ H5 {s6 with heap:=h'}):
    compPost (Ni X.prog X.w) X.A X.xe (some (Od (.Name nm posn) X.env)) (fun _ s'=>Nf (Ni X.prog X.w) X.A (pure ()) (fun _ s''=>Nf (Ni X.prog X.w) X.A (pure Flow.next) (SP X pins D0) X.xe s'') X.xe s') (.ref D) C (.ok .next) s6:=by
  obtain⟨m,hn⟩:=hn
  show Nf (Ni X.prog X.w) X.A (Od (.Name nm posn) X.env (.ref D)) _ X.xe s6
  refine wpAny_assign_Name (qJ (v:=.ref D) (key s6.heap ⟨rfl,fun _ _=>rfl⟩) hNd hix (Or.inl hlc) rfl (fun s' I' hsb=>?_) (Or.inr hlc))
  obtain⟨a,sb,ha⟩:=hsb
  have nCa:C≠a:=by
    rcases ha with z | z
    · rw [z];exact fC.2.1
    · exact fun e=>fC.2.2.2.2.1 _ _ z e.symm
  obtain⟨oN,esN,epN,hoN,rN⟩:=hn
  refine⟨m,⟨oN,esN,epN,(sb.2 C nCa).trans hoN,rN⟩,fun h' sb'=>Nm (Nm ?_)⟩
  have I8:aI X pins (σ.set ix (some (.ref D))) H5 {s' with heap:=h',toks:=s'.toks}:=I'.turnedL (t':=s'.toks) (fp:=[C]) (fun b hb=>by rw [RE.mp hb];exact fC) fun b o nb e=>sb'.extBut b o (by simpa using nb) e
  exact⟨_,H5,I8,qn⟩
inductive lD where
  | vi (k:Int)
  | vb (x:Bool)
  | vn
  | vp (a:MW) (p q:Int)
def lD.toV:lD→V
  | .vi k=>.int k
  | .vb x=>.bl x
  | .vn=>.non
  | .vp a _ _=>.ref a
def lD.toD:lD→MY
  | .vi k=>.int k
  | .vb x=>.bool x
  | .vn=>.none
  | .vp _ p q=>.tuple [.int p,.int q]
def lD.ok(K:⇑0)(F:Hp):lD→Prop
  | .vp a p q=>dz K F a [.int p,.int q]
  | _=>True
theorem lD.ok.mono{K:⇑0}{F F':Hp}(h:aG F F'){a:lD}(q:a.ok K F):a.ok K F':=by
  cases a<;>first | exact h.tup q | trivial
mutual
def DA(K:⇑0)(F:Hp):MY→V→Prop
  | .none,v=>v=.non
  | .bool b,v=>v=.bl b
  | .int i,v=>v=.int i
  | .str x,v=>v=.str x
  | .tuple ds,v=>∃a xs,v=.ref a∧dz K F a xs∧aT K F ds xs
  | .list ds,v=>∃a xs,v=.ref a∧gC K F a xs∧aT K F ds xs
  | .dict kvs,v=>∃(a:MW) (m:List (Int × lD)),v=.ref a∧F a=some (.dK (m.map fun p=>(Sum.inl p.1,p.2.toV)))∧kvs=m.map (fun p=>(PyData.int p.1,p.2.toD))∧∀p∈m,p.2.ok K F
def aT(K:⇑0)(F:Hp):List MY→List V→Prop
  | [],xs=>xs=[]
  | d::ds,xs=>∃x r,xs=x::r∧DA K F d x∧aT K F ds r
end
mutual
theorem DA.mono{K:⇑0}{F F':Hp}(h:aG F F'):∀{d:MY} {v:V},DA K F d v→DA K F' d v
  | .none,_,q=>by simp only [DA] at q ⊢;exact q
  | .bool b,_,q=>by simp only [DA] at q ⊢;exact q
  | .int i,_,q=>by simp only [DA] at q ⊢;exact q
  | .str x,_,q=>by simp only [DA] at q ⊢;exact q
  | .tuple ds,_,q=>by
    simp only [DA] at q ⊢
    obtain⟨a,xs,e,s,r⟩:=q
    exact⟨a,xs,e,h.tup s,aT.mono h r⟩
  | .list ds,_,q=>by
    simp only [DA] at q ⊢
    obtain⟨a,xs,e,s,r⟩:=q
    exact⟨a,xs,e,h.seq s,aT.mono h r⟩
  | .dict _,_,q=>by
    simp only [DA] at q ⊢
    obtain⟨a,m,e,s,k,o⟩:=q
    exact⟨a,m,e,h _ _ s,k,fun p hp=>(o p hp).mono h⟩
theorem aT.mono{K:⇑0}{F F':Hp}(h:aG F F'):∀{ds:List MY} {xs:List V},aT K F ds xs→aT K F' ds xs
  | [],_,q=>by simp only [aT] at q ⊢;exact q
  | d::ds,_,q=>by
    simp only [aT] at q ⊢
    obtain⟨x,r,e,a,b⟩:=q
    exact⟨x,r,e,DA.mono h a,aT.mono h b⟩
end
section
variable{K:⇑0}{F:Hp}
theorem aT.len:∀{ds:List MY} {xs:List V},aT K F ds xs→ds.length=xs.length
  | [],_,q=>by simp only [aT] at q;subst q;rfl
  | d::ds,_,q=>by
    simp only [aT] at q
    obtain⟨x,r,e,a,b⟩:=q
    subst e
    simp [aT.len b]
theorem aT.get:∀{ds:List MY} {xs:List V} {i:Nat} {d:MY},aT K F ds xs→ds[i]?=some d→∃v,xs[i]?=some v∧DA K F d v
  | [],_,_,_,_,h=>by simp at h
  | d::ds,_,i,d',q,h=>by
    simp only [aT] at q
    obtain⟨x,r,e,a,b⟩:=q
    subst e
    cases i with
    | zero=>simp at h;subst h;exact⟨x,rfl,a⟩
    | succ i=>
      obtain⟨v,h1,h2⟩:=aT.get (i:=i) b (by simpa using h)
      exact⟨v,by simpa using h1,h2⟩
theorem aT.append:∀{ds es:List MY} {xs ys:List V},aT K F ds xs→aT K F es ys→aT K F (ds++es) (xs++ys)
  | [],_,_,_,q,s=>by simp only [aT] at q;subst q;simpa using s
  | d::ds,es,_,ys,q,s=>by
    simp only [aT] at q
    obtain⟨x,r,e,a,b⟩:=q
    subst e
    simp only [QJ,aT]
    exact⟨x,_,rfl,a,aT.append b s⟩
theorem aT.one{d:MY}{v:V}(h:DA K F d v):aT K F [d] [v]:=by simp only [aT];exact⟨_,_,rfl,h,rfl⟩
theorem aT.nil:aT K F [] []:=by simp only [aT]
theorem aT.cons{d:MY}{v:V}{ds:List MY}{vs:List V}(h:DA K F d v)(r:aT K F ds vs):aT K F (d::ds) (v::vs):=by simp only [aT];exact⟨_,_,rfl,h,r⟩
theorem aT.drop:∀{ds:List MY} {xs:List V} (n:Nat),aT K F ds xs→aT K F (ds.drop n) (xs.drop n)
  | _,_,0,q=>q
  | [],_,n+1,q=>by simp only [aT] at q;subst q;exact aT.nil
  | d::ds,_,n+1,q=>by
    simp only [aT] at q
    obtain⟨x,r,e,a,b⟩:=q
    subst e
    simpa using aT.drop n b
theorem aT.take:∀{ds:List MY} {xs:List V} (n:Nat),aT K F ds xs→aT K F (ds.take n) (xs.take n)
  | _,_,0,q=>by simpa using aT.nil
  | [],_,n+1,q=>by simp only [aT] at q;subst q;exact aT.nil
  | d::ds,_,n+1,q=>by
    simp only [aT] at q
    obtain⟨x,r,e,a,b⟩:=q
    subst e
    simpa using aT.cons a (aT.take n b)
theorem aT.set{d:MY}{v:V}(h:DA K F d v):∀{ds:List MY} {xs:List V} (n:Nat),aT K F ds xs→aT K F (ds.set n d) (xs.set n v)
  | [],_,_,q=>by simp only [aT] at q;subst q;exact aT.nil
  | e::ds,_,n,q=>by
    simp only [aT] at q
    obtain⟨x,r,e,a,b⟩:=q
    subst e
    cases n with
    | zero=>exact aT.cons h b
    | succ n=>exact aT.cons a (aT.set h n b)
theorem aT.erase:∀{ds:List MY} {xs:List V} (n:Nat),aT K F ds xs→aT K F (ds.eraseIdx n) (xs.eraseIdx n)
  | [],_,_,q=>by simp only [aT] at q;subst q;exact aT.nil
  | e::ds,_,n,q=>by
    simp only [aT] at q
    obtain⟨x,r,e,a,b⟩:=q
    subst e
    cases n with
    | zero=>exact b
    | succ n=>exact aT.cons a (aT.erase n b)
theorem aT.ints:∀{ns:List Int} {xs:List V},aT K F (ns.map .int) xs↔ xs=ns.map V.int
  | [],xs=>by simp [aT]
  | n::ns,xs=>by
    simp only [Nx,aT,DA]
    constructor
    · rintro⟨x,r,e,rfl,q⟩;rw [e,aT.ints.mp q]
    · rintro rfl;exact⟨_,_,rfl,rfl,aT.ints.mpr rfl⟩
theorem cm{i:Int}{v:V}:DA K F (.int i) v↔ v=.int i:=by simp only [DA]
theorem fM{b:Bool}{v:V}:DA K F (.bool b) v↔ v=.bl b:=by simp only [DA]
theorem jy{v:V}:DA K F .none v↔ v=.non:=by simp only [DA]
theorem zg{x:Str}{v:V}:DA K F (.str x) v↔ v=.str x:=by simp only [DA]
theorem cq{ds:List MY}{v:V}:DA K F (.tuple ds) v↔ ∃a xs,v=.ref a∧dz K F a xs∧aT K F ds xs:=by simp only [DA]
theorem d9{ds:List MY}{v:V}:DA K F (.list ds) v↔ ∃a xs,v=.ref a∧gC K F a xs∧aT K F ds xs:=by simp only [DA]
end
inductive Sv where
  | d (x:MY)
  | l (xs:List MY)
  /-- a list of lists that nobody else holds -/
  | n (xss:List (List MY))
abbrev En:=List (Option Sv)
inductive Rv where
  | d (x:MY)
  | l (xs:List MY)
  | s (i:Nat)
def Fp(σ:L2.St)(e:En)(H:Hp)(i:Nat)(a:MW):Prop:=(∃xs:List MY,e[i]?=some (some (Sv.l xs))∧σ[i]?=some (some (.ref a)))∨
  ∃(xss:List (List MY)) (l:MW) (bs:List MW),e[i]?=some (some (Sv.n xss))∧σ[i]?=some (some (.ref l))∧H l=some (.lst (bs.map V.ref))∧(a=l∨a∈bs)
def cN(σ:L2.St)(e:En)(H:Hp)(a:MW):Prop:=∃i,Fp σ e H i a
structure bc (K:⇑0) (F H:Hp) (σ:L2.St) (e:En):Prop where
  sm:aG F H
  len:σ.length=e.length
  dat:∀(i:Nat) (x:MY),e[i]?=some (some (.d x))→∃v,σ[i]?=some (some v)∧DA K F x v
  own:∀(i:Nat) (xs:List MY),e[i]?=some (some (.l xs))→∃l vs,σ[i]?=some (some (.ref l))∧F l=none∧H l=some (.lst vs)∧aT K F xs vs
  nst:∀(i:Nat) (xss:List (List MY)),e[i]?=some (some (.n xss))→∃(l:MW) (bs:List MW),σ[i]?=some (some (.ref l))∧F l=none∧H l=some (.lst (bs.map V.ref))∧bs.length=xss.length∧bs.Nodup∧l∉bs∧
    ∀(k:Nat) (b:MW) (ys:List MY),bs[k]?=some b→xss[k]?=some ys→F b=none∧∃us,H b=some (.lst us)∧aT K F ys us
  fp:∀(i j:Nat) (a:MW),Fp σ e H i a→Fp σ e H j a→i=j
theorem bc.inj{K:⇑0}{F H:Hp}{σ:L2.St}{e:En}(R:bc K F H σ e)(i j:Nat)(xs ys:List MY)(l:MW)(h1:e[i]?=some (some (.l xs)))(h2:e[j]?=some (some (.l ys)))(h3:σ[i]?=some (some (.ref l)))(h4:σ[j]?=some (some (.ref l))):i=j:=R.fp i j l (.inl ⟨xs,h1,h3⟩) (.inl ⟨ys,h2,h4⟩)
theorem bc.fpAt{K:⇑0}{F H:Hp}{σ:L2.St}{e:En}(R:bc K F H σ e){i:Nat}{a:MW}(h:Fp σ e H i a):F a=none∧∃vs,H a=some (.lst vs):=by
  rcases h with ⟨xs,h1,h2⟩ | ⟨xss,l,bs,h1,h2,h3,h4⟩
  · obtain⟨l,vs,g1,g2,g3,_⟩:=R.own i xs h1
    rw [h2] at g1;cases g1
    exact⟨g2,vs,g3⟩
  · obtain⟨l',bs',g1,g2,g3,g4,g5,g6,g7⟩:=R.nst i xss h1
    rw [h2] at g1;cases g1
    rw [h3] at g3
    have e1:bs=bs':=by
      have:=HO.lst.inj (NQ g3)
      exact List.map_inj_right (fun _ _ z=>V.ref.inj z) |>.mp this
    subst e1
    rcases h4 with rfl | h4
    · exact⟨g2,_,h3⟩
    · obtain⟨k,hk⟩:=Sk h4
      have hk2:k < xss.length:=by rw [←g4];exact(MR hk).1
      obtain⟨c1,us,c2,_⟩:=g7 k a xss[k] hk (NL hk2)
      exact⟨c1,us,c2⟩
structure e_ (σ:L2.St) (F H:Hp) (e:En) (F' H':Hp) (e':En):Prop where
  sf:aG F F'
  dom:∀a,H' a=none→H a=none
  fr:∀a vs,F a=none→H a=some (.lst vs)→¬cN σ e H a→F' a=none
  lst:∀a vs,H a=some (.lst vs)→∃vs',H' a=some (.lst vs')
  tmp:∀a o,H a=some o→¬cN σ e H a→H' a=some o
  shp:∀i:Nat,(∃xs,e'[i]?=some (some (.l xs)))↔ (∃xs,e[i]?=some (some (.l xs)))
  ow:∀a,cN σ e' H' a→cN σ e H a∨H a=none
  fd:∀a m,F a=none→H a=some (.dK m)→¬cN σ e H a→F' a=none
theorem e_.refl(σ:L2.St)(F H:Hp)(e:En):e_ σ F H e F H e:=⟨aG.refl _,fun _ h=>h,fun _ _ h _ _=>h,fun _ vs h=>⟨vs,h⟩,fun _ _ h _=>h,fun _=>Iff.rfl,fun _ h=>.inl h,fun _ _ h _ _=>h⟩
theorem e_.trans{σ:L2.St}{F H F1 H1 F2 H2:Hp}{e e1 e2:En}(x:e_ σ F H e F1 H1 e1)(y:e_ σ F1 H1 e1 F2 H2 e2):e_ σ F H e F2 H2 e2:=
  ⟨x.sf.trans y.sf,fun a h=>x.dom a (y.dom a h),fun a vs h n no=>let ⟨vs',q⟩:=x.lst a vs n;y.fr a vs' (x.fr a vs h n no) q (fun z=>(x.ow a z).elim no fun z=>by rw [n] at z;cases z),fun a vs h=>let ⟨vs',q⟩:=x.lst a vs h;y.lst a vs' q,
    fun a o h n=>y.tmp a o (x.tmp a o h n) (fun z=>(x.ow a z).elim n fun z=>by rw [h] at z;cases z),fun i=>(y.shp i).trans (x.shp i),fun a h=>(y.ow a h).elim (x.ow a) fun z=>.inr (x.dom a z),fun a m h n no=>y.fd a m (x.fd a m h n no) (x.tmp a _ n no) (fun z=>(x.ow a z).elim no fun z=>by rw [n] at z;cases z)⟩
def cP(K:⇑0)(σ:L2.St)(H0 F H:Hp)(e:En):Rv→V→Prop
  | .d x,v=>DA K F x v
  | .l xs,v=>∃l vs,v=.ref l∧H0 l=none∧F l=none∧H l=some (.lst vs)∧aT K F xs vs∧¬cN σ e H l
  | .s i,v=>σ[i]?=some (some v)∧∃xs,e[i]?=some (some (.l xs))
section
variable{K:⇑0}{σ:L2.St}{H0 F H F' H':Hp}{e e':En}{r:Rv}{v:V}
theorem cP.ext(h:cP K σ H0 F H e r v)(x:e_ σ F H e F' H' e'):cP K σ H0 F' H' e' r v:=by
  cases r with
  | d y=>exact DA.mono x.sf h
  | l xs=>
    obtain⟨l,vs,e1,h1,h2,h3,h4,h5⟩:=h
    exact⟨l,vs,e1,h1,x.fr l _ h2 h3 h5,x.tmp l _ h3 h5,aT.mono x.sf h4,fun z=>(x.ow l z).elim h5 fun z=>by rw [h3] at z;cases z⟩
  | s i=>exact⟨h.1,(x.shp i).mpr h.2⟩
theorem cP.weak{H1:Hp}(h:cP K σ H1 F H e r v)(d:∀a,H1 a=none→H0 a=none):cP K σ H0 F H e r v:=by
  cases r with
  | d y=>exact h
  | l xs=>
    obtain⟨l,vs,e1,h1,r⟩:=h
    exact⟨l,vs,e1,d l h1,r⟩
  | s i=>exact h
theorem bc.ownH(R:bc K F H σ e)(a:MW)(h:cN σ e H a):H a≠none:=by
  obtain⟨i,h⟩:=h
  obtain⟨_,vs,h2⟩:=R.fpAt h
  rw [h2];simp
theorem bc.freeF(R:bc K F H σ e){p:MW}(hp:H p=none):F p=none:=R.sm.free hp
theorem BY(R:bc K F H σ e)(h:∀l bs,H l=some (.lst bs)→cN σ e H l→H' l=some (.lst bs)){i:Nat}{a:MW}:Fp σ e H' i a↔ Fp σ e H i a:=by
  have key:∀xss l,e[i]?=some (some (.n xss))→σ[i]?=some (some (.ref l))→H' l=H l:=fun xss l h1 h2=>by
    obtain⟨l',bs,g1,g2,g3,_⟩:=R.nst i xss h1
    rw [h2] at g1;cases g1
    rw [g3]
    exact h l _ g3 ⟨i,.inr ⟨xss,l,bs,h1,h2,g3,.inl rfl⟩⟩
  constructor
  · rintro(h1 | ⟨xss,l,bs,h1,h2,h3,h4⟩)
    · exact .inl h1
    · exact .inr ⟨xss,l,bs,h1,h2,by rw [←key xss l h1 h2];exact h3,h4⟩
  · rintro(h1 | ⟨xss,l,bs,h1,h2,h3,h4⟩)
    · exact .inl h1
    · exact .inr ⟨xss,l,bs,h1,h2,by rw [key xss l h1 h2];exact h3,h4⟩
theorem bc.keep(R:bc K F H σ e)(sF:aG F F')(sm:aG F' H')(hf:∀a,cN σ e H a→F' a=none)(hh:∀a o,cN σ e H a→H a=some o→H' a=some o):bc K F' H' σ e∧∀a,cN σ e H' a↔ cN σ e H a:=by
  have fs:∀{i a},Fp σ e H' i a↔ Fp σ e H i a:=fun{i a}=>BY R fun l bs h1 h2=>hh l _ h2 h1
  refine⟨⟨sm,R.len,fun i x h=>let ⟨v,h1,h2⟩:=R.dat i x h;⟨v,h1,DA.mono sF h2⟩,fun i xs h=>?_,fun i xss h=>?_,fun i j a h1 h2=>R.fp i j a (fs.mp h1) (fs.mp h2)⟩,fun a=>⟨fun⟨i,h⟩=>⟨i,fs.mp h⟩,fun⟨i,h⟩=>⟨i,fs.mpr h⟩⟩⟩
  · obtain⟨l,vs,h1,h2,h3,h4⟩:=R.own i xs h
    have o:cN σ e H l:=⟨i,.inl ⟨xs,h,h1⟩⟩
    exact⟨l,vs,h1,hf l o,hh l _ o h3,h4.mono sF⟩
  · obtain⟨l,bs,h1,h2,h3,h4,h5,h6,h7⟩:=R.nst i xss h
    have o:cN σ e H l:=⟨i,.inr ⟨xss,l,bs,h,h1,h3,.inl rfl⟩⟩
    refine⟨l,bs,h1,hf l o,hh l _ o h3,h4,h5,h6,fun k b ys g1 g2=>?_⟩
    obtain⟨c1,us,c2,c3⟩:=h7 k b ys g1 g2
    have ob:cN σ e H b:=⟨i,.inr ⟨xss,l,bs,h,h1,h3,.inr (MV g1)⟩⟩
    exact⟨hf b ob,us,hh b _ ob c2,c3.mono sF⟩
theorem bc.same(R:bc K F H σ e)(s:aG H H'):bc K F H' σ e∧e_ σ F H e F H' e:=by
  obtain⟨R',o'⟩:=R.keep (aG.refl F) (R.sm.trans s) (fun a ⟨i,h⟩=>(R.fpAt h).1) fun a o _ h=>s a o h
  exact⟨R',⟨aG.refl _,fun a h=>s.free h,fun _ _ h _ _=>h,fun a vs h=>⟨vs,s _ _ h⟩,fun a o h _=>s a o h,fun _=>Iff.rfl,fun a h=>.inl ((o' a).mp h),fun _ _ h _ _=>h⟩⟩
theorem bc.freeze(R:bc K F H σ e){p:MW}{o:HO}(hF:F p=none)(hp:H p=some o)(hn:¬cN σ e H p):bc K (bC F p o) H σ e∧aG F (bC F p o):=by
  have sF:aG F (bC F p o):=aG.new hF
  refine⟨(R.keep sF (fun b u q=>?_) (fun a ha=>?_) fun _ _ _ h=>h).1,sF⟩
  · by_cases z:b=p
    · subst z;rw [ay] at q;cases q;exact hp
    · rw [aA z] at q;exact R.sm _ _ q
  · obtain⟨i,hi⟩:=ha
    have z:a≠p:=fun z=>hn ⟨i,by rw [←z];exact hi⟩
    rw [aA z];exact(R.fpAt hi).1
theorem bc.notOwn(R:bc K F H σ e){p:MW}{o:HO}(hp:H p=some o)(hl:∀vs,o≠.lst vs):¬cN σ e H p:=fun⟨i,h⟩=>by
  obtain⟨_,vs,g⟩:=R.fpAt h
  rw [hp] at g;cases g
  exact hl _ rfl
theorem bc.newT(R:bc K F H σ e){p:MW}{vs:List V}(hp:H p=none):bc K (bC F p (.tup vs)) (bC H p (.tup vs)) σ e∧e_ σ F H e (bC F p (.tup vs)) (bC H p (.tup vs)) e:=by
  have hF:=R.freeF hp
  obtain⟨R1,X1⟩:=R.same (aG.new hp (o:=.tup vs))
  obtain⟨R2,s2⟩:=R1.freeze (p:=p) hF ay (R1.notOwn ay (fun _ z=>nomatch z))
  refine⟨R2,⟨s2,X1.dom,fun a ws h n _=>?_,X1.lst,X1.tmp,X1.shp,X1.ow,fun a ws h n _=>?_⟩⟩
  all_goals
    have z:a≠p:=fun z=>by rw [z,hp] at n;cases n
    rw [aA z];exact h
theorem bc.sameOwn(R:bc K F H σ e)(s:aG H H')(a:MW):cN σ e H' a↔ cN σ e H a:=(R.keep (aG.refl F) (R.sm.trans s) (fun a ⟨i,h⟩=>(R.fpAt h).1) fun a o _ h=>s a o h).2 a
theorem bc.newL(R:bc K F H σ e){p:MW}{vs:List V}(hp:H p=none):bc K F (bC H p (.lst vs)) σ e∧e_ σ F H e F (bC H p (.lst vs)) e∧F p=none∧¬cN σ e (bC H p (.lst vs)) p:=
  ⟨(R.same (aG.new hp)).1,(R.same (aG.new hp)).2,R.freeF hp,fun z=>R.ownH p ((R.sameOwn (aG.new hp) p).mp z) hp⟩
theorem bc.growT(R:bc K F H σ e){p:MW}{xs:List V}(s:aG H H')(hp:dz K H' p xs):∃F',bc K F' H' σ e∧e_ σ F H e F' H' e∧dz K F' p xs:=by
  obtain⟨R1,X1⟩:=R.same s
  rcases hp with hp | hp
  · have key:∀o,H' p=some o→(∀vs,o≠.lst vs)→(∀m,o≠.dK m)→(∀G:Hp,G p=some o→Rd G p (.tup xs))→∃F',bc K F' H' σ e∧e_ σ F H e F' H' e∧dz K F' p xs:=by
      intro o ho hl hm hr
      cases q:F p with
      | some u=>
        have:=R1.sm _ _ q
        rw [ho] at this;cases this
        exact⟨F,R1,X1,.inl (hr F q)⟩
      | none=>
        obtain⟨R2,s2⟩:=R1.freeze q ho (R1.notOwn ho hl)
        refine⟨_,R2,⟨s2,X1.dom,fun a ws h n _=>?_,X1.lst,X1.tmp,X1.shp,X1.ow,fun a ws h n _=>?_⟩,.inl (hr _ ay)⟩
        · have z:a≠p:=fun z=>by rw [z] at n;rw [s _ _ n] at ho;cases ho;exact hl _ rfl
          rw [aA z];exact h
        · have z:a≠p:=fun z=>by rw [z] at n;rw [s _ _ n] at ho;cases ho;exact hm _ rfl
          rw [aA z];exact h
    rcases hp with hp | ⟨ob,hp⟩
    · exact key _ hp (fun _ z=>nomatch z) (fun _ z=>nomatch z) fun G g=>.inl g
    · exact key _ hp (fun _ z=>nomatch z) (fun _ z=>nomatch z) fun G g=>.inr ⟨ob,g⟩
  · exact⟨F,R1,X1,.inr hp⟩
theorem cP.frozen(R:bc K F H σ e){xs:List MY}(h:cP K σ H0 F H e (.l xs) v):∃F',bc K F' H σ e∧aG F F'∧DA K F' (.list xs) v∧(∀a,F a=none→H0 a≠none→F' a=none):=by
  obtain⟨l,vs,rfl,h1,h2,h3,h4,h5⟩:=h
  obtain⟨R2,s2⟩:=R.freeze h2 h3 h5
  refine⟨_,R2,s2,?_,fun a ha hn=>?_⟩
  · rw [d9]
    exact⟨l,vs,rfl,.inl (.inl ay),aT.mono s2 h4⟩
  · have z:a≠l:=fun z=>hn (by rw [z];exact h1)
    rw [aA z];exact ha
def eX(e:En):Rv→Option (Bool × List MY)
  | .d (.tuple xs)=>some (false,xs)
  | .d (.list xs)=>some (true,xs)
  | .l xs=>some (true,xs)
  | .s i=>match e[i]? with
    | some (some (.l xs))=>some (true,xs)
    | _=>none
  | _=>none
theorem dw(R:bc K F H σ e)(h:cP K σ H0 F H e r v){b:Bool}{xs:List MY}(q:eX e r=some (b,xs)):
    ∃p vs,v=.ref p∧aT K F xs vs∧(if b=true then gC K H p vs else dz K H p vs):=by
  cases r with
  | d x=>
    cases x with
    | tuple ds=>
      cases q
      obtain⟨a,ys,e1,e2,e3⟩:=cq.mp h
      exact⟨a,ys,e1,e3,R.sm.tup e2⟩
    | list ds=>
      cases q
      obtain⟨a,ys,e1,e2,e3⟩:=d9.mp h
      exact⟨a,ys,e1,e3,R.sm.seq e2⟩
    | _=>cases q
  | l ys=>
    cases q
    obtain⟨l,vs,e1,h1,h2,h3,h4,_⟩:=h
    exact⟨l,vs,e1,h4,.inl (.inl h3)⟩
  | s i=>
    obtain⟨h1,ys,h2⟩:=h
    simp only [eX,h2] at q
    cases q
    obtain⟨l,vs,e1,e2,e3,e4⟩:=R.own i _ h2
    rw [h1] at e1;cases e1
    exact⟨l,vs,rfl,e4,.inl (.inl e3)⟩
end
abbrev FE:=En→Option (Rv × En)
abbrev FT:=En→Option (Bool × En)
abbrev FA:=En→Option (List Rv × En)
def d_(K:⇑0)(σ:L2.St)(H0 F H:Hp)(e:En):List Rv→List V→Prop
  | [],vs=>vs=[]
  | r::rs,vs=>∃v ws,vs=v::ws∧cP K σ H0 F H e r v∧d_ K σ H0 F H e rs ws
def fE(K:⇑0)(f:FE):TE:=fun σ H Q=>∃F e r e',bc K F H σ e∧f e=some (r,e')∧∀F' H' v,e_ σ F H e F' H' e'→bc K F' H' σ e'→cP K σ H F' H' e' r v→Q v H'
def fT(K:⇑0)(f:FT):TT:=fun σ H Q=>∃F e b e',bc K F H σ e∧f e=some (b,e')∧∀F' H',e_ σ F H e F' H' e'→bc K F' H' σ e'→Q b H'
def fA(K:⇑0)(f:FA):TA:=fun σ H Q=>∃F e rs e',bc K F H σ e∧f e=some (rs,e')∧∀F' H' vs,e_ σ F H e F' H' e'→bc K F' H' σ e'→d_ K σ H F' H' e' rs vs→Q vs H'
theorem PE.mono{X:Cx}{e:Na}{t t':TE}(h:PE X e t)(m:∀σ H Q,t' σ H Q→t σ H Q):PE X e t':=fun pins s σ H Q I q=>h pins s σ H Q I (m σ H Q q)
theorem PT.mono{X:Cx}{e:Na}{t t':TT}(h:PT X e t)(m:∀σ H Q,t' σ H Q→t σ H Q):PT X e t':=fun pins s σ H Q I q=>h pins s σ H Q I (m σ H Q q)
theorem PW.mono{X:Cx}{e:Na}{t t':TT}(h:PW X e t)(m:∀σ H Q,t' σ H Q→t σ H Q):PW X e t':=fun wh pins s σ H Q I q=>h wh pins s σ H Q I (m σ H Q q)
theorem PA.mono{X:Cx}{es:List Na}{t t':TA}(h:PA X es t)(m:∀σ H Q,t' σ H Q→t σ H Q):PA X es t':=fun pos pins s σ H Q I q=>h pos pins s σ H Q I (m σ H Q q)
section
variable{K:⇑0}{σ:L2.St}{H0 F H F' H':Hp}{e e':En}
theorem d_.weak{H1:Hp}(d:∀a,H1 a=none→H0 a=none):∀{rs:List Rv} {vs:List V},d_ K σ H1 F H e rs vs→d_ K σ H0 F H e rs vs
  | [],_,h=>h
  | r::rs,_,h=>by
    obtain⟨v,ws,rfl,h1,h2⟩:=h
    exact⟨v,ws,rfl,h1.weak d,d_.weak d h2⟩
theorem e_.frz{F'':Hp}(x:e_ σ F H e F' H' e')(s:aG F' F'')(h:∀a,F' a=none→H a≠none→F'' a=none):e_ σ F H e F'' H' e':=
  ⟨x.sf.trans s,x.dom,fun a vs h1 h2 h3=>h a (x.fr a vs h1 h2 h3) (by rw [h2];simp),x.lst,x.tmp,x.shp,x.ow,fun a m h1 h2 h3=>h a (x.fd a m h1 h2 h3) (by rw [h2];simp)⟩
def jZ:List Rv→Option (List MY)
  | []=>some []
  | .d x::rs=>(jZ rs).map (x::·)
  | .l xs::rs=>(jZ rs).map (.list xs::·)
  | .s _::_=>none
theorem d_.frozen:∀{rs:List Rv} {vs:List V} {ds:List MY} {F:Hp},bc K F H σ e→d_ K σ H0 F H e rs vs→jZ rs=some ds→
    ∃F',bc K F' H σ e∧aG F F'∧aT K F' ds vs∧(∀a,F a=none→H0 a≠none→F' a=none)
  | [],_,_,F,R,h,q=>by
    cases q
    have h':_=[]:=h
    subst h'
    exact⟨F,R,aG.refl _,aT.nil,fun _ h _=>h⟩
  | .d x::rs,_,ds,F,R,h,q=>by
    obtain⟨v,ws,rfl,h1,h2⟩:=h
    obtain⟨ds',q1,rfl⟩:=MQ q
    obtain⟨F',R',s',d',f'⟩:=d_.frozen R h2 q1
    exact⟨F',R',s',.cons (DA.mono s' h1) d',f'⟩
  | .l xs::rs,_,ds,F,R,h,q=>by
    obtain⟨v,ws,rfl,h1,h2⟩:=h
    obtain⟨ds',q1,rfl⟩:=MQ q
    obtain⟨F',R',s',d',f'⟩:=d_.frozen R h2 q1
    obtain⟨l,us,rfl,g1,g2,g3,g4,g5⟩:=h1
    cases hl:F' l with
    | none=>
      have h1':cP K σ H0 F' H e (.l xs) (.ref l):=⟨l,us,rfl,g1,hl,g3,aT.mono s' g4,g5⟩
      obtain⟨F2,R2,s2,d2,f2⟩:=h1'.frozen R'
      exact⟨F2,R2,s'.trans s2,.cons d2 (aT.mono s2 d'),fun a ha hn=>f2 a (f' a ha hn) hn⟩
    | some o=>
      have:=R'.sm _ _ hl
      rw [g3] at this;cases this
      exact⟨F',R',s',.cons (d9.mpr ⟨l,us,rfl,.inl (.inl hl),aT.mono s' g4⟩) d',f'⟩
end
section
variable{X:Cx}{K:⇑0}{a b c:Na}{fa fb:FE}{ft fu:FT}{pos:Pos}{es:List Na}{fs:FA}
def ac(i:Nat):FE:=fun e=>match e[i]? with
  | some (some (.d x))=>some (.d x,e)
  | some (some (.l _))=>some (.s i,e)
  | _=>none
def vC(x:MY):FE:=fun e=>some (.d x,e)
theorem Dw{i:Nat}{σ:L2.St}{H:Hp}{Q:VK}(h:fE K (ac i) σ H Q):Di i σ H Q:=by
  obtain⟨F,e,r,e',R,hf,q⟩:=h
  unfold ac at hf
  match h1:e[i]?,hf with
  | some (some (.d x)),hf=>
    cases hf
    obtain⟨v,h2,h3⟩:=R.dat i x h1
    exact⟨v,h2,q F H v (e_.refl _ _ _ _) R h3⟩
  | some (some (.n _)),hf=>cases hf
  | some (some (.l xs)),hf=>
    cases hf
    obtain⟨l,vs,h2,h3⟩:=R.own i xs h1
    exact⟨_,h2,q F H _ (e_.refl _ _ _ _) R ⟨h2,xs,h1⟩⟩
  | some none,hf=>cases hf
  | none,hf=>cases hf
theorem qv(i:Nat){x:Str}{pos:Pos}(hN:X.N[i]?=some x)(hv:yO X.env.scope x)(hd:(x==("__debug__":Str))=false)(hcd:(x==("__classdict__":Str))=false):PE X (.Name x pos) (fE K (ac i)):=(iR hN hv hd hcd).mono fun _ _ _ h=>Dw h
theorem xB{x:MY}{v:V}{σ:L2.St}{H:Hp}{Q:VK}(hx:∀F,DA K F x v)(h:fE K (vC x) σ H Q):tC v σ H Q:=by
  obtain⟨F,e,r,e',R,hf,q⟩:=h
  cases hf
  exact q F H v (e_.refl _ _ _ _) R (hx F)
theorem ae{i j pos}:PE X (.Constant (.int i) j pos) (fE K (vC (.int i))):=Fm.mono fun _ _ _ h=>xB (fun _=>cm.mpr rfl) h
theorem wV{b j pos}:PE X (.Constant (.bool b) j pos) (fE K (vC (.bool b))):=Ht.mono fun _ _ _ h=>xB (fun _=>fM.mpr rfl) h
theorem oT{j pos}:PE X (.Constant .none j pos) (fE K (vC .none)):=Fn.mono fun _ _ _ h=>xB (fun _=>jy.mpr rfl) h
theorem ng{x:Str}{v:V}{u:MX}{pos:Pos}{y:MY}(hg:Gl X x)(hm:X.mg x=some u)(r:bv v u)(hy:∀F,DA K F y v)(hd:(x==("__debug__":Str))=false):PE X (.Name x pos) (fE K (vC y)):=(CN hg hm r hd).mono fun _ _ _ h=>xB hy h
def hG(K:⇑0)(r:R2)(g:En→Rv→Rv→Option Rv):Prop:=
  ∀(σ:L2.St) (H0 F H:Hp) (e:En) (x y z:Rv) (v u:V) (Q:VK),bc K F H σ e→cP K σ H0 F H e x v→cP K σ H0 F H e y u→g e x y=some z→
    (∀F' H' w,e_ σ F H e F' H' e→bc K F' H' σ e→cP K σ H F' H' e z w→Q w H')→r v u H Q
def aq(g:En→Rv→Rv→Option Rv)(fa fb:FE):FE:=fun e=>(fa e).bind fun p=>(fb p.2).bind fun q=>(g q.2 p.1 q.1).map fun z=>(z,q.2)
theorem sV{r:R2}{g:En→Rv→Rv→Option Rv}(ho:hG K r g){σ:L2.St}{H:Hp}{Q:VK}(h:fE K (aq g fa fb) σ H Q):H_ r (fE K fa) (fE K fb) σ H Q:=by
  obtain⟨F,e,z,e2,R,hf,q⟩:=h
  unfold aq at hf
  obtain⟨⟨x,e1⟩,h1,hf⟩:=MP hf
  obtain⟨⟨y,e2'⟩,h2,hf⟩:=MP hf
  obtain⟨z',h3,hf⟩:=MQ hf
  cases hf
  refine⟨F,e,x,e1,R,h1,fun F1 H1 v X1 R1 A1=>⟨F1,e1,y,_,R1,h2,fun F2 H2 u X2 R2 A2=>?_⟩⟩
  have X12:=X1.trans X2
  refine ho σ H F2 H2 _ x y _ v u Q R2 (A1.ext X2) (A2.weak X1.dom) h3 fun F3 H3 w X3 R3 A3=>?_
  exact q F3 H3 w (X12.trans X3) R3 (A3.weak X12.dom)
theorem qr{op:Operator}{r:R2}{g:En→Rv→Rv→Option Rv}(hr:hV X (Oa op) r)(ho:hG K r g)(ha:PE X a (fE K fa))(hb:PE X b (fE K fb)):PE X (.BinOp a op b pos) (fE K (aq g fa fb)):=(Hu hr ha hb).mono fun _ _ _ h=>sV ho h
theorem FC{op:CmpOp}{r:R2}{g:En→Rv→Rv→Option Rv}(hr:hV X (NU op) r)(ho:hG K r g)(ha:PE X a (fE K fa))(hb:PE X b (fE K fb))(hm:PV op b=false):PE X (.Compare a [op] [b] pos) (fE K (aq g fa fb)):=(CM hr ha hb hm).mono fun _ _ _ h=>sV ho h
theorem HB{r:R2}{g:En→Rv→Rv→Option Rv}(hr:BH X r)(ho:hG K r g)(ha:PE X a (fE K fa))(hb:PE X b (fE K fb))(hs:mZ b):PE X (.Subscript a b pos) (fE K (aq g fa fb)):=(D3 hr ha hb hs).mono fun _ _ _ h=>sV ho h
def ny(g:En→Rv→Option Rv)(fa:FE):FE:=fun e=>(fa e).bind fun p=>(g p.2 p.1).map fun z=>(z,p.2)
def IB(K:⇑0)(r:V→Hp→VK→Prop)(g:En→Rv→Option Rv):Prop:=
  ∀(σ:L2.St) (H0 F H:Hp) (e:En) (x z:Rv) (v:V) (Q:VK),bc K F H σ e→cP K σ H0 F H e x v→g e x=some z→
    (∀F' H' w,e_ σ F H e F' H' e→bc K F' H' σ e→cP K σ H F' H' e z w→Q w H')→r v H Q
theorem Gv{r:V→Hp→VK→Prop}{g:En→Rv→Option Rv}(ho:IB K r g){σ:L2.St}{H:Hp}{Q:VK}(h:fE K (ny g fa) σ H Q):JZ r (fE K fa) σ H Q:=by
  obtain⟨F,e,z,e2,R,hf,q⟩:=h
  unfold ny at hf
  obtain⟨⟨x,e1⟩,h1,hf⟩:=MP hf
  obtain⟨z',h3,hf⟩:=MQ hf
  cases hf
  refine⟨F,e,x,_,R,h1,fun F1 H1 v X1 R1 A1=>?_⟩
  refine ho σ H F1 H1 _ x _ v Q R1 A1 h3 fun F3 H3 w X3 R3 A3=>?_
  exact q F3 H3 w (X1.trans X3) R3 (A3.weak X1.dom)
theorem HE{op:UnaryOp}{r:V→Hp→VK→Prop}{g:En→Rv→Option Rv}(hr:IC X (unaryOp op) r)(ho:IB K r g)(ha:PE X a (fE K fa)):PE X (.UnaryOp op a pos) (fE K (ny g fa)):=(Hx hr ha).mono fun _ _ _ h=>Gv ho h
def gh:Rv→Option Bool
  | .d (.bool b)=>some b
  | _=>none
theorem eJ{σ:L2.St}{H0 F H:Hp}{e:En}{r:Rv}{v:V}{b:Bool}(h:cP K σ H0 F H e r v)(q:gh r=some b):v=.bl b:=by
  unfold gh at q
  split at q
  · cases q;exact fM.mp (show DA K F (.bool _) v from h)
  · cases q
theorem gN{σ:L2.St}{H0 F H:Hp}{e:En}{b:Bool}:cP K σ H0 F H e (.d (.bool b)) (.bl b):=(fM (K:=K) (F:=F)).mpr rfl
def a9(f:FE):FT:=fun e=>(f e).bind fun p=>(gh p.1).map fun b=>(b,p.2)
theorem uK{σ:L2.St}{H:Hp}{Q:Bool→Hp→Prop}(h:fT K (a9 fa) σ H Q):fE K fa σ H fun x H'=>∃k,x=.bl k∧Q k H':=by
  obtain⟨F,e,b,e1,R,hf,q⟩:=h
  unfold a9 at hf
  obtain⟨⟨x,e1'⟩,h1,hf⟩:=MP hf
  obtain⟨b',h3,hf⟩:=MQ hf
  cases hf
  exact⟨F,e,x,_,R,h1,fun F1 H1 v X1 R1 A1=>⟨_,eJ A1 h3,q F1 H1 X1 R1⟩⟩
theorem FH{op:CmpOp}{r:R2}{g:En→Rv→Rv→Option Rv}(hr:hV X (NU op) r)(ho:hG K r g)(ha:PE X a (fE K fa))(hb:PE X b (fE K fb))(hm:PV op b=false):PT X (.Compare a [op] [b] pos) (fT K (a9 (aq g fa fb))):=
  (C2 hr ha hb hm).mono fun σ H Q h=>by
    obtain⟨F,e,z,e2,R,hf,q⟩:=uK h
    exact sV ho ⟨F,e,z,e2,R,hf,q⟩
theorem sE{e:Na}(h:PE X e (fE K fa))(he:∀whole,isTrue e X.env whole=(do let v ←whole;Pk e.pos;NY [v] (truthy v))):PT X e (fT K (a9 fa)):=(Fx h he).mono fun _ _ _ h=>uK h
def mX(f g:FT):FT:=fun e=>(f e).bind fun p=>if p.1=true then g p.2 else some (false,p.2)
def Gr(f g:FT):FT:=fun e=>(f e).bind fun p=>if p.1=true then some (true,p.2) else g p.2
def uJ(f:FT):FT:=fun e=>(f e).map fun p=>(!p.1,p.2)
theorem Dt{σ:L2.St}{H:Hp}{Q:Bool→Hp→Prop}(h:fT K (mX ft fu) σ H Q):HV (fT K ft) (fT K fu) σ H Q:=by
  obtain⟨F,e,b,e1,R,hf,q⟩:=h
  unfold mX at hf
  obtain⟨⟨x,e1'⟩,h1,hf⟩:=MP hf
  refine⟨F,e,x,e1',R,h1,fun F1 H1 X1 R1=>?_⟩
  cases x with
  | true=>exact⟨F1,e1',b,e1,R1,hf,fun F2 H2 X2 R2=>q F2 H2 (X1.trans X2) R2⟩
  | false=>cases hf;exact q F1 H1 X1 R1
theorem Gs{σ:L2.St}{H:Hp}{Q:Bool→Hp→Prop}(h:fT K (Gr ft fu) σ H Q):JY (fT K ft) (fT K fu) σ H Q:=by
  obtain⟨F,e,b,e1,R,hf,q⟩:=h
  unfold Gr at hf
  obtain⟨⟨x,e1'⟩,h1,hf⟩:=MP hf
  refine⟨F,e,x,e1',R,h1,fun F1 H1 X1 R1=>?_⟩
  cases x with
  | false=>exact⟨F1,e1',b,e1,R1,hf,fun F2 H2 X2 R2=>q F2 H2 (X1.trans X2) R2⟩
  | true=>cases hf;exact q F1 H1 X1 R1
theorem Dv{σ:L2.St}{H:Hp}{Q:Bool→Hp→Prop}(h:fT K (uJ ft) σ H Q):HZ (fT K ft) σ H Q:=by
  obtain⟨F,e,b,e1,R,hf,q⟩:=h
  unfold uJ at hf
  obtain⟨⟨x,e1'⟩,h1,hf⟩:=MQ hf
  cases hf
  exact⟨F,e,x,_,R,h1,fun F1 H1 X1 R1=>q F1 H1 X1 R1⟩
variable{dP:List Na}
theorem nh(ha:PT X a (fT K ft)):PW X (.BoolOp .And [a] pos) (fT K ft):=C5 ha
theorem FL(ha:PT X a (fT K ft)):PW X (.BoolOp .Or [a] pos) (fT K ft):=Fz ha
theorem sG(ha:PT X a (fT K ft))(hb:PW X (.BoolOp .And (b::dP) pos) (fT K fu)):PW X (.BoolOp .And (a::b::dP) pos) (fT K (mX ft fu)):=(Fy ha hb).mono fun _ _ _ h=>Dt h
theorem HF(ha:PT X a (fT K ft))(hb:PW X (.BoolOp .Or (b::dP) pos) (fT K fu)):PW X (.BoolOp .Or (a::b::dP) pos) (fT K (Gr ft fu)):=(HA ha hb).mono fun _ _ _ h=>Gs h
theorem FJ(ha:PT X a (fT K ft)):PT X (.UnaryOp .Not a pos) (fT K (uJ ft)):=(Fw ha).mono fun _ _ _ h=>Dv h
theorem A0{e:Na}(h:PW X e (fT K ft)):PT X e (fT K ft):=h.pt
def qM(f g:FE):FE:=fun e=>(f e).bind fun p=>(gh p.1).bind fun b=>if b=true then g p.2 else some (.d (.bool false),p.2)
def yG(f g:FE):FE:=fun e=>(f e).bind fun p=>(gh p.1).bind fun b=>if b=true then some (.d (.bool true),p.2) else g p.2
def Bz(f:FE):FE:=fun e=>(f e).bind fun p=>(gh p.1).map fun b=>(.d (.bool (!b)),p.2)
theorem FB(ha:PE X a (fE K fa))(hb:PE X (.BoolOp .And (b::dP) pos) (fE K fb)):PE X (.BoolOp .And (a::b::dP) pos) (fE K (qM fa fb)):=(Fk ha hb).mono fun σ H Q h=>by
  obtain⟨F,e,z,e2,R,hf,q⟩:=h
  unfold qM at hf
  obtain⟨⟨x,e1⟩,h1,hf⟩:=MP hf
  obtain⟨b,h2,hf⟩:=MP hf
  refine⟨F,e,x,e1,R,h1,fun F1 H1 v X1 R1 A1=>⟨b,eJ A1 h2,?_⟩⟩
  cases b with
  | true=>exact⟨F1,e1,z,e2,R1,hf,fun F2 H2 w X2 R2 A2=>q F2 H2 w (X1.trans X2) R2 (A2.weak X1.dom)⟩
  | false=>cases hf;exact q F1 H1 _ X1 R1 gN
theorem HC(ha:PE X a (fE K fa))(hb:PE X (.BoolOp .Or (b::dP) pos) (fE K fb)):PE X (.BoolOp .Or (a::b::dP) pos) (fE K (yG fa fb)):=(Hv ha hb).mono fun σ H Q h=>by
  obtain⟨F,e,z,e2,R,hf,q⟩:=h
  unfold yG at hf
  obtain⟨⟨x,e1⟩,h1,hf⟩:=MP hf
  obtain⟨b,h2,hf⟩:=MP hf
  refine⟨F,e,x,e1,R,h1,fun F1 H1 v X1 R1 A1=>⟨b,eJ A1 h2,?_⟩⟩
  cases b with
  | false=>exact⟨F1,e1,z,e2,R1,hf,fun F2 H2 w X2 R2 A2=>q F2 H2 w (X1.trans X2) R2 (A2.weak X1.dom)⟩
  | true=>cases hf;exact q F1 H1 _ X1 R1 gN
theorem AX{op}(h:PE X a (fE K fa)):PE X (.BoolOp op [a] pos) (fE K fa):=Fo h
def Du(t:FT)(f g:FE):FE:=fun e=>(t e).bind fun p=>if p.1=true then f p.2 else g p.2
theorem k8{c:Na}(hc:PT X c (fT K ft))(ha:PE X a (fE K fa))(hb:PE X b (fE K fb)):PE X (.IfExp c a b pos) (fE K (Du ft fa fb)):=(Az hc ha hb).mono fun σ H Q h=>by
  obtain⟨F,e,z,e2,R,hf,q⟩:=h
  unfold Du at hf
  obtain⟨⟨x,e1⟩,h1,hf⟩:=MP hf
  refine⟨F,e,x,e1,R,h1,fun F1 H1 X1 R1=>?_⟩
  cases x with
  | true=>exact⟨F1,e1,z,e2,R1,hf,fun F2 H2 w X2 R2 A2=>q F2 H2 w (X1.trans X2) R2 (A2.weak X1.dom)⟩
  | false=>exact⟨F1,e1,z,e2,R1,hf,fun F2 H2 w X2 R2 A2=>q F2 H2 w (X1.trans X2) R2 (A2.weak X1.dom)⟩
def ai:FA:=fun e=>some ([],e)
def aa(fa:FE)(fs:FA):FA:=fun e=>(fa e).bind fun p=>(fs p.2).map fun q=>(p.1::q.1,q.2)
theorem ag:PA X [] (fA K ai):=si.mono fun σ H Q h=>by
  obtain⟨F,e,r,e',R,hf,q⟩:=h
  cases hf
  exact q F H [] (e_.refl _ _ _ _) R rfl
theorem Jr(ha:PE X a (fE K fa))(hr:PA X es (fA K fs))(h:QG a=false):PA X (a::es) (fA K (aa fa fs)):=(CK ha hr h).mono fun σ H Q h=>by
  obtain⟨F,e,z,e2,R,hf,q⟩:=h
  unfold aa at hf
  obtain⟨⟨x,e1⟩,h1,hf⟩:=MP hf
  obtain⟨⟨xs,e2'⟩,h2,hf⟩:=MQ hf
  cases hf
  refine⟨F,e,x,e1,R,h1,fun F1 H1 v X1 R1 A1=>⟨F1,e1,xs,_,R1,h2,fun F2 H2 vs X2 R2 A2=>?_⟩⟩
  exact q F2 H2 (v::vs) (X1.trans X2) R2 ⟨v,vs,rfl,A1.ext X2,A2.weak X1.dom⟩
def bI(fs:FA):FE:=fun e=>(fs e).bind fun p=>(jZ p.1).bind fun ds=>if ds.length≤1000 then some (.d (.tuple ds),p.2) else none
def cC(fs:FA):FE:=fun e=>(fs e).bind fun p=>(jZ p.1).bind fun ds=>if ds.length≤1000 then some (.l ds,p.2) else none
theorem ba{x1}(h:PA X es (fA K fs)):PE X (.Tuple es x1 pos) (fE K (bI fs)):=(Fq h).mono fun σ H Q h=>by
  obtain⟨F,e,z,e2,R,hf,q⟩:=h
  unfold bI at hf
  obtain⟨⟨rs,e1⟩,h1,hf⟩:=MP hf
  obtain⟨ds,h2,hf⟩:=MP hf
  split at hf
  case isFalse=>cases hf
  case isTrue hl=>
  cases hf
  refine⟨F,e,rs,_,R,h1,fun F1 H1 vs X1 R1 A1=>?_⟩
  obtain⟨F2,R2,s2,d2,f2⟩:=d_.frozen R1 A1 h2
  have hlen:=d2.len
  refine⟨Qz (qH ↥0),fun p hp=>?_⟩
  obtain⟨R3,X3⟩:=R2.newT (vs:=vs) hp
  exact q _ _ _ ((X1.frz s2 f2).trans X3) R3 (cq.mpr ⟨p,vs,rfl,.inl (.inl ay),aT.mono X3.sf d2⟩)
theorem c9(h:PA X es (fA K fs)):PE X (.List es pos) (fE K (cC fs)):=(AB h).mono fun σ H Q h=>by
  obtain⟨F,e,z,e2,R,hf,q⟩:=h
  unfold cC at hf
  obtain⟨⟨rs,e1⟩,h1,hf⟩:=MP hf
  obtain⟨ds,h2,hf⟩:=MP hf
  split at hf
  case isFalse=>cases hf
  case isTrue hl=>
  cases hf
  refine⟨F,e,rs,_,R,h1,fun F1 H1 vs X1 R1 A1=>?_⟩
  obtain⟨F2,R2,s2,d2,f2⟩:=d_.frozen R1 A1 h2
  have hlen:=d2.len
  refine⟨Qz (qH ↥0),fun p hp=>?_⟩
  obtain⟨R3,X3,hF,no⟩:=R2.newL (vs:=vs) hp
  exact q _ _ _ ((X1.frz s2 f2).trans X3) R3 ⟨p,vs,rfl,X1.dom p hp,hF,ay,d2,no⟩
def fH(K:⇑0)(r:List V→Hp→VK→Prop)(g:En→List Rv→Option Rv):Prop:=
  ∀(σ:L2.St) (H0 F H:Hp) (e:En) (xs:List Rv) (z:Rv) (vs:List V) (Q:VK),bc K F H σ e→d_ K σ H0 F H e xs vs→g e xs=some z→
    (∀F' H' w,e_ σ F H e F' H' e→bc K F' H' σ e→cP K σ H F' H' e z w→Q w H')→r vs H Q
def aJ(g:En→List Rv→Option Rv)(fs:FA):FE:=fun e=>(fs e).bind fun p=>(g p.2 p.1).map fun z=>(z,p.2)
theorem uH{r:List V→Hp→VK→Prop}{g:En→List Rv→Option Rv}(ho:fH K r g){σ:L2.St}{H:Hp}{Q:VK}(h:fE K (aJ g fs) σ H Q):Ju r (fA K fs) σ H Q:=by
  obtain⟨F,e,z,e2,R,hf,q⟩:=h
  unfold aJ at hf
  obtain⟨⟨x,e1⟩,h1,hf⟩:=MP hf
  obtain⟨z',h3,hf⟩:=MQ hf
  cases hf
  refine⟨F,e,x,_,R,h1,fun F1 H1 vs X1 R1 A1=>?_⟩
  refine ho σ H F1 H1 _ x _ vs Q R1 A1 h3 fun F3 H3 w X3 R3 A3=>?_
  exact q F3 H3 w (X1.trans X3) R3 (A3.weak X1.dom)
theorem AW{x:Str}{p pos:Pos}{id:String}{r:List V→Hp→VK→Prop}{g:En→List Rv→Option Rv}(hc:fZ X (.builtin id) r)(ho:fH K r g)(hg:Gl X x)(hm:X.mg x=none)(hv:OX x=some (.builtin id))(ha:PA X (a::es) (fA K fs))(hn:x≠"__name__")(hdb:(x==("__debug__":Str))=false)
    (he:Nl (a::es) X.env=(false,Nj a X.env)::Nl es X.env)(hpl:(NO pos (Nl es X.env)).any (·.1)=false):PE X (.Call (.Name x p) (a::es) [] pos) (fE K (aJ g fs)):=(Aw hc hg hm hv ha hn hdb he hpl).mono fun _ _ _ h=>uH ho h
theorem yq{x:Str}{p pos:Pos}{T:String}{r:List V→Hp→VK→Prop}{g:En→List Rv→Option Rv}(hc:fZ X (.type T) r)(ho:fH K r g)(hg:Gl X x)(hm:X.mg x=none)(hv:OX x=some (.type T))(ha:PA X (a::es) (fA K fs))(hn:x≠"__name__")(hdb:(x==("__debug__":Str))=false)
    (he:Nl (a::es) X.env=(false,Nj a X.env)::Nl es X.env)(hpl:(NO pos (Nl es X.env)).any (·.1)=false):PE X (.Call (.Name x p) (a::es) [] pos) (fE K (aJ g fs)):=(yk hc hg hm hv ha hn hdb he hpl).mono fun _ _ _ h=>uH ho h
end
mutual
theorem DA.reads{X:Cx}{pins:List (MW × Obj)}{σ:L2.St}{H:Hp}{s:MZ}(I:aI X pins σ H s):∀{d:MY} {v:V} {u:MX},d.canLay0=true→DA X.K H d v→bv v u→∃as,Reads s.heap u d as
  | .none,_,_,_,q,r=>by
    simp only [DA] at q;subst q;cases r;exact⟨_,.none⟩
  | .bool b,_,_,_,q,r=>by
    simp only [DA] at q;subst q;cases r;exact⟨_,.bool b⟩
  | .int i,_,_,_,q,r=>by
    simp only [DA] at q;subst q;obtain⟨t,rfl⟩:=r;exact⟨_,.int i t⟩
  | .str x,_,_,_,q,r=>by
    simp only [DA] at q;subst q;obtain⟨t,rfl⟩:=r;exact⟨_,.str x t⟩
  | .tuple ds,_,_,c,q,r=>by
    simp only [DA] at q
    obtain⟨a,xs,e,hs,rr⟩:=q
    subst e;cases r
    obtain⟨its,rv,⟨o,ho,hc,n,hd⟩,hz⟩:=I.tuple hs
    obtain⟨as,q⟩:=aT.reads I (by simpa [OB] using c) rr rv
    exact⟨_,.tuple ho hc hd q⟩
  | .list ds,_,_,c,q,r=>by
    simp only [DA] at q
    obtain⟨a,xs,e,hs,rr⟩:=q
    subst e;cases r
    obtain⟨its,rv,ht,hz⟩:=I.list hs
    obtain⟨o,ho,hc,n,hd⟩:=ht.isList
    obtain⟨as,q⟩:=aT.reads I (by simpa [OB] using c) rr rv
    exact⟨_,.list ho hc hd q⟩
  | .dict _,_,_,c,_,_=>by simp [OB] at c
theorem aT.reads{X:Cx}{pins:List (MW × Obj)}{σ:L2.St}{H:Hp}{s:MZ}(I:aI X pins σ H s):∀{ds:List MY} {xs:List V} {us:List MX},OS ds=true→aT X.K H ds xs→aR xs us→∃as,ReadsAll s.heap us ds as
  | [],_,_,_,q,r=>by
    simp only [aT] at q;subst q;cases r;exact⟨_,.nil⟩
  | d::ds,_,_,c,q,r=>by
    simp only [aT] at q
    simp only [OS,NP] at c
    obtain⟨x,rr,e,a,b⟩:=q
    subst e
    cases r with
    | cons p p'=>
      obtain⟨as,q1⟩:=DA.reads I c.1 a p
      obtain⟨bs,q2⟩:=aT.reads I c.2 b p'
      exact⟨_,.cons q1 q2⟩
end
def jb(e:En):Rv→Option MY
  | .d x=>some x
  | .l xs=>some (.list xs)
  | .s i=>match e[i]? with
    | some (some (.l xs))=>some (.list xs)
    | _=>none
theorem jc{K:⇑0}{σ:L2.St}{H0 F H:Hp}{e:En}{r:Rv}{v:V}{d:MY}(R:bc K F H σ e)(h:cP K σ H0 F H e r v)(q:jb e r=some d):DA K H d v:=by
  cases r with
  | d x=>cases q;exact DA.mono R.sm h
  | l xs=>
    cases q
    obtain⟨l,vs,rfl,h1,h2,h3,h4,_⟩:=h
    exact d9.mpr ⟨l,vs,rfl,.inl (.inl h3),aT.mono R.sm h4⟩
  | s i=>
    obtain⟨h1,ys,h2⟩:=h
    simp only [jb,h2] at q
    cases q
    obtain⟨l,vs,e1,e2,e3,e4⟩:=R.own i _ h2
    rw [h1] at e1;cases e1
    exact d9.mpr ⟨l,vs,rfl,.inl (.inl e3),aT.mono R.sm e4⟩
section
variable{X:Cx}{K:⇑0}
def cg:Rv→Option Int
  | .d (.int i)=>some i
  | _=>none
theorem bz{σ:L2.St}{H0 F H:Hp}{e:En}{r:Rv}{v:V}{i:Int}(h:cP K σ H0 F H e r v)(q:cg r=some i):v=.int i:=by
  unfold cg at q
  split at q
  · cases q;exact cm.mp (show DA K F (.int _) v from h)
  · cases q
theorem o6{σ:L2.St}{H0 F H:Hp}{e:En}{i:Int}:cP K σ H0 F H e (.d (.int i)) (.int i):=(cm (K:=K) (F:=F)).mpr rfl
def gI(C:Int→Int→Bool)(f:Int→Int→MY):En→Rv→Rv→Option Rv:=fun _ x y=>(cg x).bind fun i=>(cg y).bind fun j=>if C i j=true then some (.d (f i j)) else none
theorem ud{C:Int→Int→Prop}{c:Int→Int→Bool}{g:Int→Int→V}{f:Int→Int→MY}(hc:∀i j,c i j=true→C i j)(hf:∀F i j,DA K F (f i j) (g i j)):hG K (rI C g) (gI c f):=by
  intro σ H0 F H e x y z v u Q R A B hg q
  unfold gI at hg
  obtain⟨i,h1,hg⟩:=MP hg
  obtain⟨j,h2,hg⟩:=MP hg
  split at hg
  case isFalse=>cases hg
  case isTrue hh=>
  cases hg
  exact⟨i,j,bz A h1,bz B h2,hc i j hh,q F H _ (e_.refl _ _ _ _) R (hf F i j)⟩
theorem kf{g:Int→Int→V}{f:Int→Int→MY}(hf:∀F i j,DA K F (f i j) (g i j)):hG K (yt g) (gI (fun _ _=>true) f):=by
  intro σ H0 F H e x y z v u Q R A B hg q
  obtain⟨i,j,h1,h2,h3,h4⟩:=ud (K:=K) (C:=fun _ _=>True) (c:=fun _ _=>true) (g:=g) (f:=f) (fun _ _ _=>trivial) hf σ H0 F H e x y z v u Q R A B hg q
  exact⟨i,j,h1,h2,h4⟩
def zK(g g':En→Rv→Rv→Option Rv):En→Rv→Rv→Option Rv:=fun e x y=>(g e x y).or (g' e x y)
theorem hG.or{r r':R2}{g g':En→Rv→Rv→Option Rv}(h:hG K r g)(h':hG K r' g'):hG K (fun x y H Q=>r x y H Q∨r' x y H Q) (zK g g'):=by
  intro σ H0 F H e x y z v u Q R A B hg q
  unfold zK at hg
  cases e1:g e x y with
  | some w=>
    rw [e1] at hg
    cases hg
    exact .inl (h σ H0 F H e x y _ v u Q R A B e1 q)
  | none=>
    rw [e1] at hg
    exact .inr (h' σ H0 F H e x y _ v u Q R A B hg q)
def zD:=gI (fun _ _=>true) fun i j=>.int (i+j)
def gn:=gI (fun _ _=>true) fun i j=>.int (i - j)
def iX(i:Int):Bool:=decide (-(2 ^ 64) < i)&&decide (i < 2 ^ 64)
def GT(n:Nat)(i:Int):Bool:=decide (i.natAbs < 2 ^ n)
theorem iG{n:Nat}{i:Int}:GT n i=true↔ Bt n i:=by unfold GT Bt;exact decide_eq_true_iff
def kc(i j:Int):Bool:=iX i || iX j || (GT 4000 i&&GT 4000 j)
def zI:=gI kc fun i j=>.int (i*j)
def c_:=gI (fun _ j=>j != 0&&GT 8000 j) fun i j=>.int (i.fdiv j)
def bf:=gI (fun _ j=>j != 0) fun i j=>.int (i.fmod j)
def AL(i j:Int):Bool:=decide (0≤j)&&decide (j≤1000000)&&iX i
def vh:=gI AL fun i j=>.int (i ^ j.toNat)
theorem kh{i:Int}(h:iX i=true): -(2 ^ 64) < i∧i < 2 ^ 64:=by
  unfold iX at h
  rw [NP,decide_eq_true_iff,decide_eq_true_iff] at h
  exact h
theorem CZ{i j:Int}(h:AL i j=true):Ef i j:=by
  unfold AL at h
  rw [NP,NP,decide_eq_true_iff,decide_eq_true_iff] at h
  have:=kh h.2
  exact⟨h.1.1,h.1.2,by lia⟩
def vX(i j:Int):Prop:=BM i j∨DC i j
theorem CA:hV X (Oa .Mult) (rI vX fun i j=>.int (i*j)):=by
  intro pins s σ H x y v u Q I rx ry h
  obtain⟨i,j,e1,e2,h1,q⟩:=h
  rcases h1 with h1 | h1
  · exact Ff pins s σ H x y v u Q I rx ry ⟨i,j,e1,e2,h1,q⟩
  · exact CB pins s σ H x y v u Q I rx ry ⟨i,j,e1,e2,h1,q⟩
theorem Cn{i j:Int}(h:kc i j=true):vX i j:=by
  unfold kc at h
  rw [Bool.or_eq_true,Bool.or_eq_true,NP] at h
  rcases h with (h | h) | h
  · exact .inl (.inl (kh h))
  · exact .inl (.inr (kh h))
  · exact .inr ⟨iG.mp h.1,iG.mp h.2⟩
theorem EX:hG K (rI vX fun i j=>.int (i*j)) zI:=ud (fun _ _ h=>Cn h) fun _ _ _=>cm.mpr rfl
theorem HU:hG K (yt fun i j=>.int (i - j)) gn:=kf fun _ _ _=>cm.mpr rfl
theorem ED:hG K (rI DB fun i j=>.int (i.fdiv j)) c_:=ud (fun i j h=>by
  rw [NP] at h
  exact⟨by simpa using h.1,iG.mp h.2⟩) fun _ _ _=>cm.mpr rfl
theorem Hj:hG K (rI (fun _ j=>j≠0) fun i j=>.int (i.fmod j)) bf:=ud (fun i j h=>by simpa using h) fun _ _ _=>cm.mpr rfl
theorem Hy:hG K (rI Ef fun i j=>.int (i ^ j.toNat)) vh:=ud (fun _ _ h=>CZ h) fun _ _ _=>cm.mpr rfl
def tN:En→Rv→Rv→Option Rv:=fun e x y=>match eX e x,eX e y with
  | some (false,xs),some (false,ys)=>if xs.length+ys.length≤1000000 then some (.d (.tuple (xs++ys))) else none
  | _,_=>none
theorem Ey:hG K (A4 K) tN:=by
  intro σ H0 F H e x y z v u Q R A B hg q
  unfold tN at hg
  match h1:eX e x,h2:eX e y,hg with
  | some (false,xs),some (false,ys),hg=>
    obtain⟨p,vs,rfl,d1,s1⟩:=dw R A h1
    obtain⟨p',us,rfl,d2,s2⟩:=dw R B h2
    dsimp only at hg
    split at hg
    case isFalse=>cases hg
    case isTrue hl=>
    cases hg
    have l1:=d1.len
    have l2:=d2.len
    have sl:Nr=16777216:=Om
    refine⟨p,p',vs,us,rfl,rfl,s1,s2,by lia,fun t H' sm hT=>?_⟩
    obtain⟨F',R',X',hF⟩:=R.growT sm hT
    exact q F' H' _ X' R' (cq.mpr ⟨t,_,rfl,hF,(d1.append d2).mono X'.sf⟩)
def x_(e:En):Rv→Option (List MY)
  | .l xs=>some xs
  | .s i=>match e[i]? with
    | some (some (.l xs))=>some xs
    | _=>none
  | _=>none
theorem rX{σ:L2.St}{H0 F H:Hp}{e:En}{r:Rv}{v:V}(R:bc K F H σ e)(h:cP K σ H0 F H e r v){xs:List MY}(q:x_ e r=some xs):∃p vs,v=.ref p∧F p=none∧H p=some (.lst vs)∧aT K F xs vs:=by
  cases r with
  | d x=>cases q
  | l ys=>
    cases q
    obtain⟨l,vs,e1,h1,h2,h3,h4,_⟩:=h
    exact⟨l,vs,e1,h2,h3,h4⟩
  | s i=>
    obtain⟨h1,ys,h2⟩:=h
    simp only [x_,h2] at q
    cases q
    obtain⟨l,vs,e1,e2,e3,e4⟩:=R.own i _ h2
    rw [h1] at e1;cases e1
    exact⟨l,vs,rfl,e2,e3,e4⟩
def wx:En→Rv→Rv→Option Rv:=fun e x y=>(x_ e x).bind fun xs=>(x_ e y).bind fun ys=>if xs.length+ys.length≤1000000 then some (.l (xs++ys)) else none
theorem Ex:hG K FN wx:=by
  intro σ H0 F H e x y z v u Q R A B hg q
  unfold wx at hg
  obtain⟨xs,h1,hg⟩:=MP hg
  obtain⟨ys,h2,hg⟩:=MP hg
  split at hg
  case isFalse=>cases hg
  case isTrue hl=>
  cases hg
  obtain⟨p,vs,rfl,f1,s1,d1⟩:=rX R A h1
  obtain⟨p',us,rfl,f2,s2,d2⟩:=rX R B h2
  have l1:=d1.len
  have l2:=d2.len
  have sl:Nr=16777216:=Om
  refine⟨p,p',vs,us,rfl,rfl,s1,s2,by lia,fun t ht=>?_⟩
  obtain⟨R3,X3,hF,no⟩:=R.newL (vs:=vs++us) ht
  exact q _ _ _ X3 R3 ⟨t,_,rfl,ht,hF,ay,d1.append d2,no⟩
def aO:En→Rv→Rv→Option Rv:=zK zD (zK tN wx)
def D7(K:⇑0):R2:=fun x y H Q=>yt (fun i j=>.int (i+j)) x y H Q∨(A4 K x y H Q∨FN x y H Q)
theorem Cu:hV X (Oa .Add) (D7 X.K):=E9.or (Cv.or E_)
theorem GO:hG K (D7 K) aO:=hG.or (kf fun _ _ _=>cm.mpr rfl) (hG.or Ey Ex)
def zM:En→Rv→Rv→Option Rv:=fun e x y=>match eX e x,cg y with
  | some (false,[d]),some k=>if 0≤k∧k≤100000 then some (.d (.tuple (Np k.toNat d))) else none
  | _,_=>none
theorem aT.rep{F:Hp}{d:MY}{v:V}(h:DA K F d v):∀n,aT K F (Np n d) (Np n v)
  | 0=>aT.nil
  | n+1=>aT.cons h (aT.rep h n)
theorem FW:hG K (A7 K) zM:=by
  intro σ H0 F H e x y z v u Q R A B hg q
  unfold zM at hg
  match h1:eX e x,h2:cg y,hg with
  | some (false,[d]),some k,hg=>
    obtain⟨p,vs,rfl,d1,s1⟩:=dw R A h1
    dsimp only at hg
    split at hg
    case isFalse=>cases hg
    case isTrue hl=>
    cases hg
    have hd:=d1
    simp only [aT] at hd
    obtain⟨w,r,e1,hw,e2⟩:=hd
    subst e2 e1
    refine⟨p,k,w,rfl,bz B h2,s1,hl.1,hl.2,fun t H' sm hT=>?_⟩
    obtain⟨F',R',X',hF⟩:=R.growT sm hT
    exact q F' H' _ X' R' (cq.mpr ⟨t,_,rfl,hF,(aT.rep hw _).mono X'.sf⟩)
def zL:En→Rv→Rv→Option Rv:=fun e x y=>(x_ e x).bind fun xs=>(cg y).bind fun k=>if -100000≤k∧k≤100000∧xs.length*k.toNat≤1000000 then some (.l (Np k.toNat xs).flatten) else none
theorem aT.reps{F:Hp}{ds:List MY}{vs:List V}(h:aT K F ds vs):∀n,aT K F (Np n ds).flatten (Np n vs).flatten
  | 0=>aT.nil
  | n+1=>by simpa [PY] using aT.append h (aT.reps h n)
theorem FV:hG K FR zL:=by
  intro σ H0 F H e x y z v u Q R A B hg q
  unfold zL at hg
  obtain⟨xs,h1,hg⟩:=MP hg
  obtain⟨k,h2,hg⟩:=MP hg
  split at hg
  case isFalse=>cases hg
  case isTrue hl=>
  cases hg
  obtain⟨p,vs,rfl,f1,s1,d1⟩:=rX R A h1
  have l1:=d1.len
  have sl:Nr=16777216:=Om
  refine⟨p,k,vs,rfl,bz B h2,s1,by lia,by lia,by rw [←l1];lia,fun t ht=>?_⟩
  obtain⟨R3,X3,hF,no⟩:=R.newL (vs:=(Np k.toNat vs).flatten) ht
  exact q _ _ _ X3 R3 ⟨t,_,rfl,ht,hF,ay,aT.reps d1 _,no⟩
def bJ:En→Rv→Rv→Option Rv:=zK zI (zK zM zL)
def D9(K:⇑0):R2:=fun x y H Q=>rI vX (fun i j=>.int (i*j)) x y H Q∨(A7 K x y H Q∨FR x y H Q)
theorem Cz:hV X (Oa .Mult) (D9 X.K):=CA.or (CF.or Fi)
theorem Hk:hG K (D9 K) bJ:=hG.or EX (hG.or FW FV)
def wz:=gI (fun _ _=>true) fun i j=>.bool (decide (i < j))
def Kc:=gI (fun _ _=>true) fun i j=>.bool (decide (i≤j))
def BJ:=gI (fun _ _=>true) fun i j=>.bool (decide (j < i))
def GZ:=gI (fun _ _=>true) fun i j=>.bool (decide (j≤i))
theorem Jn:hG K (yt fun i j=>.bl (decide (i < j))) wz:=kf fun _ _ _=>fM.mpr rfl
theorem Jd:hG K (yt fun i j=>.bl (decide (j < i))) BJ:=kf fun _ _ _=>fM.mpr rfl
theorem Jc:hG K (yt fun i j=>.bl (decide (j≤i))) GZ:=kf fun _ _ _=>fM.mpr rfl
def FP(K:⇑0)(neg:Bool):R2:=fun x y H Q=>∃a b,DA K H a x∧DA K H b y∧Oh a=true∧Oh b=true∧Q (.bl (if neg then !PyData.eqv a b else Ph a b)) H
theorem E'{k:Nat}(hr:dI k X.A):hV X (NU .Eq) (FP X.K false):=by
  intro pins s σ H x y v u Q I rx ry h
  obtain⟨a,b,ha,hb,s1,s2,q⟩:=h
  obtain⟨as,ra⟩:=DA.reads I (RF s1) ha rx
  obtain⟨bs,rb⟩:=DA.reads I (RF s2) hb ry
  exact SeqAt.compareEq_shaped ra rb s1 s2 hr.units ⟨.bl _,H,I,rfl,q⟩
theorem Fg{k:Nat}(hr:dI k X.A):hV X (NU .NotEq) (FP X.K true):=by
  intro pins s σ H x y v u Q I rx ry h
  obtain⟨a,b,ha,hb,s1,s2,q⟩:=h
  obtain⟨as,ra⟩:=DA.reads I (RF s1) ha rx
  obtain⟨bs,rb⟩:=DA.reads I (RF s2) hb ry
  exact SeqAt.compareNe_shaped ra rb s1 s2 hr.units ⟨.bl _,H,I,rfl,q⟩
def cG(neg:Bool):En→Rv→Rv→Option Rv:=fun e x y=>(jb e x).bind fun a=>(jb e y).bind fun b=>if (Oh a&&Oh b)=true then some (.d (.bool (if neg then !PyData.eqv a b else Ph a b))) else none
theorem DR{neg:Bool}:hG K (FP K neg) (cG neg):=by
  intro σ H0 F H e x y z v u Q R A B hg q
  unfold cG at hg
  obtain⟨a,h1,hg⟩:=MP hg
  obtain⟨b,h2,hg⟩:=MP hg
  split at hg
  case isFalse=>cases hg
  case isTrue hl=>
  cases hg
  rw [NP] at hl
  exact⟨a,b,jc R A h1,jc R B h2,hl.1,hl.2,q F H _ (e_.refl _ _ _ _) R gN⟩
def HH(K:⇑0)(neg:Bool):R2:=fun x y H Q=>∃a xs,DA K H a x∧(DA K H (.list xs) y∨DA K H (.tuple xs) y)∧a.canLay0=true∧a.depth≤60∧OS xs=true∧Q (.bl (if neg then !(xs.any fun y=>Ph y a) else xs.any fun y=>Ph y a)) H
theorem Fb{k:Nat}(hr:dI k X.A):hV X (NU .In) (HH X.K false):=by
  intro pins s σ H x y v u Q I rx ry h
  obtain⟨a,xs,ha,hb,s1,s2,s3,q⟩:=h
  obtain⟨as,ra⟩:=DA.reads I s1 ha rx
  have hu:=hr.units
  rcases hb with hb | hb
  · obtain⟨bs,rb⟩:=DA.reads I (by simpa [OB] using s3) hb ry
    exact PySem.SeqAt.in_list_reads rb ra s3 s1 ↥0 ⟨.bl _,H,I,rfl,q⟩
  · obtain⟨bs,rb⟩:=DA.reads I (by simpa [OB] using s3) hb ry
    exact PySem.SeqAt.in_tuple_reads rb ra s3 s1 ↥0 ⟨.bl _,H,I,rfl,q⟩
def B1(neg:Bool):En→Rv→Rv→Option Rv:=fun e x y=>(jb e x).bind fun a=>(eX e y).bind fun p=>if (a.canLay0&&decide (a.depth≤60)&&OS p.2)=true then some (.d (.bool (if neg then !(p.2.any fun y=>Ph y a) else p.2.any fun y=>Ph y a))) else none
theorem Ji{neg:Bool}:hG K (HH K neg) (B1 neg):=by
  intro σ H0 F H e x y z v u Q R A B hg q
  unfold B1 at hg
  obtain⟨a,h1,hg⟩:=MP hg
  obtain⟨⟨b,xs⟩,h2,hg⟩:=MP hg
  split at hg
  case isFalse=>cases hg
  case isTrue hl=>
  cases hg
  rw [NP,NP,decide_eq_true_iff] at hl
  obtain⟨p,vs,rfl,d1,s1⟩:=dw R B h2
  refine⟨a,xs,jc R A h1,?_,hl.1.1,hl.1.2,hl.2,q F H _ (e_.refl _ _ _ _) R gN⟩
  cases b with
  | true=>exact .inl (d9.mpr ⟨p,vs,rfl,s1,d1.mono R.sm⟩)
  | false=>exact .inr (cq.mpr ⟨p,vs,rfl,s1,d1.mono R.sm⟩)
def rR:MY→Bool
  | .none=>true
  | _=>false
theorem qf{F:Hp}{d:MY}{v:V}(h:DA K F d v):decide (v=.non)=rR d:=by
  cases d with
  | none=>rw [jy.mp h];rfl
  | bool b=>rw [fM.mp h];rfl
  | int b=>rw [cm.mp h];rfl
  | str b=>rw [zg.mp h];rfl
  | tuple b=>obtain⟨a,_,e,_⟩:=cq.mp h;rw [e];rfl
  | list b=>obtain⟨a,_,e,_⟩:=d9.mp h;rw [e];rfl
  | dict b=>simp only [DA] at h;obtain⟨a,m,rfl,_⟩:=h;rfl
def xT(neg:Bool):En→Rv→Rv→Option Rv:=fun e x y=>(jb e x).bind fun a=>match y with
  | .d .none=>some (.d (.bool (if neg then !rR a else rR a)))
  | _=>none
def xS(neg:Bool):En→Rv→Rv→Option Rv:=fun e x y=>(gh x).bind fun a=>(gh y).bind fun b=>some (.d (.bool (if neg then !(a==b) else a==b)))
theorem G':hG K (fun x y H Q=>y=.non∧Q (.bl (decide (x=.non))) H) (xT false):=by
  intro σ H0 F H e x y z v u Q R A B hg q
  unfold xT at hg
  obtain⟨a,h1,hg⟩:=MP hg
  split at hg
  · cases hg
    refine⟨jy.mp (show DA K F .none u from B),?_⟩
    rw [qf (jc R A h1)]
    exact q F H _ (e_.refl _ _ _ _) R gN
  · cases hg
theorem EZ:hG K (fun x y H Q=>y=.non∧Q (.bl (!decide (x=.non))) H) (xT true):=by
  intro σ H0 F H e x y z v u Q R A B hg q
  unfold xT at hg
  obtain⟨a,h1,hg⟩:=MP hg
  split at hg
  · cases hg
    refine⟨jy.mp (show DA K F .none u from B),?_⟩
    rw [qf (jc R A h1)]
    exact q F H _ (e_.refl _ _ _ _) R gN
  · cases hg
theorem G_:hG K (fun x y H Q=>∃b c,x=.bl b∧y=.bl c∧Q (.bl (b==c)) H) (xS false):=by
  intro σ H0 F H e x y z v u Q R A B hg q
  unfold xS at hg
  obtain⟨a,h1,hg⟩:=MP hg
  obtain⟨b,h2,hg⟩:=MP hg
  cases hg
  exact⟨a,b,eJ A h1,eJ B h2,q F H _ (e_.refl _ _ _ _) R gN⟩
theorem zR:hG K (fun x y H Q=>∃b c,x=.bl b∧y=.bl c∧Q (.bl (!(b==c))) H) (xS true):=by
  intro σ H0 F H e x y z v u Q R A B hg q
  unfold xS at hg
  obtain⟨a,h1,hg⟩:=MP hg
  obtain⟨b,h2,hg⟩:=MP hg
  cases hg
  exact⟨a,b,eJ A h1,eJ B h2,q F H _ (e_.refl _ _ _ _) R gN⟩
def G0:En→Rv→Rv→Option Rv:=zK (xT false) (xS false)
def nU:En→Rv→Rv→Option Rv:=zK (xT true) (xS true)
def HI:R2:=fun x y H Q=>(y=.non∧Q (.bl (decide (x=.non))) H)∨∃b c,x=.bl b∧y=.bl c∧Q (.bl (b==c)) H
def wX:R2:=fun x y H Q=>(y=.non∧Q (.bl (!decide (x=.non))) H)∨∃b c,x=.bl b∧y=.bl c∧Q (.bl (!(b==c))) H
theorem Fc:hV X (NU .Is) HI:=Fe.or Fd
theorem yi:hV X (NU .IsNot) wX:=CC.or yj
theorem Jj:hG K HI G0:=hG.or G' G_
theorem B5:hG K wX nU:=hG.or EZ zR
def a8:En→Rv→Rv→Option Rv:=fun e x y=>(eX e x).bind fun p=>(cg y).bind fun i=>(atI p.2 i).map .d
def HJ(K:⇑0):R2:=fun x y H Q=>FQ K x y H Q∨HK K x y H Q
theorem Jk:BH X (HJ X.K):=wH.or EH
theorem aT.atI{F:Hp}{ds:List MY}{vs:List V}(h:aT K F ds vs){i:Int}{d:MY}(q:atI ds i=some d):∃v,L2.atI vs i=some v∧DA K F d v:=by
  unfold L2.atI at q ⊢
  obtain⟨j,h1,h2⟩:=MP q
  obtain⟨v,h3,h4⟩:=h.get h2
  exact⟨v,by rw [←h.len,h1];exact h3,h4⟩
theorem Jl:hG K (HJ K) a8:=by
  intro σ H0 F H e x y z v u Q R A B hg q
  unfold a8 at hg
  obtain⟨⟨b,xs⟩,h1,hg⟩:=MP hg
  obtain⟨i,h2,hg⟩:=MP hg
  obtain⟨d,h3,hg⟩:=MQ hg
  cases hg
  obtain⟨p,vs,rfl,d1,s1⟩:=dw R A h1
  obtain⟨w,h4,h5⟩:=d1.atI h3
  have fin:=q F H w (e_.refl _ _ _ _) R h5
  cases b with
  | true=>exact .inl ⟨p,vs,i,w,rfl,bz B h2,s1,h4,fin⟩
  | false=>exact .inr ⟨p,vs,i,w,rfl,bz B h2,s1,h4,fin⟩
end
end L2
namespace HT
open PySem PySem.Spec PyProof.Rows
section
variable{prog:Nk}{w:Ng}{A:Nn}{E:MX→MZ→Prop}{s:MZ}
theorem getItem_tuple_all{t sl:MW}{items:Array MX}{vl vu:MX}{lo hi:Option Int}{Q:MX→MZ→Prop}(ht:IsTup s.heap t items)(hs:s.heap.IsSliceOf sl vl vu .none)(pl:IsPart vl lo)(pu:IsPart vu hi)
    (hw:sIx items.size 0 lo=0∧sIx items.size items.size hi=items.size)
    (h:Q (.ref t) s):Nf (Ni prog w) A (getItem (.ref t) (.ref sl)) Q E s:=by
  obtain⟨os,hos,hcs,hds⟩:=id hs
  have hTs:s.TypeIs (.ref sl) "slice":=⟨os,hos,hcs⟩
  unfold getItem
  try with_reducible refine Pm ?_
  first | refine Nc (Nm ?_) | skip
  refine Nc (wpAny_sequenceKey ht.typeIs ⋯ ?_)
  refine Nc (PX (name:=On "__getitem__") ht.typeIs Pq
    (PB Pq ht.typeIs entry_tuple_getitem ?_ (args_tuple_getitem _ _)))
  show Nf _ _ (RW (.ref t) >>= _) _ _ s
  refine Nc (tupleItemsOf_ ht ?_)
  refine Nc (wpAny_typeOf hTs ?_)
  rw [if_pos ⋯]
  refine Nc (iz hs pl pu ?_)
  have hno:(((sIx items.size 0 lo:Nat):Int)==0&&(1:Int)==1&&(sIx items.size items.size hi - sIx items.size 0 lo)==items.size)=true:=by
    rw [hw.1,hw.2];simp
  show Nf _ _ (if (((sIx items.size 0 lo:Nat):Int)==0&&(1:Int)==1&&(sIx items.size items.size hi - sIx items.size 0 lo)==items.size)=true then _ else _) _ _ s
  rw [if_pos hno]
  unfold Builtin.Tuple.tupleIsExact
  refine Nc (Nc (wpAny_typeOf ht.typeIs (Nm ?_)))
  rw [if_pos ⋯]
  exact Nc (wpAny_rule (Nm ⟨_,rfl,Nm h⟩))
end
end HT
namespace L2
open PySem PySem.Spec PyProof.Rows
section
variable{X:Cx}{K:⇑0}{a:Na}{fa:FE}{lo hi:Option Na}{pos p2:Pos}
def cutD(xs:List MY)(lo hi:Option Int):List MY:=(xs.drop (HT.sIx xs.length 0 lo)).take (HT.sIx xs.length xs.length hi - HT.sIx xs.length 0 lo)
def HP(K:⇑0):V→Option Int→Option Int→Hp→VK→Prop:=fun x lo hi H Q=>∃a xs,x=.ref a∧dz K H a xs∧
  (HT.sIx xs.length 0 lo=0∧HT.sIx xs.length xs.length hi=xs.length)∧Q (.ref a) H
theorem Df:BO X (HP X.K):=by
  intro pins s σ H x v vl vu lo hi sl Q I rx hs pl pu h
  obtain⟨a,xs,rfl,hx,hw,q⟩:=h
  cases rx
  obtain⟨its,r,ht,hz⟩:=I.tuple hx
  have hlen:its.toArray.size=xs.length:=by rw [NA];exact r.length.symm
  refine⟨"tuple",_,Pq.lookup,ht.typeIs,?_⟩
  exact HT.getItem_tuple_all ht hs pl pu (by rw [hlen];exact hw) ⟨.ref a,H,I,rfl,q⟩
def Js(K:⇑0):V→Option Int→Option Int→Hp→VK→Prop:=fun x lo hi H Q=>HN K x lo hi H Q∨(HP K x lo hi H Q∨HM K x lo hi H Q)
theorem Jt:BO X (Js X.K):=F8.or (Df.or De)
abbrev FO:=En→Option (Option Int × En)
def fO(K:⇑0)(f:FO):TO:=fun σ H Q=>∃F e o e',bc K F H σ e∧f e=some (o,e')∧∀F' H',e_ σ F H e F' H' e'→bc K F' H' σ e'→Q o H'
theorem PO.mono{e:Option Na}{t t':TO}(h:PO X e t)(m:∀σ H Q,t' σ H Q→t σ H Q):PO X e t':=fun pins s σ H Q I q=>h pins s σ H Q I (m σ H Q q)
def eI:FO:=fun e=>some (none,e)
def dO(f:FE):FO:=fun e=>(f e).bind fun p=>(cg p.1).map fun i=>(some i,p.2)
theorem eG:PO X none (fO K eI):=CU.mono fun σ H Q h=>by
  obtain⟨F,e,o,e',R,hf,q⟩:=h
  cases hf
  exact q F H (e_.refl _ _ _ _) R
theorem du(h:PE X a (fE K fa)):PO X (some a) (fO K (dO fa)):=(CV h).mono fun σ H Q h=>by
  obtain⟨F,e,o,e',R,hf,q⟩:=h
  unfold dO at hf
  obtain⟨⟨x,e1⟩,h1,hf⟩:=MP hf
  obtain⟨i,h2,hf⟩:=MQ hf
  cases hf
  exact⟨F,e,x,_,R,h1,fun F1 H1 v X1 R1 A1=>⟨i,bz A1 h2,q F1 H1 X1 R1⟩⟩
def Ja(e:En)(x:Rv)(lo hi:Option Int):Option Rv:=(eX e x).map fun p=>if p.1=true then .l (cutD p.2 lo hi) else .d (.tuple (cutD p.2 lo hi))
def pZ(fa:FE)(fl fh:FO):FE:=fun e=>(fa e).bind fun p=>(fl p.2).bind fun l=>(fh l.2).bind fun h=>(Ja h.2 p.1 l.1 h.1).map fun z=>(z,h.2)
theorem zc{F:Hp}{ds:List MY}{vs:List V}(h:aT K F ds vs)(lo hi:Option Int):aT K F (cutD ds lo hi) (pR vs lo hi):=by
  unfold cutD pR
  rw [h.len]
  exact(h.drop _).take _
theorem BV{α:Type}{xs:List α}{lo hi:Option Int}(h:HT.sIx xs.length 0 lo=0∧HT.sIx xs.length xs.length hi=xs.length):(xs.drop (HT.sIx xs.length 0 lo)).take (HT.sIx xs.length xs.length hi - HT.sIx xs.length 0 lo)=xs:=by
  rw [h.1,h.2];simp
theorem AY{fl fh:FO}(he:PE X a (fE X.K fa))(hl:PO X lo (fO X.K fl))(hh:PO X hi (fO X.K fh)):PE X (.Subscript a (.Slice lo hi none p2) pos) (fE X.K (pZ fa fl fh)):=(AC Jt he hl hh).mono fun σ H Q h=>by
  obtain⟨F,e,z,e',R,hf,q⟩:=h
  unfold pZ at hf
  obtain⟨⟨x,e1⟩,h1,hf⟩:=MP hf
  obtain⟨⟨l,e2⟩,h2,hf⟩:=MP hf
  obtain⟨⟨u,e3⟩,h3,hf⟩:=MP hf
  obtain⟨z',h4,hf⟩:=MQ hf
  cases hf
  refine⟨F,e,x,e1,R,h1,fun F1 H1 v X1 R1 A1=>⟨F1,e1,l,e2,R1,h2,fun F2 H2 X2 R2=>⟨F2,e2,u,_,R2,h3,fun F3 H3 X3 R3=>?_⟩⟩⟩
  have X12:=X1.trans X2
  have X13:=X12.trans X3
  have A3:=(A1.ext X2).ext X3
  unfold Ja at h4
  obtain⟨⟨b,xs⟩,h5,h4⟩:=MQ h4
  obtain⟨p,vs,rfl,d1,s1⟩:=dw R3 A3 h5
  cases b with
  | true=>
    rw [if_pos rfl] at h4;cases h4
    refine .inr (.inr ⟨p,vs,rfl,s1,fun t ht=>?_⟩)
    obtain⟨R4,X4,hF,no⟩:=R3.newL (vs:=pR vs l u) ht
    exact q _ _ _ (X13.trans X4) R4 ⟨t,_,rfl,X13.dom _ ht,hF,ay,zc d1 l u,no⟩
  | false=>
    rw [if_neg ↥1] at h4;cases h4
    by_cases hw:HT.sIx vs.length 0 l=0∧HT.sIx vs.length vs.length u=vs.length
    · refine .inr (.inl ⟨p,vs,rfl,s1,hw,?_⟩)
      have e5:cutD xs l u=xs:=by unfold cutD;exact BV (by rw [d1.len];exact hw)
      rw [e5] at q
      obtain⟨F4,R4,X4,hF⟩:=R3.growT (aG.refl _) s1
      exact q _ _ _ (X13.trans X4) R4 (cq.mpr ⟨p,vs,rfl,hF,d1.mono X4.sf⟩)
    · refine .inl ⟨p,vs,rfl,s1,hw,fun t ht=>?_⟩
      obtain⟨R4,X4⟩:=R3.newT (vs:=pR vs l u) ht
      exact q _ _ _ (X13.trans X4) R4 (cq.mpr ⟨t,_,rfl,.inl (.inl ay),(zc d1 l u).mono X4.sf⟩)
end
section
variable{X:Cx}{K:⇑0}
theorem jK{σ:L2.St}{H0 F H:Hp}{e:En}{x:Rv}{vs:List V}(h:d_ K σ H0 F H e [x] vs):∃v,vs=[v]∧cP K σ H0 F H e x v:=by
  obtain⟨v,ws,rfl,h1,h2⟩:=h
  have h2':ws=[]:=h2
  subst h2'
  exact⟨v,rfl,h1⟩
theorem jL{σ:L2.St}{H0 F H:Hp}{e:En}{x y:Rv}{vs:List V}(h:d_ K σ H0 F H e [x,y] vs):∃v u,vs=[v,u]∧cP K σ H0 F H e x v∧cP K σ H0 F H e y u:=by
  obtain⟨v,ws,rfl,h1,h2⟩:=h
  obtain⟨u,rfl,h3⟩:=jK h2
  exact⟨v,u,rfl,h1,h3⟩
def g1(g:En→Rv→Option Rv):En→List Rv→Option Rv:=fun e xs=>match xs with
  | [x]=>g e x
  | _=>none
def g2(g:En→Rv→Rv→Option Rv):En→List Rv→Option Rv:=fun e xs=>match xs with
  | [x,y]=>g e x y
  | _=>none
theorem iH{r:List V→Hp→VK→Prop}{g:En→Rv→Option Rv}(h:IB K (fun v H Q=>r [v] H Q) g):fH K r (g1 g):=by
  intro σ H0 F H e xs z vs Q R A hg q
  unfold g1 at hg
  match xs,hg with
  | [x],hg=>
    obtain⟨v,rfl,h1⟩:=jK A
    exact h σ H0 F H e x z v Q R h1 hg q
theorem we{r:List V→Hp→VK→Prop}{g:En→Rv→Rv→Option Rv}(h:hG K (fun v u H Q=>r [v,u] H Q) g):fH K r (g2 g):=by
  intro σ H0 F H e xs z vs Q R A hg q
  unfold g2 at hg
  match xs,hg with
  | [x,y],hg=>
    obtain⟨v,u,rfl,h1,h2⟩:=jL A
    exact h σ H0 F H e x y z v u Q R h1 h2 hg q
def cY:En→Rv→Option Rv:=fun e x=>(eX e x).map fun p=>.d (.int p.2.length)
theorem Hc:fH K (fun xs H Q=>∃p ys,xs=[.ref p]∧(gC K H p ys∨dz K H p ys)∧Q (.int ys.length) H) (g1 cY):=iH fun σ H0 F H e x z v Q R A hg q=>by
  obtain⟨⟨b,xs⟩,h5,h4⟩:=MQ hg
  obtain⟨p,vs,rfl,d1,s1⟩:=dw R A h5
  cases h4
  refine⟨p,vs,rfl,?_,?_⟩
  · cases b with
    | true=>exact .inl s1
    | false=>exact .inr s1
  · rw [←d1.len]
    exact q F H _ (e_.refl _ _ _ _) R o6
def vd:En→Rv→Option Rv:=fun _ x=>(cg x).map fun i=>.d (.int (if i < 0 then -i else i))
theorem GN:fH K (fun xs H Q=>∃i,xs=[.int i]∧Q (.int (if i < 0 then -i else i)) H) (g1 vd):=iH fun σ H0 F H e x z v Q R A hg q=>by
  obtain⟨i,h5,h4⟩:=MQ hg
  cases h4
  exact⟨i,by rw [bz A h5],q F H _ (e_.refl _ _ _ _) R o6⟩
def pS:En→Rv→Option Rv:=fun _ x=>match x with
  | .d (.int i)=>some (.d (.int i))
  | .d (.bool k)=>some (.d (.int (if k then 1 else 0)))
  | _=>none
theorem G9:fH K (fun xs H Q=>(∃i,xs=[.int i]∧Q (.int i) H)∨∃k,xs=[.bl k]∧Q (.int (if k then 1 else 0)) H) (g1 pS):=iH fun σ H0 F H e x z v Q R A hg q=>by
  unfold pS at hg
  split at hg
  · cases hg
    exact .inl ⟨_,by rw [cm.mp (show DA K F (.int _) v from A)],q F H _ (e_.refl _ _ _ _) R o6⟩
  · cases hg
    exact .inr ⟨_,by rw [fM.mp (show DA K F (.bool _) v from A)],q F H _ (e_.refl _ _ _ _) R o6⟩
  · cases hg
def rL:=gI (fun _ _=>true) fun i j=>.int (if j < i then j else i)
def tO:=gI (fun _ _=>true) fun i j=>.int (if j > i then j else i)
theorem Hi:fH K (fun xs H Q=>∃i j,xs=[.int i,.int j]∧Q (.int (if j < i then j else i)) H) (g2 rL):=we fun σ H0 F H e x y z v u Q R A B hg q=>by
  obtain⟨i,j,h1,h2,h3⟩:=kf (K:=K) (g:=fun i j=>.int (if j < i then j else i)) (fun _ _ _=>cm.mpr rfl) σ H0 F H e x y z v u Q R A B hg q
  exact⟨i,j,by rw [h1,h2],h3⟩
theorem Hg:fH K (fun xs H Q=>∃i j,xs=[.int i,.int j]∧Q (.int (if j > i then j else i)) H) (g2 tO):=we fun σ H0 F H e x y z v u Q R A B hg q=>by
  obtain⟨i,j,h1,h2,h3⟩:=kf (K:=K) (g:=fun i j=>.int (if j > i then j else i)) (fun _ _ _=>cm.mpr rfl) σ H0 F H e x y z v u Q R A B hg q
  exact⟨i,j,by rw [h1,h2],h3⟩
def cZ:En→Rv→Option Rv:=fun e x=>(eX e x).map fun p=>.d (.tuple p.2)
theorem Dr:fH K (fun xs H Q=>∃p ys,xs=[.ref p]∧((gC K H p ys∧∀l,H l=none→Q (.ref l) (bC H l (.tup ys)))∨(dz K H p ys∧Q (.ref p) H))) (g1 cZ):=iH fun σ H0 F H e x z v Q R A hg q=>by
  obtain⟨⟨b,xs⟩,h5,h4⟩:=MQ hg
  obtain⟨p,vs,rfl,d1,s1⟩:=dw R A h5
  cases h4
  refine⟨p,vs,rfl,?_⟩
  cases b with
  | true=>
    refine .inl ⟨s1,fun t ht=>?_⟩
    obtain⟨R4,X4⟩:=R.newT (vs:=vs) ht
    exact q _ _ _ X4 R4 (cq.mpr ⟨t,_,rfl,.inl (.inl ay),d1.mono X4.sf⟩)
  | false=>
    obtain⟨F4,R4,X4,hF⟩:=R.growT (aG.refl _) s1
    exact .inr ⟨s1,q _ _ _ X4 R4 (cq.mpr ⟨p,vs,rfl,hF,d1.mono X4.sf⟩)⟩
def je:En→Rv→Option Rv:=fun e x=>(eX e x).map fun p=>.l p.2
theorem ET:fH K (fun xs H Q=>∃p ys,xs=[.ref p]∧(gC K H p ys∨dz K H p ys)∧∀l,H l=none→Q (.ref l) (bC H l (.lst ys))) (g1 je):=iH fun σ H0 F H e x z v Q R A hg q=>by
  obtain⟨⟨b,xs⟩,h5,h4⟩:=MQ hg
  obtain⟨p,vs,rfl,d1,s1⟩:=dw R A h5
  cases h4
  refine⟨p,vs,rfl,?_,fun t ht=>?_⟩
  · cases b with
    | true=>exact .inl s1
    | false=>exact .inr s1
  · obtain⟨R4,X4,hF,no⟩:=R.newL (vs:=vs) ht
    exact q _ _ _ X4 R4 ⟨t,_,rfl,ht,hF,ay,d1,no⟩
def qi:List MY→Option (List Int)
  | []=>some []
  | .int i::r=>(qi r).map (i::·)
  | _=>none
theorem tS:∀{ds:List MY} {ns:List Int},qi ds=some ns→ds=ns.map .int
  | [],_,h=>by cases h;rfl
  | .int i::r,_,h=>by
    obtain⟨ns,h1,rfl⟩:=MQ h
    rw [tS h1];rfl
theorem qj:∀(ns:List Int),qi (ns.map .int)=some ns
  | []=>rfl
  | i::r=>by simp [qi,qj r]
mutual
def ku:MY→Bool
  | .tuple ds=>jD ds
  | .list _=>false
  | .dict _=>false
  | _=>true
def jD:List MY→Bool
  | []=>true
  | d::r=>ku d&&jD r
end
mutual
def kd:MY→Bool
  | .list _=>false
  | .tuple ds=>kU ds
  | _=>true
def kU:List MY→Bool
  | []=>true
  | d::r=>kd d&&kU r
end
theorem oU{X:Cx}{pins:List (MW × Obj)}{σ:L2.St}{H:Hp}{s:MZ}(I:aI X pins σ H s):∀{m:List (Int × lD)} {es:List DictEntry} {vs:List (fx × MX)} {P:Nk} {w:Ng},(∀p∈m,p.2.ok X.K H)→KV (m.map fun p=>((Sum.inl p.1:fx),p.2.toV)) vs→Pairs (ci P w) es vs→
    ReadsAll s.heap (es.map (·.key)) (m.map fun p=>PyData.int p.1) []∧ReadsAll s.heap (es.map (·.val)) (m.map fun p=>p.2.toD) []
  | [],es,vs,P,w,_,r,q=>by
    cases r
    cases q
    exact⟨.nil,.nil⟩
  | p::m,es,vs,P,w,ok,r,q=>by
    rw [Nx] at r
    cases r with
    | @cons a b as bs h1 t=>
      cases q with
      | @cons e kv es' kvs' h2 h3 h4=>
        obtain⟨z1,z2⟩:=h1
        obtain⟨c1,c2⟩:=oU I (fun p hp=>ok p (NT _ hp)) t h4
        have k1:oy (Sum.inl p.1) e.key=true:=by
          have:b.1=Sum.inl p.1:=z1.symm
          rw [←this];exact h2
        rcases bT k1 with ⟨i,t',e1,e2⟩ | ⟨x,t',e1,e2⟩
        · cases e1
          refine⟨?_,?_⟩
          · simp only [Nx,e2]
            exact ReadsAll.cons (as:=[]) (bs:=[]) (.int p.1 t') c1
          · simp only [Nx,h3]
            refine ReadsAll.cons (as:=[]) (bs:=[]) ?_ c2
            have ok0:=ok p (Pj ..)
            obtain⟨k,at_⟩:=p
            cases at_ with
            | vp a x y=>
              rw [show b.2=Value.ref a from z2]
              obtain⟨its,rv,⟨o,ho,hc,n,hd⟩,hz⟩:=I.tuple (show dz X.K H a _ from ok0)
              match its,rv,hd with
              | _,.cons r1 (.cons r2 .nil),hd=>
                obtain⟨t1,rfl⟩:=r1
                obtain⟨t2,rfl⟩:=r2
                exact .tuple ho hc hd (ReadsAll.cons (as:=[]) (bs:=[]) (.int _ _) (ReadsAll.cons (as:=[]) (bs:=[]) (.int _ _) .nil))
            | vi n=>obtain⟨tk,z2⟩:=z2;rw [z2];exact .int n tk
            | vb x=>rw [show b.2=Value.bool x from z2];exact .bool x
            | vn=>rw [show b.2=Value.none from z2];exact .none
        · cases e1
mutual
theorem DA.readsR{X:Cx}{pins:List (MW × Obj)}{σ:L2.St}{H:Hp}{s:MZ}(I:aI X pins σ H s):∀{d:MY} {v:V} {u:MX},DA X.K H d v→bv v u→∃as,Reads s.heap u d as∧(kd d=true→OI∉as)
  | .none,_,_,q,r=>by
    simp only [DA] at q;subst q;cases r;exact⟨_,.none,fun _=>by simp⟩
  | .bool b,_,_,q,r=>by
    simp only [DA] at q;subst q;cases r;exact⟨_,.bool b,fun _=>by simp⟩
  | .int i,_,_,q,r=>by
    simp only [DA] at q;subst q;obtain⟨t,rfl⟩:=r;exact⟨_,.int i t,fun _=>by simp⟩
  | .str x,_,_,q,r=>by
    simp only [DA] at q;subst q;obtain⟨t,rfl⟩:=r;exact⟨_,.str x t,fun _=>by simp⟩
  | .tuple ds,_,_,q,r=>by
    simp only [DA] at q
    obtain⟨a,xs,e,hs,rr⟩:=q
    subst e;cases r
    obtain⟨its,rv,⟨o,ho,hc,n,hd⟩,hz⟩:=I.tuple hs
    obtain⟨as,q,z⟩:=aT.readsR I rr rv
    exact⟨_,.tuple ho hc hd q,fun c=>z (by simpa [kd] using c)⟩
  | .list ds,_,_,q,r=>by
    simp only [DA] at q
    obtain⟨a,xs,e,hs,rr⟩:=q
    subst e;cases r
    obtain⟨its,rv,ht,hz⟩:=I.list hs
    obtain⟨o,ho,hc,n,hd⟩:=ht.isList
    obtain⟨as,q,z⟩:=aT.readsR I rr rv
    exact⟨_,.list ho hc hd q,fun c=>by simp [kd] at c⟩
  | .dict kvs,_,_,q,r=>by
    simp only [DA] at q
    obtain⟨a,m,e,hs,rfl,ok⟩:=q
    subst e;cases r
    obtain⟨_,hS,vs,kv,o,es,ep,ho,hx,hd,_,hp,_⟩:=(show dy X.prog X.w H s.heap a (.dK (m.map fun p=>(Sum.inl p.1,p.2.toV))) from I.hok a _ hs)
    obtain⟨c1,c2⟩:=oU I ok kv hp
    refine⟨_,Reads.dict (as:=[]) (bs:=[]) ho hx.1 hd ?_ ?_,fun _=>?_⟩
    · rw [Os];exact c1
    · rw [Os];exact c2
    · have:a≠OI:=by simpa using hS
      simpa using this.symm
theorem aT.readsR{X:Cx}{pins:List (MW × Obj)}{σ:L2.St}{H:Hp}{s:MZ}(I:aI X pins σ H s):∀{ds:List MY} {xs:List V} {us:List MX},aT X.K H ds xs→aR xs us→∃as,ReadsAll s.heap us ds as∧(kU ds=true→OI∉as)
  | [],_,_,q,r=>by
    simp only [aT] at q;subst q;cases r;exact⟨_,.nil,fun _=>by simp⟩
  | d::ds,_,_,q,r=>by
    simp only [aT] at q
    obtain⟨x,rr,e,a,b⟩:=q
    subst e
    cases r with
    | cons p p'=>
      obtain⟨as,q1,z1⟩:=DA.readsR I a p
      obtain⟨bs,q2,z2⟩:=aT.readsR I b p'
      refine⟨_,.cons q1 q2,fun c=>?_⟩
      simp only [kU,NP] at c
      intro z
      rcases MS z with z | z
      · exact z1 c.1 z
      · exact z2 c.2 z
end
def lp(d:MY):Bool:=(ku d || (!d.hasDict || kd d))&&d.showable&&decide (d.depth≤60)&&decide (d.shown.length≤Nr)
def mD:En→Rv→Option Rv:=fun _ x=>match x with
  | .d d=>if lp d=true then some (.d (.str d.shown)) else none
  | _=>none
def A8(K:⇑0):List V→Hp→VK→Prop:=fun xs H Q=>∃x d,xs=[x]∧DA K H d x∧(d.hasDict=true→kd d=true)∧d.showable=true∧d.depth≤60∧d.shown.length≤Nr∧Q (.str d.shown) H
mutual
theorem mB:∀(d:MY),ku d=true→d.hasDict=false
  | .none,_=>rfl
  | .bool _,_=>rfl
  | .int _,_=>rfl
  | .str _,_=>rfl
  | .tuple ds,h=>by simp only [PyData.hasDict];exact ky ds (by simpa [ku] using h)
  | .list ds,h=>by simp [ku] at h
  | .dict _,h=>by simp [ku] at h
theorem ky:∀(ds:List MY),jD ds=true→PyData.hasDictAll ds=false
  | [],_=>rfl
  | d::r,h=>by
    simp only [jD,NP] at h
    simp only [PyData.hasDictAll,mB d h.1,ky r h.2,Bool.or_self]
end
theorem uW{X:Cx}{k:Nat}(hr:dI k X.A):fZ X (.builtin "repr") (A8 X.K):=by
  intro pins s σ H xs us Q I r h
  obtain⟨x,d,rfl,ha,hdl,hsh,hdp,hsz,q⟩:=h
  obtain⟨u,rfl,ru⟩:∃u,us=[u]∧bv x u:=by
    cases r with
    | cons p p'=>cases p';exact⟨_,rfl,p⟩
  have hun:=hr.un
  obtain⟨as,rd,hm⟩:=DA.readsR I ha ru
  have fin:∀a,u=.ref a→Nf (Ni X.prog X.w) X.A (call (.builtin "repr") [u]) (EP X pins σ Q) X.xe s:=fun a e=>by
    subst e
    exact repr_of_reads' rd hsh (fun z=>hm (hdl z)) hr.gd ↥0 (fun _ _ e=>e) (fun h' u tk hk=>⟨.str _,H,I.kept hk,⟨_,rfl⟩,q⟩) hsz
  cases d with
  | none=>simp only [DA] at ha;subst ha;cases ru;exact P.repr_of_none ⟨.str _,H,I.tok _,⟨_,rfl⟩,q⟩
  | bool b=>simp only [DA] at ha;subst ha;cases ru;exact P.repr_of_bool ⟨.str _,H,I.tok _,⟨_,rfl⟩,q⟩
  | int i=>
    simp only [DA] at ha;subst ha;obtain⟨t,rfl⟩:=ru
    simp only [PyData.showable,decide_eq_true_eq] at hsh
    exact P.repr_of_int hsh ⟨.str _,H,I.tok _,⟨_,rfl⟩,q⟩
  | str y=>simp only [DA] at ha;subst ha;obtain⟨t,rfl⟩:=ru;exact P.repr_of_str ⟨.str _,H,I.tok _,⟨_,rfl⟩,q⟩ hsz
  | list ds=>obtain⟨a,_,e,_⟩:=d9.mp ha;subst e;exact fin a ru
  | dict ds=>simp only [DA] at ha;obtain⟨a,_,e,_⟩:=ha;subst e;exact fin a ru
  | tuple ds=>obtain⟨a,_,e,_⟩:=cq.mp ha;subst e;exact fin a ru
theorem FY:fH K (A8 K) (g1 mD):=iH fun σ H0 F H e x z v Q R A hg q=>by
  unfold mD at hg
  split at hg
  case h_2=>cases hg
  case h_1 d=>
  split at hg
  case isFalse=>cases hg
  case isTrue hl=>
  cases hg
  unfold lp at hl
  rw [NP,NP,NP,decide_eq_true_iff,decide_eq_true_iff] at hl
  refine⟨v,d,rfl,DA.mono R.sm A,fun z=>?_,hl.1.1.2,hl.1.2,hl.2,q F H _ (e_.refl _ _ _ _) R ((zg (K:=K) (F:=F)).mpr rfl)⟩
  have c:=hl.1.1.1
  cases hf:ku d with
  | true=>rw [mB d hf] at z;cases z
  | false=>rw [hf,z] at c;simpa using c
end
section
variable{K:⇑0}{σ:L2.St}{H0 F H F' H':Hp}{e e':En}
theorem bc.upd1(R:bc K F H σ e){σ':L2.St}(i:Nat)(hl:σ'.length=e'.length)(hσ:∀j,j≠i→σ'[j]?=σ[j]?)(he:∀j,j≠i→e'[j]?=e[j]?)(sF:aG F F')(sm:aG F' H')(hf:∀j a,j≠i→Fp σ e H j a→F' a=none)
    (hh:∀j a o,j≠i→Fp σ e H j a→H a=some o→H' a=some o)(hd:∀x,e'[i]?=some (some (.d x))→∃v,σ'[i]?=some (some v)∧DA K F' x v)
    (ho:∀xs,e'[i]?=some (some (.l xs))→∃l vs,σ'[i]?=some (some (.ref l))∧F' l=none∧H' l=some (.lst vs)∧aT K F' xs vs)
    (hn:∀xss,e'[i]?=some (some (.n xss))→∃(l:MW) (bs:List MW),σ'[i]?=some (some (.ref l))∧F' l=none∧H' l=some (.lst (bs.map V.ref))∧bs.length=xss.length∧bs.Nodup∧l∉bs∧
      ∀(k:Nat) (b:MW) (ys:List MY),bs[k]?=some b→xss[k]?=some ys→F' b=none∧∃us,H' b=some (.lst us)∧aT K F' ys us)
    (hi:∀a j,j≠i→Fp σ' e' H' i a→¬Fp σ e H j a):bc K F' H' σ' e'∧∀j a,j≠i→(Fp σ' e' H' j a↔ Fp σ e H j a):=by
  have fs:∀j a,j≠i→(Fp σ' e' H' j a↔ Fp σ e H j a):=by
    intro j a hj
    have key:∀xss l,e[j]?=some (some (.n xss))→σ[j]?=some (some (.ref l))→H' l=H l:=fun xss l h1 h2=>by
      obtain⟨l',bs,g1,g2,g3,_⟩:=R.nst j xss h1
      rw [h2] at g1;cases g1
      rw [g3]
      exact hh j l _ hj (.inr ⟨xss,l,bs,h1,h2,g3,.inl rfl⟩) g3
    unfold Fp
    rw [he j hj,hσ j hj]
    constructor
    · rintro(h1 | ⟨xss,l,bs,h1,h2,h3,h4⟩)
      · exact .inl h1
      · exact .inr ⟨xss,l,bs,h1,h2,by rw [←key xss l h1 h2];exact h3,h4⟩
    · rintro(h1 | ⟨xss,l,bs,h1,h2,h3,h4⟩)
      · exact .inl h1
      · exact .inr ⟨xss,l,bs,h1,h2,by rw [key xss l h1 h2];exact h3,h4⟩
  refine⟨⟨sm,hl,fun j x q=>?_,fun j xs q=>?_,fun j xss q=>?_,fun j k a q1 q2=>?_⟩,fs⟩
  · by_cases z:j=i
    · subst z;exact hd x q
    · rw [he j z] at q
      obtain⟨v,h1,h2⟩:=R.dat j x q
      exact⟨v,by rw [hσ j z];exact h1,DA.mono sF h2⟩
  · by_cases z:j=i
    · subst z;exact ho xs q
    · rw [he j z] at q
      obtain⟨l,vs,h1,h2,h3,h4⟩:=R.own j xs q
      have o:Fp σ e H j l:=.inl ⟨xs,q,h1⟩
      exact⟨l,vs,by rw [hσ j z];exact h1,hf j l z o,hh j l _ z o h3,h4.mono sF⟩
  · by_cases z:j=i
    · subst z;exact hn xss q
    · rw [he j z] at q
      obtain⟨l,bs,h1,h2,h3,h4,h5,h6,h7⟩:=R.nst j xss q
      have o:Fp σ e H j l:=.inr ⟨xss,l,bs,q,h1,h3,.inl rfl⟩
      refine⟨l,bs,by rw [hσ j z];exact h1,hf j l z o,hh j l _ z o h3,h4,h5,h6,fun k b ys g1 g2=>?_⟩
      obtain⟨c1,us,c2,c3⟩:=h7 k b ys g1 g2
      have ob:Fp σ e H j b:=.inr ⟨xss,l,bs,q,h1,h3,.inr (MV g1)⟩
      exact⟨hf j b z ob,us,hh j b _ z ob c2,c3.mono sF⟩
  · by_cases zj:j=i
    · subst zj
      by_cases zk:k=j
      · exact zk.symm
      · exact absurd ((fs k a zk).mp q2) (hi a k zk q1)
    · by_cases zk:k=i
      · subst zk
        exact absurd ((fs j a zj).mp q1) (hi a j zj q2)
      · exact R.fp j k a ((fs j a zj).mp q1) ((fs k a zk).mp q2)
theorem bc.putL(R:bc K F H σ e){i:Nat}{xs ys:List MY}{l:MW}{vs:List V}(hi:e[i]?=some (some (.l xs)))(hl:σ[i]?=some (some (.ref l)))(hd:aT K F ys vs):
    bc K F (bC H l (.lst vs)) σ (e.set i (some (.l ys)))∧e_ σ F H e F (bC H l (.lst vs)) (e.set i (some (.l ys))):=by
  obtain⟨l',vs',h1,h2,h3,h4⟩:=R.own i xs hi
  rw [hl] at h1;cases h1
  have hlt:i < e.length:=(MR hi).1
  have fi:Fp σ e H i l:=.inl ⟨xs,hi,hl⟩
  have gi:(e.set i (some (Sv.l ys)))[i]?=some (some (.l ys)):=Oc hlt
  obtain⟨R',fs⟩:=R.upd1 (F':=F) (H':=bC H l (.lst vs)) (e':=e.set i (some (.l ys))) i (by rw [Pa];exact R.len) ↥4 (fun j hj=>NG (NF hj)) (aG.refl F)
    (fun b o q=>by
      have z:b≠l:=fun z=>by rw [z,h2] at q;cases q
      rw [aA z];exact R.sm b o q)
    (fun j a _ q=>(R.fpAt q).1)
    (fun j a o hj q ha=>by
      have z:a≠l:=fun z=>hj (R.fp j i a q (by rw [z];exact fi))
      rw [aA z];exact ha)
    (fun x q=>by rw [gi] at q;cases q) (fun zs q=>by rw [gi] at q;cases q;exact⟨l,vs,hl,h2,ay,hd⟩) (fun xss q=>by rw [gi] at q;cases q)
    (fun a j hj q q2=>by
      rcases q with ⟨zs,_,q⟩ | ⟨xss,_,_,q,_⟩
      · rw [hl] at q;cases q
        exact hj (R.fp j i _ q2 fi)
      · rw [gi] at q;cases q)
  refine⟨R',⟨aG.refl _,fun a q=>?_,fun _ _ q _ _=>q,fun a ws q=>?_,fun a o q n=>?_,fun j=>?_,fun a ⟨j,q⟩=>?_,fun _ _ q _ _=>q⟩⟩
  · by_cases z:a=l
    · rw [z,ay] at q;cases q
    · rw [aA z] at q;exact q
  · by_cases z:a=l
    · rw [z];exact⟨vs,ay⟩
    · rw [aA z];exact⟨ws,q⟩
  · have z:a≠l:=fun z=>n ⟨i,by rw [z];exact fi⟩
    rw [aA z];exact q
  · by_cases z:j=i
    · subst z;rw [gi];exact⟨fun _=>⟨xs,hi⟩,fun _=>⟨ys,rfl⟩⟩
    · rw [NG (NF z)]
  · by_cases z:j=i
    · subst z
      rcases q with ⟨zs,_,q⟩ | ⟨xss,_,_,q,_⟩
      · rw [hl] at q;cases q;exact .inl ⟨j,fi⟩
      · rw [gi] at q;cases q
    · exact .inl ⟨j,(fs j a z).mp q⟩
theorem bc.setD(R:bc K F H σ e)(i:Nat){x:MY}{v:V}(h:DA K F x v):bc K F H (σ.set i (some v)) (e.set i (some (.d x)))∧∀a,cN (σ.set i (some v)) (e.set i (some (.d x))) H a→cN σ e H a:=by
  have gi:∀s,(e.set i (some (Sv.d x)))[i]?=some (some s)→s=.d x∧i < e.length:=fun s q=>by
    have hlt:i < e.length:=by have:=(MR q).1;simpa using this
    rw [Oc hlt] at q
    exact⟨(NQ (NQ q)).symm,hlt⟩
  have nofp:∀a,¬Fp (σ.set i (some v)) (e.set i (some (.d x))) H i a:=fun a q=>by
    rcases q with ⟨zs,q,_⟩ | ⟨xss,_,_,q,_⟩
    · cases (gi _ q).1
    · cases (gi _ q).1
  obtain⟨R',fs⟩:=R.upd1 (F':=F) (H':=H) (σ':=σ.set i (some v)) (e':=e.set i (some (.d x))) i (by rw [Pa,Pa];exact R.len) (fun j hj=>NG (NF hj)) (fun j hj=>NG (NF hj)) (aG.refl F) R.sm
    (fun j a _ q=>(R.fpAt q).1) (fun j a o _ _ ha=>ha)
    (fun y q=>by
      obtain⟨z,hlt⟩:=gi _ q
      cases z
      exact⟨v,Oc (by rw [R.len];exact hlt),h⟩)
    (fun zs q=>by cases (gi _ q).1) (fun xss q=>by cases (gi _ q).1) (fun a j hj q=>absurd q (nofp a))
  refine⟨R',fun a ⟨j,q⟩=>?_⟩
  by_cases z:j=i
  · subst z;exact absurd q (nofp a)
  · exact⟨j,(fs j a z).mp q⟩
theorem bc.setL(R:bc K F H σ e)(i:Nat){xs:List MY}{l:MW}{vs:List V}(h1:F l=none)(h2:H l=some (.lst vs))(h3:aT K F xs vs)(h4:¬cN σ e H l):bc K F H (σ.set i (some (.ref l))) (e.set i (some (.l xs)))∧∀a,cN (σ.set i (some (.ref l))) (e.set i (some (.l xs))) H a→cN σ e H a∨a=l:=by
  have gi:∀s,(e.set i (some (Sv.l xs)))[i]?=some (some s)→s=.l xs∧i < e.length:=fun s q=>by
    have hlt:i < e.length:=by have:=(MR q).1;simpa using this
    rw [Oc hlt] at q
    exact⟨(NQ (NQ q)).symm,hlt⟩
  have onefp:∀a,Fp (σ.set i (some (.ref l))) (e.set i (some (.l xs))) H i a→a=l:=fun a q=>by
    rcases q with ⟨zs,q,q2⟩ | ⟨xss,_,_,q,_⟩
    · obtain⟨_,hlt⟩:=gi _ q
      rw [Oc (by rw [R.len];exact hlt)] at q2
      cases q2;rfl
    · cases (gi _ q).1
  obtain⟨R',fs⟩:=R.upd1 (F':=F) (H':=H) (σ':=σ.set i (some (.ref l))) (e':=e.set i (some (.l xs))) i (by rw [Pa,Pa];exact R.len) (fun j hj=>NG (NF hj)) (fun j hj=>NG (NF hj)) (aG.refl F) R.sm
    (fun j a _ q=>(R.fpAt q).1) (fun j a o _ _ ha=>ha) (fun y q=>by cases (gi _ q).1)
    (fun zs q=>by
      obtain⟨z,hlt⟩:=gi _ q
      cases z
      exact⟨l,vs,Oc (by rw [R.len];exact hlt),h1,h2,h3⟩)
    (fun xss q=>by cases (gi _ q).1) (fun a j hj q q2=>h4 ⟨j,by rw [onefp a q] at q2;exact q2⟩)
  refine⟨R',fun a ⟨j,q⟩=>?_⟩
  by_cases z:j=i
  · subst z;exact .inr (onefp a q)
  · exact .inl ⟨j,(fs j a z).mp q⟩
end
section
variable{X:Cx}{K:⇑0}{o a:Na}{es:List Na}{fo:FE}{fs:FA}{name:Str}{apos cpos:Pos}{id:String}
def vY(K:⇑0)(r:V→List V→Hp→VK→Prop)(g:List MY→List MY→Option (MY × List MY)):Prop:=
  ∀(F H:Hp) (l:MW) (xs ys ds:List MY) (z:MY) (vs us:List V) (Q:VK),F l=none→aG F H→H l=some (.lst vs)→aT K F xs vs→aT K F ds us→g xs ds=some (z,ys)→
    (∀w ws,DA K F z w→aT K F ys ws→Q w (bC H l (.lst ws)))→r (.ref l) us H Q
def gA(g:List MY→List MY→Option (MY × List MY))(fo:FE)(fs:FA):FE:=fun e=>(fo e).bind fun p=>match p.1 with
  | .s i=>(fs p.2).bind fun q=>(jZ q.1).bind fun ds=>match q.2[i]? with
    | some (some (.l xs))=>(g xs ds).map fun z=>(.d z.1,q.2.set i (some (.l z.2)))
    | _=>none
  | _=>none
theorem By{r:V→List V→Hp→VK→Prop}{g:List MY→List MY→Option (MY × List MY)}(hm:vY K r g){σ:L2.St}{H:Hp}{Q:VK}(h:fE K (gA g fo fs) σ H Q):JX K "list" r (fE K fo) (fA K fs) σ H Q:=by
  obtain⟨F,e,z,e',R,hf,q⟩:=h
  unfold gA at hf
  obtain⟨⟨x,e1⟩,h1,hf⟩:=MP hf
  match x,h1,hf with
  | .s i,h1,hf=>
  dsimp only at hf
  obtain⟨⟨rs,e2⟩,h2,hf⟩:=MP hf
  obtain⟨ds,h3,hf⟩:=MP hf
  refine⟨F,e,_,e1,R,h1,fun F1 H1 v X1 R1 A1=>?_⟩
  obtain⟨g1,zs,g2⟩:=A1
  obtain⟨l,vs,c1,c2,c3,c4⟩:=R1.own i zs g2
  rw [g1] at c1;cases c1
  refine⟨.inl ⟨rfl,vs,.inl (.inl c3)⟩,F1,e1,rs,e2,R1,h2,fun F2 H2 us X2 R2 A2=>?_⟩
  match h4:e2[i]?,hf with
  | some (some (.l xs)),hf=>
  dsimp only at hf
  obtain⟨⟨zd,ys⟩,h5,hf⟩:=MQ hf
  cases hf
  obtain⟨F3,R3,s3,d3,f3⟩:=d_.frozen R2 A2 h3
  obtain⟨l',vs',k1,k2,k3,k4⟩:=R3.own i xs h4
  rw [g1] at k1;cases k1
  refine hm F3 H2 l xs ys ds zd vs' us Q k2 R3.sm k3 k4 d3 h5 fun w ws hw hws=>?_
  obtain⟨R4,X4⟩:=R3.putL h4 g1 hws
  exact q _ _ _ ((X1.trans (X2.frz s3 f3)).trans X4) R4 hw
theorem D6{r:V→List V→Hp→VK→Prop}{g:List MY→List MY→Option (MY × List MY)}(slot:Slot "list" name id)(hty:typeOf (.builtin id)=pure (.type "method_descriptor"))(hm:JL X id r)(hf:vY X.K r g)(ho:PE X o (fE X.K fo))(ha:PA X (a::es) (fA X.K fs))
    (hbase:Qn o name X.env (Nj o X.env)=Nj o X.env)
    (hfew:((NO cpos (Nl (a::es) X.env)).all (fun x=> !x.1)&&(backToKw cpos (Qo [] X.env)).all (fun x=>x.1.isSome)
      &&decide ((a::es).length+([]:List Oe).length+(if ([]:List Oe).isEmpty then 0 else 1) < 30))=true)
    (hline:(apos.endLine==cpos.line)=true)(hs:Nl (a::es) X.env=(false,Nj a X.env)::Nl es X.env)(hplain:(NO cpos (Nl es X.env)).any (·.1)=false):
    PE X (.Call (.Attribute o name apos) (a::es) [] cpos) (fE X.K (gA g fo fs)):=(D2 PySem.F.plainAttrs_list slot hty hm ho ha hbase hfew hline hs hplain).mono fun _ _ _ h=>By hf h
def dX:List MY→List MY→Option (MY × List MY):=fun xs ds=>match ds with
  | [d]=>if xs.length < 1000000 then some (.none,xs++[d]) else none
  | _=>none
theorem yP:vY K wW dX:=by
  intro F H l xs ys ds z vs us Q hF sm hl d1 d2 hg q
  unfold dX at hg
  match ds,hg,d2 with
  | [d],hg,d2=>
    simp only [aT] at d2
    obtain⟨w,r,rfl,hw,rfl⟩:=d2
    dsimp only at hg
    split at hg
    case isFalse=>cases hg
    case isTrue hlt=>
    cases hg
    have:=d1.len
    have sl:Nr=16777216:=Om
    exact⟨l,vs,w,rfl,rfl,hl,by lia,q _ _ (jy.mpr rfl) (d1.append (aT.one hw))⟩
def EV:List MY→List MY→Option (MY × List MY):=fun xs ds=>match ds with
  | []=>(xs[xs.length - 1]?).map fun d=>(d,xs.dropLast)
  | _=>none
def kb:List MY→List MY→Option (MY × List MY):=fun xs ds=>match ds with
  | [.int i]=>if 0≤i∧i < 1000000000 then(xs[i.toNat]?).map fun d=>(d,xs.eraseIdx i.toNat) else none
  | _=>none
theorem CW:vY K A6 kb:=by
  intro F H l xs ys ds z vs us Q hF sm hl d1 d2 hg q
  unfold kb at hg
  match ds,hg,d2 with
  | [.int i],hg,d2=>
    simp only [aT,DA] at d2
    obtain⟨w,r,rfl,rfl,rfl⟩:=d2
    dsimp only at hg
    split at hg
    case isFalse=>cases hg
    case isTrue hlt=>
    obtain⟨d,h1,h2⟩:=MQ hg
    cases h2
    obtain⟨v,g1,g2⟩:=d1.get h1
    have hlt2:i.toNat < vs.length:=(MR g1).1
    exact⟨l,vs,i,i.toNat,v,rfl,rfl,hl,by lia,by lia,seqIndex_of hlt.1 ↥0,g1,q _ _ g2 (d1.erase _)⟩
end
inductive Fl where
  | nx (e:En)
  | bk (e:En)
  | ct (e:En)
  | rt (r:Rv) (e:En)
abbrev FS:=En→Option Fl
structure dH (W:List Nat) (σ:L2.St) (F H:Hp) (e:En) (σ':L2.St) (F' H':Hp) (e':En):Prop where
  sf:aG F F'
  dom:∀a,H' a=none→H a=none
  fr:∀a vs,F a=none→H a=some (.lst vs)→¬cN σ e H a→F' a=none
  lst:∀a vs,H a=some (.lst vs)→∃vs',H' a=some (.lst vs')
  tmp:∀a o,H a=some o→¬cN σ e H a→H' a=some o
  own:∀a,cN σ' e' H' a→cN σ e H a∨H a=none
  wr:∀j,j∉W→σ'[j]?=σ[j]?
  fd:∀a m,F a=none→H a=some (.dK m)→¬cN σ e H a→F' a=none
section
variable{K:⇑0}{W W1 W2:List Nat}{σ σ1 σ2 σ':L2.St}{H0 F H F1 H1 F2 H2 F' H':Hp}{e e1 e2 e':En}
theorem dH.refl:dH W σ F H e σ F H e:=⟨aG.refl _,fun _ h=>h,fun _ _ h _ _=>h,fun _ vs h=>⟨vs,h⟩,fun _ _ h _=>h,fun _ h=>.inl h,fun _ _=>rfl,fun _ _ h _ _=>h⟩
theorem e_.s(x:e_ σ F H e F' H' e'):dH W σ F H e σ F' H' e':=⟨x.sf,x.dom,x.fr,x.lst,x.tmp,x.ow,fun _ _=>rfl,x.fd⟩
theorem dH.trans(x:dH W σ F H e σ1 F1 H1 e1)(y:dH W σ1 F1 H1 e1 σ2 F2 H2 e2):dH W σ F H e σ2 F2 H2 e2:=
  ⟨x.sf.trans y.sf,fun a h=>x.dom a (y.dom a h),fun a vs h n no=>let ⟨vs',q⟩:=x.lst a vs n;y.fr a vs' (x.fr a vs h n no) q (fun z=>(x.own a z).elim no fun z=>by rw [n] at z;cases z),fun a vs h=>let ⟨vs',q⟩:=x.lst a vs h;y.lst a vs' q,
    fun a o h n=>y.tmp a o (x.tmp a o h n) (fun z=>(x.own a z).elim n fun z=>by rw [h] at z;cases z),
    fun a h=>(y.own a h).elim (x.own a) (fun z=>.inr (x.dom a z)),
    fun j h=>(y.wr j h).trans (x.wr j h),
    fun a m h n no=>y.fd a m (x.fd a m h n no) (x.tmp a _ n no) (fun z=>(x.own a z).elim no fun z=>by rw [n] at z;cases z)⟩
theorem dH.mono(x:dH W1 σ F H e σ' F' H' e')(h:∀j,j∈W1→j∈W):dH W σ F H e σ' F' H' e':=⟨x.sf,x.dom,x.fr,x.lst,x.tmp,x.own,fun j n=>x.wr j fun z=>n (h j z),x.fd⟩
end
def nP(K:⇑0)(W:List Nat)(σ:L2.St)(F H:Hp)(e:En)(D:sZ):Fl→Prop
  | .nx e'=>∀F' H' σ',dH W σ F H e σ' F' H' e'→bc K F' H' σ' e'→D.nx σ' H'
  | .bk e'=>∀F' H' σ',dH W σ F H e σ' F' H' e'→bc K F' H' σ' e'→D.bk σ' H'
  | .ct e'=>∀F' H' σ',dH W σ F H e σ' F' H' e'→bc K F' H' σ' e'→D.ct σ' H'
  | .rt r e'=>∀F' H' σ' v,dH W σ F H e σ' F' H' e'→bc K F' H' σ' e'→cP K σ' H F' H' e' r v→D.rt v H'
def fS(K:⇑0)(f:FS)(W:List Nat):TS:=fun D σ H=>∃F e fl,bc K F H σ e∧f e=some fl∧nP K W σ F H e D fl
theorem PS.mono{X:Cx}{st:Nq}{t t':TS}(h:PS X st t)(m:∀D σ H,t' D σ H→t D σ H):PS X st t':=fun pins s σ H D I q=>h pins s σ H D I (m D σ H q)
theorem mM.mono{X:Cx}{st:List Nq}{t t':TS}(h:mM X st t)(m:∀D σ H,t' D σ H→t D σ H):mM X st t':=fun pins s σ H D I q=>h pins s σ H D I (m D σ H q)
theorem nP.later{K:⇑0}{W W1 W2:List Nat}{σ σ1:L2.St}{F H F1 H1:Hp}{e e1:En}{D:sZ}{fl:Fl}(h:nP K W σ F H e D fl)(x:dH W1 σ F H e σ1 F1 H1 e1)(h1:∀j,j∈W1→j∈W)(h2:∀j,j∈W2→j∈W):nP K W2 σ1 F1 H1 e1 D fl:=by
  cases fl with
  | nx e'=>exact fun F' H' σ' y R=>h F' H' σ' ((x.mono h1).trans (y.mono h2)) R
  | bk e'=>exact fun F' H' σ' y R=>h F' H' σ' ((x.mono h1).trans (y.mono h2)) R
  | ct e'=>exact fun F' H' σ' y R=>h F' H' σ' ((x.mono h1).trans (y.mono h2)) R
  | rt r e'=>exact fun F' H' σ' v y R A=>h F' H' σ' v ((x.mono h1).trans (y.mono h2)) R (A.weak x.dom)
section
variable{X:Cx}{K:⇑0}{W W1 W2:List Nat}{st:Nq}{dP:List Nq}{f g:FS}{a b:Na}{fa:FE}{ft:FT}{pos:Pos}
def fB:FS:=fun e=>some (.nx e)
def aE(f g:FS):FS:=fun e=>(f e).bind fun fl=>match fl with
  | .nx e1=>g e1
  | fl=>some fl
theorem cj:mM X [] (fS K fB []):=C0.mono fun D σ H h=>by
  obtain⟨F,e,fl,R,hf,q⟩:=h
  cases hf
  exact q F H σ dH.refl R
theorem ah(h1:PS X st (fS K f W1))(h2:mM X dP (fS K g W2)):mM X (st::dP) (fS K (aE f g) (W1++W2)):=(AR h1 h2).mono fun D σ H h=>by
  obtain⟨F,e,fl,R,hf,q⟩:=h
  unfold aE at hf
  obtain⟨fl1,h1,hf⟩:=MP hf
  have s1:∀j,j∈W1→j∈W1++W2:=fun j h=>OV.mpr (.inl h)
  have s2:∀j,j∈W2→j∈W1++W2:=fun j h=>OV.mpr (.inr h)
  refine⟨F,e,fl1,R,h1,?_⟩
  cases fl1 with
  | nx e1=>exact fun F' H' σ' x R'=>⟨F',e1,fl,R',hf,q.later x s1 s2⟩
  | bk e1=>cases hf;exact fun F' H' σ' x R'=>q F' H' σ' (x.mono s1) R'
  | ct e1=>cases hf;exact fun F' H' σ' x R'=>q F' H' σ' (x.mono s1) R'
  | rt r e1=>cases hf;exact fun F' H' σ' v x R' A=>q F' H' σ' v (x.mono s1) R' A
theorem au(h1:PS X st (fS K f W)):mM X [st] (fS K f W):=C1 h1
def i3(fa:FE):FS:=fun e=>(fa e).map fun p=>.nx p.2
theorem iU(he:PE X a (fE K fa))(hs:PN a none pos.line X.env=pure false):PS X (.Expr a pos) (fS K (i3 fa) []):=(wR he hs).mono fun D σ H h=>by
  obtain⟨F,e,fl,R,hf,q⟩:=h
  obtain⟨⟨x,e1⟩,h1,hf⟩:=MQ hf
  cases hf
  exact⟨F,e,x,e1,R,h1,fun F1 H1 v X1 R1 A1=>q F1 H1 σ X1.s R1⟩
def bN(fa:FE):FS:=fun e=>(fa e).map fun p=>.rt p.1 p.2
theorem aX(he:PE X a (fE K fa)):PS X (.Return (some a) pos) (fS K (bN fa) []):=(AN he).mono fun D σ H h=>by
  obtain⟨F,e,fl,R,hf,q⟩:=h
  obtain⟨⟨x,e1⟩,h1,hf⟩:=MQ hf
  cases hf
  exact⟨F,e,x,e1,R,h1,fun F1 H1 v X1 R1 A1=>q F1 H1 σ v X1.s R1 A1⟩
def j3(ft:FT)(f g:FS):FS:=fun e=>(ft e).bind fun p=>if p.1=true then f p.2 else g p.2
theorem fm{c:Na}{bs cs:List Nq}(hc:PT X c (fT K ft))(ha:mM X bs (fS K f W1))(hb:mM X cs (fS K g W2)):PS X (.If c bs cs pos) (fS K (j3 ft f g) (W1++W2)):=(Hz hc ha hb).mono fun D σ H h=>by
  obtain⟨F,e,fl,R,hf,q⟩:=h
  unfold j3 at hf
  obtain⟨⟨x,e1⟩,h1,hf⟩:=MP hf
  refine⟨F,e,x,e1,R,h1,fun F1 H1 X1 R1=>?_⟩
  cases x with
  | true=>exact⟨F1,e1,fl,R1,hf,q.later (W1:=[]) X1.s (fun j h=>by cases h) fun j h=>OV.mpr (.inl h)⟩
  | false=>exact⟨F1,e1,fl,R1,hf,q.later (W1:=[]) X1.s (fun j h=>by cases h) fun j h=>OV.mpr (.inr h)⟩
def yp(i:Nat)(r:Rv)(e:En):Option En:=match r with
  | .d x=>some (e.set i (some (.d x)))
  | .l xs=>some (e.set i (some (.l xs)))
  | .s _=>none
theorem AV{σ:L2.St}{H F H1 F1:Hp}{e e1 e2:En}{i:Nat}{r:Rv}{v:V}(R:bc K F H σ e)(X1:e_ σ F H e F1 H1 e1)(R1:bc K F1 H1 σ e1)(A1:cP K σ H F1 H1 e1 r v)(h:yp i r e1=some e2):
    dH [i] σ F H e (σ.set i (some v)) F1 H1 e2∧bc K F1 H1 (σ.set i (some v)) e2:=by
  have wr:∀j,j∉[i]→(σ.set i (some v))[j]?=σ[j]?:=fun j n=>NG (fun z=>n (by simp [z]))
  cases r with
  | d x=>
    cases h
    obtain⟨R2,o2⟩:=R1.setD i A1
    exact⟨⟨X1.sf,X1.dom,X1.fr,X1.lst,X1.tmp,fun a h=>X1.ow a (o2 a h),wr,X1.fd⟩,R2⟩
  | l xs=>
    cases h
    obtain⟨l,vs,rfl,h1,h2,h3,h4,h5⟩:=A1
    obtain⟨R2,o2⟩:=R1.setL i h2 h3 h4 h5
    refine⟨⟨X1.sf,X1.dom,X1.fr,X1.lst,X1.tmp,fun a h=>?_,wr,X1.fd⟩,R2⟩
    rcases o2 a h with z | z
    · exact X1.ow a z
    · exact .inr (by rw [z];exact h1)
  | s j=>cases h
def aF(i:Nat)(fa:FE):FS:=fun e=>(fa e).bind fun p=>(yp i p.1 p.2).map .nx
theorem aL{i:Nat}{x:Str}{pos':Pos}(hN:X.N.Nodup)(hi:X.N[i]?=some x)(hx:Ek X.env.scope x)(he:PE X a (fE K fa))(hs:PN a (some (.Name x pos')) pos.line X.env=pure false)(hf:X.fn x=true∨X.env.scope.names.lookup x=some .local):
    PS X (.Assign [.Name x pos'] a pos) (fS K (aF i fa) [i]):=(AO hN hi hx he hs hf).mono fun D σ H h=>by
  obtain⟨F,e,fl,R,hf,q⟩:=h
  unfold aF at hf
  obtain⟨⟨r,e1⟩,h1,hf⟩:=MP hf
  obtain⟨e2,h2,hf⟩:=MQ hf
  cases hf
  refine⟨F,e,r,e1,R,h1,fun F1 H1 v X1 R1 A1=>?_⟩
  obtain⟨x,R2⟩:=AV R X1 R1 A1 h2
  exact q F1 H1 _ x R2
abbrev FG:=MY→En→Option En
def fG(K:⇑0)(g:FG)(W:List Nat):TG:=fun v σ H Q=>∃F e x e',bc K F H σ e∧DA K F x v∧g x e=some e'∧∀σ',dH W σ F H e σ' F H e'→bc K F H σ' e'→Q σ' H
abbrev DF:=List MY→En→Option En
def ID(K:⇑0)(g:DF)(W:List Nat):BI:=fun vs σ H Q=>∃F e xs e',bc K F H σ e∧aT K F xs vs∧g xs e=some e'∧∀σ',dH W σ F H e σ' F H e'→bc K F H σ' e'→Q σ' H
theorem PG.mono{tg:Na}{t t':TG}(h:PG X tg t)(m:∀v σ H Q,t' v σ H Q→t v σ H Q):PG X tg t':=fun pins s σ H v u Q I r q=>h pins s σ H v u Q I r (m v σ H Q q)
theorem yI.mono{tg:List Na}{t t':BI}(h:yI X tg t)(m:∀v σ H Q,t' v σ H Q→t v σ H Q):yI X tg t':=fun pins s σ H v u Q I r q=>h pins s σ H v u Q I r (m v σ H Q q)
def af(i:Nat):FG:=fun x e=>some (e.set i (some (.d x)))
def aS:DF:=fun xs e=>match xs with
  | []=>some e
  | _=>none
def ao(g:FG)(gs:DF):DF:=fun xs e=>match xs with
  | x::r=>(g x e).bind fun e1=>gs r e1
  | _=>none
def aV(gs:DF):FG:=fun x e=>match x with
  | .tuple xs=>gs xs e
  | _=>none
theorem ar{i:Nat}{x:Str}(hN:X.N.Nodup)(hi:X.N[i]?=some x)(hx:Ek X.env.scope x)(hf:X.fn x=true∨X.env.scope.names.lookup x=some .local):PG X (.Name x pos) (fG K (af i) [i]):=(CO hN hi hx hf).mono fun v σ H Q h=>by
  obtain⟨F,e,x,e',R,hx,hg,q⟩:=h
  cases hg
  obtain⟨R2,o2⟩:=R.setD i hx
  exact q _ ⟨aG.refl _,fun _ h=>h,fun _ _ h _ _=>h,fun _ vs h=>⟨vs,h⟩,fun _ _ h _=>h,fun a h=>.inl (o2 a h),fun j n=>NG (fun z=>n (by simp [z])),fun _ _ h _ _=>h⟩ R2
theorem bQ:yI X [] (ID K aS []):=CQ.mono fun v σ H Q h=>by
  obtain⟨F,e,x,e',R,hx,hg,q⟩:=h
  unfold aS at hg
  split at hg
  · cases hg
    simp only [aT] at hx
    exact⟨hx,q σ dH.refl R⟩
  · cases hg
theorem ax{es:List Na}{g1:FG}{gs:DF}(h1:PG X a (fG K g1 W1))(h2:yI X es (ID K gs W2))
    (hs:(Ol (a::es) X.env).map (·.2)=Od a X.env::(Ol es X.env).map (·.2)):yI X (a::es) (ID K (ao g1 gs) (W1++W2)):=(AD h1 h2 hs).mono fun v σ H Q h=>by
  obtain⟨F,e,xs,e',R,hx,hg,q⟩:=h
  unfold ao at hg
  match xs,hg,hx with
  | x::r,hg,hx=>
    simp only [aT] at hx
    obtain⟨w,ws,e1,hw,hr⟩:=hx
    dsimp only at hg
    obtain⟨e1',h3,h4⟩:=MP hg
    refine⟨w,ws,e1,F,e,x,e1',R,hw,h3,fun σ1 x1 R1=>⟨F,e1',r,e',R1,hr,h4,fun σ2 x2 R2=>?_⟩⟩
    exact q σ2 ((x1.mono fun j h=>OV.mpr (.inl h)).trans (x2.mono fun j h=>OV.mpr (.inr h))) R2
theorem cK{es:List Na}{k n:Nat}{gs:DF}(hK:X.K=K)(hc:X.calm=true)(h:yI X es (ID K gs W))(hl:∀xs e e',gs xs e=some e'→xs.length=n)(hn:(Ol es X.env).length=n)(hst:(Ol es X.env).findIdx? (·.1)=none):PG X (.Tuple es k pos) (fG K (aV gs) W):=(CP hK hc h hn hst).mono fun v σ H Q h=>by
  obtain⟨F,e,x,e',R,hx,hg,q⟩:=h
  unfold aV at hg
  match x,hg,hx with
  | .tuple xs,hg,hx=>
    obtain⟨p,vs,e1,e2,e3⟩:=cq.mp hx
    exact⟨p,vs,e1,R.sm.tup e2,by rw [←e3.len];exact hl xs e e' hg,F,e,xs,e',R,e3,hg,q⟩
theorem cH(xs:List MY)(e e':En)(h:aS xs e=some e'):xs.length=0:=by
  unfold aS at h
  split at h
  · rfl
  · cases h
theorem aC{g:FG}{gs:DF}{n:Nat}(hl:∀xs e e',gs xs e=some e'→xs.length=n)(xs:List MY)(e e':En)(h:ao g gs xs e=some e'):xs.length=n+1:=by
  unfold ao at h
  match xs,h with
  | x::r,h=>
    obtain⟨e1,h3,h4⟩:=MP h
    simp [hl r e1 e' h4]
def g_(fa:FE)(g:FG):FS:=fun e=>(fa e).bind fun p=>match p.1 with
  | .d x=>(g x p.2).map .nx
  | _=>none
theorem iS{tg:Na}{g:FG}(he:PE X a (fE K fa))(hg:PG X tg (fG K g W))(hs:PQ [tg] a pos.line X.env=pure false)(hw:PU [tg] a X.env=pure none)
    (h1:(Ol [tg] X.env).map (·.2)=[Od tg X.env]):PS X (.Assign [tg] a pos) (fS K (g_ fa g) W):=(su he hg hs hw h1).mono fun D σ H h=>by
  obtain⟨F,e,fl,R,hf,q⟩:=h
  unfold g_ at hf
  obtain⟨⟨r,e1⟩,h1,hf⟩:=MP hf
  match r,h1,hf with
  | .d x,h1,hf=>
    obtain⟨e2,h2,hf⟩:=MQ hf
    cases hf
    exact⟨F,e,_,e1,R,h1,fun F1 H1 v X1 R1 A1=>⟨F1,e1,x,e2,R1,A1,h2,fun σ' x2 R2=>q F1 H1 σ' (X1.s.trans x2) R2⟩⟩
def sM(i j:Nat)(fs:FA):FS:=fun e=>(fs e).bind fun p=>match p.1 with
  | [.d x,.d y]=>some (.nx ((p.2.set i (some (.d x))).set j (some (.d y))))
  | _=>none
theorem sD{i j:Nat}{x y:Str}{fs:FA}{px py pt:Pos}{kt k2 pt2}(hc:X.calm=true)(hN:X.N.Nodup)(hi:X.N[i]?=some x)(hj:X.N[j]?=some y)(hij:i≠j)
    (hx:X.env.scope.names.lookup x=some .local)(hy:X.env.scope.names.lookup y=some .local)(ha:PA X [a,b] (fA K fs))
    (hw:PU [.Tuple [.Name x px,.Name y py] kt pt] (.Tuple [a,b] k2 pt2) X.env=pure (some [x,y]))
    (hs:PQ [.Tuple [.Name x px,.Name y py] kt pt] (.Tuple [a,b] k2 pt2) pos.line X.env=pure false):
    PS X (.Assign [.Tuple [.Name x px,.Name y py] kt pt] (.Tuple [a,b] k2 pt2) pos) (fS K (sM i j fs) [i,j]):=(AM hc hN hi hj hij hx hy ha hw hs).mono fun D σ H h=>by
  obtain⟨F,e,fl,R,hf,q⟩:=h
  unfold sM at hf
  obtain⟨⟨rs,e1⟩,h1,hf⟩:=MP hf
  refine⟨F,e,rs,e1,R,h1,fun F1 H1 vs X1 R1 A1=>?_⟩
  match rs,hf,A1 with
  | [.d x,.d y],hf,A1=>
    cases hf
    obtain⟨v,u,rfl,a1,a2⟩:=jL A1
    obtain⟨R2,o2⟩:=R1.setD i a1
    obtain⟨R3,o3⟩:=R2.setD j a2
    refine⟨v,u,rfl,q F1 H1 _ ⟨X1.sf,X1.dom,X1.fr,X1.lst,X1.tmp,fun a h=>X1.ow a (o2 a (o3 a h)),fun m n=>?_,X1.fd⟩ R3⟩
    rw [NG (fun z=>n (by simp [z])),NG (fun z=>n (by simp [z]))]
def rl:Rv→Option MY
  | .d x=>some x
  | .l xs=>some (.list xs)
  | .s _=>none
theorem lN{r:Rv}{d:MY}(h:rl r=some d):jZ [r]=some [d]:=by
  cases r with
  | d x=>cases h;rfl
  | l xs=>cases h;rfl
  | s i=>cases h
def mi(e:En):Rv→Option (Nat × List MY)
  | .s n=>match e[n]? with
    | some (some (.l xs))=>some (n,xs)
    | _=>none
  | _=>none
theorem yv{e:En}{r:Rv}{n:Nat}{xs:List MY}(h:mi e r=some (n,xs)):r=.s n∧e[n]?=some (some (.l xs)):=by
  unfold mi at h
  split at h
  · split at h
    · rename_i heq
      cases h;exact⟨rfl,heq⟩
    · cases h
  · cases h
def lg(fa fo fi:FE):FS:=fun e=>(fa e).bind fun p=>(rl p.1).bind fun d=>(fo p.2).bind fun o=>(fi o.2).bind fun i=>(cg i.1).bind fun k=>(mi i.2 o.1).bind fun s=>(m_ s.2.length k).map fun j=>.nx (i.2.set s.1 (some (.l (s.2.set j d))))
theorem vK{o i:Na}{fo fi:FE}{ps:Pos}(he:PE X a (fE K fa))(ho:PE X o (fE K fo))(hi:PE X i (fE K fi))
    (ha:∀v,Od (.Subscript o i ps) X.env v=(do
      let ov ←NY [v] (Nj o X.env)
      let iv ←NY [v,ov] (Nj i X.env)
      Pk ps
      NY [v,ov,iv] (setItem ov iv v)
      release [v,ov,iv] []))
    (hs:PQ [.Subscript o i ps] a pos.line X.env=pure false)(hw:PU [.Subscript o i ps] a X.env=pure none)
    (h1:(Ol [.Subscript o i ps] X.env).map (·.2)=[Od (.Subscript o i ps) X.env]):PS X (.Assign [.Subscript o i ps] a pos) (fS K (lg fa fo fi) []):=(su he (vH ho hi pe ha) hs hw h1).mono fun D σ H h=>by
  obtain⟨F,e,fl,R,hf,q⟩:=h
  unfold lg at hf
  obtain⟨⟨r,e1⟩,g1,hf⟩:=MP hf
  obtain⟨d,g2,hf⟩:=MP hf
  obtain⟨⟨ro,e2⟩,g3,hf⟩:=MP hf
  obtain⟨⟨ri,e3⟩,g4,hf⟩:=MP hf
  obtain⟨k,g5,hf⟩:=MP hf
  obtain⟨⟨n,xs⟩,g6,hf⟩:=MP hf
  obtain⟨j,g7,hf⟩:=MQ hf
  cases hf
  obtain⟨z6,g6'⟩:=yv g6
  dsimp only at z6 g6'
  subst z6
  refine⟨F,e,r,e1,R,g1,fun F1 H1 v X1 R1 A1=>?_⟩
  refine⟨F1,e1,_,e2,R1,g3,fun F2 H2 u X2 R2 A2=>⟨F2,e2,ri,e3,R2,g4,fun F3 H3 w X3 R3 A3=>?_⟩⟩
  have X12:=X1.trans X2
  have X13:=X12.trans X3
  have A1':=(A1.ext X2).ext X3
  obtain⟨F4,R4,s4,d4,f4⟩:=d_.frozen R3 (rs:=[r]) (vs:=[v]) ⟨v,[],rfl,A1',rfl⟩ (lN g2)
  obtain⟨h1,_⟩:=A2
  obtain⟨l,vs,k1,k2,k3,k4⟩:=R4.own n xs g6'
  rw [h1] at k1;cases k1
  simp only [aT] at d4
  obtain⟨v',r',e',hv,_⟩:=d4
  cases e'
  refine⟨l,vs,k,j,rfl,bz A3 g5,k3,by rw [←k4.len];exact g7,?_⟩
  obtain⟨R5,X5⟩:=R4.putL g6' h1 (k4.set hv j)
  exact q _ _ σ ((X13.frz s4 f4).trans X5).s R5
def gB(ft:FT)(f:FS):Nat→FS
  | 0,_=>none
  | n+1,e=>(ft e).bind fun p=>if p.1=true then(f p.2).bind fun fl=>match fl with
      | .nx e1=>gB ft f n e1
      | .ct e1=>gB ft f n e1
      | .bk e1=>some (.nx e1)
      | .rt r e1=>some (.rt r e1)
    else some (.nx p.2)
def iW(n:Nat)(ft:FT)(f:FS):FS:=gB ft f n
theorem k_{n:Nat}{c:Na}{body:List Nq}(hp:PassesOwn (Ni X.prog X.w) X.A X.env X.xe)(hc:PT X c (fT K ft))(hb:mM X body (fS K f W)):PS X (.While c body [] pos) (fS K (iW n ft f) W):=(AQ hp hc hb).mono fun D σ H h=>by
  refine⟨fun m σ H=>∃F e fl,bc K F H σ e∧gB ft f m e=some fl∧nP K W σ F H e D fl,⟨n,h⟩,?_⟩
  rintro m σ H ⟨F,e,fl,R,hf,q⟩
  cases m with
  | zero=>cases hf
  | succ m=>
    unfold gB at hf
    obtain⟨⟨x,e1⟩,h1,hf⟩:=MP hf
    refine⟨F,e,x,e1,R,h1,fun F1 H1 X1 R1=>?_⟩
    have sub:∀j,j∈([]:List Nat)→j∈W:=fun j h=>by cases h
    cases x with
    | false=>
      rw [if_neg ↥1] at hf
      cases hf
      exact Hb (q F1 H1 σ X1.s R1)
    | true=>
      rw [if_pos rfl] at hf
      refine EG ?_
      obtain⟨fl1,h2,hf⟩:=MP hf
      have q1:nP K W σ F1 H1 e1 D fl:=q.later (W1:=[]) X1.s sub fun j h=>h
      refine⟨fun σ' H'=>∃F' e',bc K F' H' σ' e'∧gB ft f m e'=some fl∧nP K W σ' F' H' e' D fl,fun σ' H' ⟨F',e',r1,r2,r3⟩=>⟨m,Nat.lt_succ_self m,F',e',fl,r1,r2,r3⟩,F1,e1,fl1,R1,h2,?_⟩
      cases fl1 with
      | nx e2=>exact fun F2 H2 σ2 x R2=>⟨F2,e2,R2,hf,q1.later x (fun j h=>h) fun j h=>h⟩
      | ct e2=>exact fun F2 H2 σ2 x R2=>⟨F2,e2,R2,hf,q1.later x (fun j h=>h) fun j h=>h⟩
      | bk e2=>cases hf;exact fun F2 H2 σ2 x R2=>q1 F2 H2 σ2 x R2
      | rt r e2=>cases hf;exact fun F2 H2 σ2 v x R2 A=>q1 F2 H2 σ2 v x R2 A
end
theorem PI.mono{X:Cx}{tg iter:Na}{t t':TI}(h:PI X tg iter t)(m:∀σ H R,t' σ H R→t σ H R):PI X tg iter t':=fun pins s σ H R I q=>h pins s σ H R I (m σ H R q)
theorem PI.or{X:Cx}{tg iter:Na}{t t':TI}(h:PI X tg iter t)(h':PI X tg iter t'):PI X tg iter (fun σ H R=>t σ H R∨t' σ H R):=fun pins s σ H R I q=>by
  rcases q with q | q
  · exact h pins s σ H R I q
  · exact h' pins s σ H R I q
abbrev gU:=List (Nat × List MY)
def xC(K:⇑0)(σ:L2.St)(F H:Hp)(own:gU):Prop:=∀p∈own,∃l vs,σ[p.1]?=some (some (.ref l))∧H l=some (.lst vs)∧aT K F p.2 vs
def s_(K:⇑0)(σ:L2.St)(J:It)(items:List MY)(own:gU)(F0:Hp):Prop:=∀F H,aG F0 F→aG F H→xC K σ F H own→
  (∀i,i < items.length→J.go i H)∧(∀i,items.length≤i→J.stop i H)∧∀i d x H',items[i]?=some d→J.yld i H x H'→∃F',aG H H'∧aG F F'∧aG F' H'∧(∀a,F a=none→H a≠none→F' a=none)∧DA K F' d x
abbrev FI:=En→Option (List MY × gU × En)
def keeps(own:gU)(e:En):Prop:=∀p∈own,e[p.1]?=some (some (.l p.2))
def fI(K:⇑0)(f:FI):TI:=fun σ H R=>∃F e items own e',bc K F H σ e∧f e=some (items,own,e')∧∀J F' H',e_ σ F H e F' H' e'→bc K F' H' σ e'→keeps own e'→s_ K σ J items own F'→R J H'
section
variable{K:⇑0}{σ:L2.St}{H0 F H F' H':Hp}{e e':En}
theorem bc.held(R:bc K F H σ e){own:gU}(h:keeps own e):xC K σ F H own:=fun p hp=>by
  obtain⟨l,vs,h1,h2,h3,h4⟩:=R.own p.1 p.2 (h p hp)
  exact⟨l,vs,h1,h3,h4⟩
theorem bc.step(R:bc K F H σ e)(s:aG H H')(sF:aG F F')(sm:aG F' H')(fz:∀a,F a=none→H a≠none→F' a=none):bc K F' H' σ e∧e_ σ F H e F' H' e:=by
  obtain⟨R',o'⟩:=R.keep sF sm (fun a ⟨i,h⟩=>by
    obtain⟨h1,vs,h2⟩:=R.fpAt h
    exact fz a h1 (by rw [h2];simp)) fun a o _ h=>s a o h
  exact⟨R',⟨sF,fun a h=>s.free h,fun a vs h1 h2 _=>fz a h1 (by rw [h2];simp),fun a vs h=>⟨vs,s _ _ h⟩,fun a o h _=>s a o h,fun _=>Iff.rfl,fun a h=>.inl ((o' a).mp h),fun a m h1 h2 _=>fz a h1 (by rw [h2];simp)⟩⟩
inductive yL (K:⇑0) (σ:L2.St) (F:Hp) (p:MW):Bool→List MY→gU→Prop
  | tup {xs vs}:dz K F p vs→aT K F xs vs→yL K σ F p false xs []
  | lst {xs vs}:gC K F p vs→aT K F xs vs→yL K σ F p true xs []
  | own {i xs}:σ[i]?=some (some (.ref p))→yL K σ F p true xs [(i,xs)]
theorem yL.at{p:MW}{b:Bool}{xs:List MY}{own:gU}{F0:Hp}(h:yL K σ F0 p b xs own)(s0:aG F0 F)(s1:aG F H){own':gU}(hh:xC K σ F H own')(hs:∀q∈own,q∈own'):∃vs,aT K F xs vs∧(if b=true then gC K H p vs else dz K H p vs):=by
  cases h with
  | tup h1 h2=>exact⟨_,h2.mono s0,(s0.trans s1).tup h1⟩
  | lst h1 h2=>exact⟨_,h2.mono s0,(s0.trans s1).seq h1⟩
  | @own i xs h1=>
    obtain⟨l,vs,g1,g2,g3⟩:=hh (i,xs) (hs (i,xs) ↥1)
    dsimp only at g1 g3
    rw [h1] at g1;cases g1
    exact⟨vs,g3,.inl (.inl g2)⟩
def Bm(e:En):Rv→Option (Bool × List MY × gU)
  | .d (.tuple xs)=>some (false,xs,[])
  | .d (.list xs)=>some (true,xs,[])
  | .l xs=>some (true,xs,[])
  | .s i=>match e[i]? with
    | some (some (.l xs))=>some (true,xs,[(i,xs)])
    | _=>none
  | _=>none
theorem ly{r:Rv}{v:V}{b:Bool}{xs:List MY}{own:gU}(R:bc K F H σ e)(A:cP K σ H0 F H e r v)(h:Bm e r=some (b,xs,own)):
    ∃F' p,bc K F' H σ e∧aG F F'∧(∀a,F a=none→H0 a≠none→F' a=none)∧v=.ref p∧yL K σ F' p b xs own∧keeps own e:=by
  cases r with
  | d x=>
    cases x with
    | tuple ds=>
      cases h
      obtain⟨a,ys,e1,e2,e3⟩:=cq.mp A
      exact⟨F,a,R,aG.refl _,fun _ h _=>h,e1,.tup e2 e3,fun p hp=>by cases hp⟩
    | list ds=>
      cases h
      obtain⟨a,ys,e1,e2,e3⟩:=d9.mp A
      exact⟨F,a,R,aG.refl _,fun _ h _=>h,e1,.lst e2 e3,fun p hp=>by cases hp⟩
    | _=>cases h
  | l ys=>
    cases h
    obtain⟨F',R',s',d',f'⟩:=A.frozen R
    obtain⟨a,ys,e1,e2,e3⟩:=d9.mp d'
    exact⟨F',a,R',s',f',e1,.lst e2 e3,fun p hp=>by cases hp⟩
  | s i=>
    obtain⟨h1,ys,h2⟩:=A
    simp only [Bm,h2] at h
    cases h
    obtain⟨l,vs,e1,e2,e3,e4⟩:=R.own i _ h2
    rw [h1] at e1;cases e1
    exact⟨F,l,R,aG.refl _,fun _ h _=>h,rfl,.own h1,fun p hp=>by simp only [RE] at hp;subst hp;exact h2⟩
theorem xX{p:MW}{xs:List MY}{own:gU}{F0:Hp}(h:yL K σ F0 p true xs own):s_ K σ (IK K p) xs own F0:=by
  intro F H s0 s1 hh
  obtain⟨vs,d,q⟩:=h.at s0 s1 hh fun _ h=>h
  have q:gC K H p vs:=q
  refine⟨fun i hi=>⟨vs,vs[i]'(by rw [←d.len];exact hi),q,NL _⟩,fun i hi=>⟨vs,q,by rw [←d.len];exact hi⟩,fun i x v H' hx hy=>?_⟩
  obtain⟨rfl,hy⟩:=hy
  obtain⟨w,g1,g2⟩:=d.get hx
  have e:=hy vs q
  rw [g1] at e;cases e
  exact⟨F,aG.refl _,aG.refl _,s1,fun _ h _=>h,g2⟩
theorem zS{p:MW}{xs:List MY}{own:gU}{F0:Hp}(h:yL K σ F0 p false xs own):s_ K σ (IL K p) xs own F0:=by
  intro F H s0 s1 hh
  obtain⟨vs,d,q⟩:=h.at s0 s1 hh fun _ h=>h
  have q:dz K H p vs:=q
  refine⟨fun i hi=>⟨vs,vs[i]'(by rw [←d.len];exact hi),q,NL _⟩,fun i hi=>⟨vs,q,by rw [←d.len];exact hi⟩,fun i x v H' hx hy=>?_⟩
  obtain⟨rfl,hy⟩:=hy
  obtain⟨w,g1,g2⟩:=d.get hx
  have e:=hy vs q
  rw [g1] at e;cases e
  exact⟨F,aG.refl _,aG.refl _,s1,fun _ h _=>h,g2⟩
theorem oK{p:MW}{x y:V}{a b:MY}(s1:aG F H)(hp:H p=none)(hx:DA K F a x)(hy:DA K F b y):∃F',aG H (bC H p (.tup [x,y]))∧aG F F'∧aG F' (bC H p (.tup [x,y]))∧(∀c,F c=none→H c≠none→F' c=none)∧DA K F' (.tuple [a,b]) (.ref p):=by
  have hF:F p=none:=s1.free hp
  have sF:aG F (bC F p (.tup [x,y])):=aG.new hF
  refine⟨bC F p (.tup [x,y]),aG.new hp,sF,fun b o q=>?_,fun c h n=>?_,cq.mpr ⟨p,_,rfl,.inl (.inl ay),.cons (DA.mono sF hx) (.one (DA.mono sF hy))⟩⟩
  · by_cases z:b=p
    · subst z;rw [ay] at q ⊢;exact q
    · rw [aA z] at q ⊢;exact s1 _ _ q
  · have z:c≠p:=fun z=>n (by rw [z];exact hp)
    rw [aA z];exact h
def gK:Nat→List MY→List MY
  | _,[]=>[]
  | n,x::r=>.tuple [.int n,x]::gK (n+1) r
theorem jB:∀{xs:List MY} {n i:Nat},(gK n xs)[i]?=(xs[i]?).map fun x=>.tuple [.int ((n+i:Nat):Int),x]
  | [],n,i=>by simp [gK]
  | x::r,n,0=>by simp [gK]
  | x::r,n,i+1=>by
    simp only [gK,List.getElem?_cons_succ]
    rw [jB (xs:=r) (n:=n+1) (i:=i)]
    congr 1
    funext y
    rw [show n+1+i=n+(i+1) by lia]
theorem lP:∀(xs:List MY) (n:Nat),(gK n xs).length=xs.length
  | [],_=>rfl
  | x::r,n=>by simp [gK,lP r (n+1)]
theorem vw{p:MW}{xs:List MY}{own:gU}{F0:Hp}(h:yL K σ F0 p true xs own):s_ K σ (Eh K p) (gK 0 xs) own F0:=by
  intro F H s0 s1 hh
  obtain⟨vs,d,q⟩:=h.at s0 s1 hh fun _ h=>h
  have q:gC K H p vs:=q
  rw [lP]
  refine⟨fun i hi=>⟨vs,vs[i]'(by rw [←d.len];exact hi),q,NL _⟩,fun i hi=>⟨vs,q,by rw [←d.len];exact hi⟩,fun i x v H' hx hy=>?_⟩
  obtain⟨t,y,rfl,ht,rfl,hy⟩:=hy
  rw [jB] at hx
  obtain⟨x',hx2,rfl⟩:=MQ hx
  obtain⟨w,g1,g2⟩:=d.get hx2
  have e:=hy vs q
  rw [g1] at e;cases e
  exact oK s1 ht (cm.mpr ↥1) g2
theorem vy{p:MW}{xs:List MY}{own:gU}{F0:Hp}(h:yL K σ F0 p false xs own):s_ K σ (Ei K p) (gK 0 xs) own F0:=by
  intro F H s0 s1 hh
  obtain⟨vs,d,q⟩:=h.at s0 s1 hh fun _ h=>h
  have q:dz K H p vs:=q
  rw [lP]
  refine⟨fun i hi=>⟨vs,vs[i]'(by rw [←d.len];exact hi),q,NL _⟩,fun i hi=>⟨vs,q,by rw [←d.len];exact hi⟩,fun i x v H' hx hy=>?_⟩
  obtain⟨t,y,rfl,ht,rfl,hy⟩:=hy
  rw [jB] at hx
  obtain⟨x',hx2,rfl⟩:=MQ hx
  obtain⟨w,g1,g2⟩:=d.get hx2
  have e:=hy vs q
  rw [g1] at e;cases e
  exact oK s1 ht (cm.mpr ↥1) g2
def fF:List MY→List MY→List MY
  | x::r,y::s=>.tuple [x,y]::fF r s
  | _,_=>[]
theorem uM:∀{xs ys:List MY} {i:Nat} {d:MY},(fF xs ys)[i]?=some d→∃x y,xs[i]?=some x∧ys[i]?=some y∧d=.tuple [x,y]
  | [],ys,i,d,h=>by simp [fF] at h
  | x::r,[],i,d,h=>by simp [fF] at h
  | x::r,y::s,0,d,h=>by
    simp only [fF,List.getElem?_cons_zero] at h
    cases h;exact⟨x,y,rfl,rfl,rfl⟩
  | x::r,y::s,i+1,d,h=>by
    simp only [fF,List.getElem?_cons_succ] at h
    obtain⟨a,b,h1,h2,h3⟩:=uM h
    exact⟨a,b,by simpa using h1,by simpa using h2,h3⟩
theorem uO:∀(xs ys:List MY),(fF xs ys).length=min xs.length ys.length
  | [],ys=>by simp [fF]
  | x::r,[]=>by simp [fF]
  | x::r,y::s=>by simp [fF,uO r s]
theorem tT{P Q:Hp→MW→List V→Prop}{J:It}{l1 l2:MW}{b1 b2:Bool}{xs ys:List MY}{own1 own2:gU}{F0:Hp}(h1:yL K σ F0 l1 b1 xs own1)(h2:yL K σ F0 l2 b2 ys own2)
    (hP:∀H vs,(if b1=true then gC K H l1 vs else dz K H l1 vs)→P H l1 vs)(hQ:∀H vs,(if b2=true then gC K H l2 vs else dz K H l2 vs)→Q H l2 vs)
    (go:∀i H vs us x y,P H l1 vs→Q H l2 us→vs[i]?=some x→us[i]?=some y→J.go i H)(stop:∀i H vs us,P H l1 vs→Q H l2 us→(vs.length≤i∨us.length≤i)→J.stop i H)
    (yld:∀i H v H',J.yld i H v H'→∃p x y,v=.ref p∧H p=none∧H'=bC H p (.tup [x,y])∧∀xs ys,P H l1 xs→Q H l2 ys→xs[i]?=some x∧ys[i]?=some y):
    s_ K σ J (fF xs ys) (own1++own2) F0:=by
  intro F H s0 s1 hh
  obtain⟨vs,d1,q1⟩:=h1.at s0 s1 hh fun _ h=>OV.mpr (.inl h)
  obtain⟨us,d2,q2⟩:=h2.at s0 s1 hh fun _ h=>OV.mpr (.inr h)
  have q1:=hP H vs q1
  have q2:=hQ H us q2
  have l1':=d1.len
  have l2':=d2.len
  rw [uO]
  refine⟨fun i hi=>go i H vs us (vs[i]'↥0) (us[i]'↥0) q1 q2 (NL _) (NL _),fun i hi=>stop i H vs us q1 q2 ↥0,fun i x v H' hx hy=>?_⟩
  obtain⟨t,a,b,rfl,ht,rfl,hy3⟩:=yld i H v H' hy
  obtain⟨x',y',hx2,hy',rfl⟩:=uM hx
  obtain⟨w,g1,g2⟩:=d1.get hx2
  obtain⟨w',g3,g4⟩:=d2.get hy'
  obtain⟨e1,e2⟩:=hy3 vs us q1 q2
  rw [g1] at e1;cases e1
  rw [g3] at e2;cases e2
  exact oK s1 ht g2 g4
def bM(lo:Int)(n:Nat):List MY:=(Nb n).map fun(i:Nat)=>.int (lo+(i:Int))
theorem ox{lo:Int}{n:Nat}{F0:Hp}:s_ K σ (GD lo n) (bM lo n) [] F0:=by
  intro F H s0 s1 hh
  unfold bM
  rw [Nw,PF]
  refine⟨fun i hi=>hi,fun i hi=>hi,fun i x v H' hx hy=>?_⟩
  obtain⟨rfl,rfl⟩:=hy
  rw [NH] at hx
  obtain⟨k,h1,rfl⟩:=MQ hx
  have h2:=(MR h1).2
  simp at h2
  subst h2
  exact⟨F,aG.refl _,aG.refl _,s1,fun _ h _=>h,cm.mpr rfl⟩
end
inductive II (K:⇑0) (own:gU) (σ0:L2.St) (F1:Hp) (P:En→Prop) (G:L2.St→Hp→Hp→En→Prop) (σ:L2.St) (H:Hp):Prop
  | mk {F:Hp} {e:En} (R:bc K F H σ e) (kp:keeps own e) (hσ:∀p∈own,σ[p.1]?=σ0[p.1]?) (sF:aG F1 F) (hf:P e) (q:G σ F H e):II K own σ0 F1 P G σ H
section
variable{X:Cx}{K:⇑0}{tg a b:Na}{es:List Na}{fa:FE}{fs:FA}{pos p tp:Pos}{k0:Nat}
def kJ(fa:FE):FI:=fun e=>(fa e).bind fun p=>(Bm p.2 p.1).map fun s=>(s.2.1,s.2.2,p.2)
theorem jo(hK:X.K=K)(h:PE X a (fE K fa)):PI X tg a (fI K (kJ fa)):=((AG (tg:=tg) hK h).or (CT (tg:=tg) hK h)).mono fun σ H R hh=>by
  obtain⟨F,e,items,own,e',R0,hf,q⟩:=hh
  unfold kJ at hf
  obtain⟨⟨r,e1⟩,h1,hf⟩:=MP hf
  obtain⟨⟨b,xs,ow⟩,h2,hf⟩:=MQ hf
  cases hf
  cases b with
  | true=>
    refine .inl ⟨F,e,r,e1,R0,h1,fun F1 H1 v X1 R1 A1=>?_⟩
    obtain⟨F2,p,R2,s2,f2,rfl,sc,kp⟩:=ly R1 A1 h2
    obtain⟨vs,_,c⟩:=sc.at (aG.refl _) R2.sm (R2.held kp) fun _ h=>h
    exact⟨p,rfl,⟨vs,c⟩,q _ F2 H1 (X1.frz s2 f2) R2 kp (xX sc)⟩
  | false=>
    refine .inr ⟨F,e,r,e1,R0,h1,fun F1 H1 v X1 R1 A1=>?_⟩
    obtain⟨F2,p,R2,s2,f2,rfl,sc,kp⟩:=ly R1 A1 h2
    obtain⟨vs,_,c⟩:=sc.at (aG.refl _) R2.sm (R2.held kp) fun _ h=>h
    exact⟨p,rfl,⟨vs,c⟩,q _ F2 H1 (X1.frz s2 f2) R2 kp (zS sc)⟩
def tQ(fs:FA):FI:=fun e=>(fs e).bind fun p=>match p.1 with
  | [r]=>(Bm p.2 r).map fun s=>(gK 0 s.2.1,s.2.2,p.2)
  | _=>none
theorem sC(hK:X.K=K)(hg:Gl X "enumerate")(hm:X.mg "enumerate"=none)(ha:PA X [a] (fA K fs))(hs:Nl [a] X.env=[(false,Nj a X.env)]):PI X (.Tuple es k0 tp) (.Call (.Name "enumerate" p) [a] [] pos) (fI K (tQ fs)):=((AE (es:=es) (k0:=k0) (tp:=tp) hK hg hm ha hs).or (AF (es:=es) (k0:=k0) (tp:=tp) hK hg hm ha hs)).mono fun σ H R hh=>by
  obtain⟨F,e,items,own,e',R0,hf,q⟩:=hh
  unfold tQ at hf
  obtain⟨⟨rs,e1⟩,h1,hf⟩:=MP hf
  match rs,h1,hf with
  | [r],h1,hf=>
  obtain⟨⟨b,xs,ow⟩,h2,hf⟩:=MQ hf
  cases hf
  cases b with
  | true=>
    refine .inl ⟨F,e,_,e1,R0,h1,fun F1 H1 vs X1 R1 A1=>?_⟩
    obtain⟨v,rfl,A2⟩:=jK A1
    obtain⟨F2,p,R2,s2,f2,rfl,sc,kp⟩:=ly R1 A2 h2
    obtain⟨vs,_,c⟩:=sc.at (aG.refl _) R2.sm (R2.held kp) fun _ h=>h
    exact⟨p,rfl,⟨vs,c⟩,q _ F2 H1 (X1.frz s2 f2) R2 kp (vw sc)⟩
  | false=>
    refine .inr ⟨F,e,_,e1,R0,h1,fun F1 H1 vs X1 R1 A1=>?_⟩
    obtain⟨v,rfl,A2⟩:=jK A1
    obtain⟨F2,p,R2,s2,f2,rfl,sc,kp⟩:=ly R1 A2 h2
    obtain⟨vs,_,c⟩:=sc.at (aG.refl _) R2.sm (R2.held kp) fun _ h=>h
    exact⟨p,rfl,⟨vs,c⟩,q _ F2 H1 (X1.frz s2 f2) R2 kp (vy sc)⟩
def oW(j:Int):Bool:=decide (-1000000≤j)&&decide (j≤1000000)
theorem oX{j:Int}(h:oW j=true): -1000000≤j∧j≤1000000:=by
  unfold oW at h
  rw [NP,decide_eq_true_iff,decide_eq_true_iff] at h
  exact h
def cI(fs:FA):FI:=fun e=>(fs e).bind fun p=>match p.1 with
  | [r]=>(cg r).bind fun j=>if oW j=true then some (bM 0 j.toNat,[],p.2) else none
  | _=>none
theorem cW(hg:Gl X "range")(hm:X.mg "range"=none)(ha:PA X [a] (fA K fs))(hs:Nl [a] X.env=[(false,Nj a X.env)]):PI X tg (.Call (.Name "range" p) [a] [] pos) (fI K (cI fs)):=(ym hg hm ha hs).mono fun σ H R hh=>by
  obtain⟨F,e,items,own,e',R0,hf,q⟩:=hh
  unfold cI at hf
  obtain⟨⟨rs,e1⟩,h1,hf⟩:=MP hf
  match rs,h1,hf with
  | [r],h1,hf=>
  obtain⟨j,h2,hf⟩:=MP hf
  split at hf
  case isFalse=>cases hf
  case isTrue hj=>
  cases hf
  refine⟨F,e,_,e1,R0,h1,fun F1 H1 vs X1 R1 A1=>?_⟩
  obtain⟨v,rfl,A2⟩:=jK A1
  have:=oX hj
  exact⟨j,by rw [bz A2 h2],by lia,by lia,q _ F1 H1 X1 R1 (fun _ h=>by cases h) ox⟩
def rQ(fs:FA):FI:=fun e=>(fs e).bind fun p=>match p.1 with
  | [r,t]=>(cg r).bind fun i=>(cg t).bind fun j=>if (oW i&&oW j)=true then some (bM i (j - i).toNat,[],p.2) else none
  | _=>none
theorem yr(hg:Gl X "range")(hm:X.mg "range"=none)(ha:PA X [a,b] (fA K fs))(hs:Nl [a,b] X.env=[(false,Nj a X.env),(false,Nj b X.env)])(hs2:Nl [b] X.env=[(false,Nj b X.env)]):PI X tg (.Call (.Name "range" p) [a,b] [] pos) (fI K (rQ fs)):=(yn hg hm ha hs hs2).mono fun σ H R hh=>by
  obtain⟨F,e,items,own,e',R0,hf,q⟩:=hh
  unfold rQ at hf
  obtain⟨⟨rs,e1⟩,h1,hf⟩:=MP hf
  match rs,h1,hf with
  | [r,t],h1,hf=>
  obtain⟨i,h2,hf⟩:=MP hf
  obtain⟨j,h3,hf⟩:=MP hf
  split at hf
  case isFalse=>cases hf
  case isTrue hj=>
  cases hf
  rw [NP] at hj
  refine⟨F,e,_,e1,R0,h1,fun F1 H1 vs X1 R1 A1=>?_⟩
  obtain⟨v,u,rfl,A3,A2⟩:=jL A1
  have:=oX hj.1
  have:=oX hj.2
  exact⟨i,j,by rw [bz A3 h2,bz A2 h3],⟨by lia,by lia,by lia,by lia⟩,q _ F1 H1 X1 R1 (fun _ h=>by cases h) ox⟩
open Classical in
def rB(own:gU)(g:FG)(f:FS):List MY→FS
  | [],e=>some (.nx e)
  | x::r,e=>(g x e).bind fun e1=>(f e1).bind fun fl=>match fl with
    | .nx e2=>if keeps own e2 then rB own g f r e2 else none
    | .ct e2=>if keeps own e2 then rB own g f r e2 else none
    | .bk e2=>some (.nx e2)
    | .rt v e2=>some (.rt v e2)
def eV(W:List Nat)(fi:FI)(g:FG)(f:FS):FS:=fun e=>(fi e).bind fun p=>if (p.2.1.all fun q=> !W.contains q.1)=true then rB p.2.1 g f p.1 p.2.2 else none
theorem gZ{W1 W2:List Nat}{iter:Na}{body:List Nq}{fi:FI}{g:FG}{f:FS}(hp:PassesOwn (Ni X.prog X.w) X.A X.env X.xe)(hc:X.calm=true)(hi:PI X tg iter (fI K fi))(hg:PG X tg (fG K g W1))(hb:mM X body (fS K f W2))(hs:∀x,Py iter X.env x=pure x):
    PS X (.For tg iter body [] pos) (fS K (eV (W1++W2) fi g f) (W1++W2)):=(Fv hp hc hi hg hb hs).mono fun D σ0 H0 hh=>by
  obtain⟨F0,e0,fl,R0,hf,q0⟩:=hh
  unfold eV at hf
  obtain⟨⟨items,own,e1⟩,h1,hf⟩:=MP hf
  dsimp only at hf
  split at hf
  case isFalse=>cases hf
  case isTrue hW=>
  have hW':∀p∈own,p.1∉W1++W2:=fun p hp=>by
    have:=OQ.mp hW p hp
    simpa using this
  refine⟨F0,e0,items,own,e1,R0,h1,fun J F1 H1 X1 R1 kp ok=>?_⟩
  have s1:∀j,j∈W1→j∈W1++W2:=fun j h=>OV.mpr (.inl h)
  have s2:∀j,j∈W2→j∈W1++W2:=fun j h=>OV.mpr (.inr h)
  have q1:nP K (W1++W2) σ0 F1 H1 e1 D fl:=q0.later (W1:=[]) X1.s (fun j h=>by cases h) fun j h=>h
  refine⟨fun i m σ H=>m=items.length - i∧i≤items.length∧II K own σ0 F1 (fun e=>rB own g f (items.drop i) e=some fl) (fun σ F H e=>nP K (W1++W2) σ F H e D fl) σ H,
    ⟨items.length,by simp,Qr _,.mk R1 kp ↥4 (aG.refl _) hf q1⟩,?_⟩
  rintro i m σ H ⟨rfl,hi,⟨R,kp,hσ,sF,hf,q⟩⟩
  rename_i F e
  have held:xC K σ0 F H own:=fun p hp=>by
    obtain⟨l,vs,g1,g2⟩:=R.held kp p hp
    exact⟨l,vs,by rw [←hσ p hp];exact g1,g2⟩
  obtain⟨go,stop,yld⟩:=ok F H sF R.sm held
  by_cases hlt:i < items.length
  · have hd:items.drop i=items[i]::items.drop (i+1):=Sl hlt
    rw [hd] at hf
    unfold rB at hf
    obtain⟨e2,h2,hf⟩:=MP hf
    obtain⟨fl2,h3,hf⟩:=MP hf
    refine .inr ⟨go i hlt,II K own σ0 F1 (fun e=>rB own g f (items.drop (i+1)) e=some fl) (fun σ F H e=>nP K (W1++W2) σ F H e D fl),
      fun σ' H' r=>⟨items.length - (i+1),by lia,rfl,hlt,r⟩,fun x H' hy=>?_⟩
    obtain⟨F',sH,sF',sm',fz,hx⟩:=yld i items[i] x H' (NL hlt) hy
    obtain⟨R',X'⟩:=R.step sH sF' sm' fz
    refine⟨F',e,items[i],e2,R',hx,h2,fun σ2 x2 R2=>⟨F',e2,fl2,R2,h3,?_⟩⟩
    have q2:nP K (W1++W2) σ2 F' H' e2 D fl:=(q.later (W1:=[]) (W2:=W1++W2) X'.s (fun j h=>by cases h) fun j h=>h).later x2 s1 fun j h=>h
    have w2:∀p∈own,σ2[p.1]?=σ0[p.1]?:=fun p hp=>(x2.wr p.1 fun z=>hW' p hp (s1 _ z)).trans (hσ p hp)
    cases fl2 with
    | nx e3=>
      intro F3 H3 σ3 x3 R3
      dsimp only at hf
      split at hf
      case isFalse=>cases hf
      case isTrue kp3=>
      exact .mk R3 kp3 (fun p hp=>(x3.wr p.1 fun z=>hW' p hp (s2 _ z)).trans (w2 p hp)) (sF.trans (sF'.trans x3.sf)) hf (q2.later x3 s2 fun j h=>h)
    | ct e3=>
      intro F3 H3 σ3 x3 R3
      dsimp only at hf
      split at hf
      case isFalse=>cases hf
      case isTrue kp3=>
      exact .mk R3 kp3 (fun p hp=>(x3.wr p.1 fun z=>hW' p hp (s2 _ z)).trans (w2 p hp)) (sF.trans (sF'.trans x3.sf)) hf (q2.later x3 s2 fun j h=>h)
    | bk e3=>
      cases hf
      exact fun F3 H3 σ3 x3 R3=>q2 F3 H3 σ3 (x3.mono s2) R3
    | rt r e3=>
      cases hf
      exact fun F3 H3 σ3 v x3 R3 A3=>q2 F3 H3 σ3 v (x3.mono s2) R3 A3
  · have hd:items.drop i=[]:=Re ↥0
    rw [hd] at hf
    cases hf
    exact .inl ⟨stop i ↥0,q F H σ dH.refl R⟩
end
def vt:Option (Option Sv)→Bool
  | some (some (.l _))=>true
  | _=>false
theorem wC{s:Option (Option Sv)}:vt s=true↔ ∃xs,s=some (some (.l xs)):=by
  unfold vt
  split
  · simp
  · rename_i h
    constructor
    · intro z;cases z
    · rintro⟨xs,rfl⟩;exact absurd rfl (h xs)
def gE(pos:Nat→Option Nat)(ei e:En):En:=e.mapIdx fun i s=>match s with
  | some (.l xs)=>match pos i with
    | some k=>(ei[k]?).join
    | none=>some (.l xs)
  | s=>s
theorem bO{pos:Nat→Option Nat}{ei e:En}{i:Nat}:(gE pos ei e)[i]?=(e[i]?).map fun s=>match s with
  | some (.l xs)=>match pos i with
    | some k=>(ei[k]?).join
    | none=>some (.l xs)
  | s=>s:=by unfold gE;rw [List.getElem?_mapIdx]
structure tf (σ:L2.St) (e:En) (σi:L2.St) (ei:En) (pos:Nat→Option Nat):Prop where
  a:∀(i k:Nat) (xs:List MY),e[i]?=some (some (.l xs))→pos i=some k→σi[k]?=σ[i]?
  b:∀(k:Nat) (ys:List MY),ei[k]?=some (some (.l ys))→∃(i:Nat) (xs:List MY),e[i]?=some (some (.l xs))∧pos i=some k∧σi[k]?=σ[i]?
section
variable{K:⇑0}{σ σi σi':L2.St}{F H F' H':Hp}{e ei ei':En}{pos:Nat→Option Nat}
def GA(e:En):Prop:=∀(i:Nat) (xss:List (List MY)),e[i]?≠some (some (.n xss))
theorem tf.own(s:tf σ e σi ei pos)(hn:GA ei){a:MW}{H H':Hp}(h:cN σi ei H a):∃(i k:Nat) (xs:List MY),e[i]?=some (some (.l xs))∧pos i=some k∧σ[i]?=some (some (.ref a)):=by
  obtain⟨k,⟨ys,h1,h2⟩ | ⟨xss,_,_,h1,_⟩⟩:=h
  · obtain⟨i,xs,g1,g2,g3⟩:=s.b k ys h1
    exact⟨i,k,xs,g1,g2,by rw [←g3];exact h2⟩
  · exact absurd h1 (hn k xss)
theorem pz(R:bc K F H σ e)(s:tf σ e σi ei pos)(hnn:GA ei)(sf:aG F F')(dom:∀a,H' a=none→H a=none)(fr:∀a vs,F a=none→H a=some (.lst vs)→¬cN σi ei H a→F' a=none)(lst:∀a vs,H a=some (.lst vs)→∃vs',H' a=some (.lst vs'))
    (tmp:∀a o,H a=some o→¬cN σi ei H a→H' a=some o)(fd:∀a m,F a=none→H a=some (.dK m)→¬cN σi ei H a→F' a=none)(R':bc K F' H' σi' ei')(hσ:∀(i k:Nat) (xs:List MY),e[i]?=some (some (.l xs))→pos i=some k→σi'[k]?=σi[k]?)(hsh:∀(i k:Nat) (xs:List MY),e[i]?=some (some (.l xs))→pos i=some k→∃ys,ei'[k]?=some (some (.l ys))):
    bc K F' H' σ (gE pos ei' e)∧e_ σ F H e F' H' (gE pos ei' e)∧∀a,cN σ (gE pos ei' e) H' a→cN σ e H a:=by
  have shp:∀i:Nat,(∃xs,(gE pos ei' e)[i]?=some (some (.l xs)))↔ (∃xs,e[i]?=some (some (.l xs))):=by
    intro i
    rw [bO]
    match h:e[i]? with
    | none=>simp
    | some none=>simp
    | some (some (.d x))=>simp
    | some (some (.n x))=>simp
    | some (some (.l xs))=>
      simp only [Ov]
      constructor
      · intro _;exact⟨xs,rfl⟩
      · intro _
        match hp:pos i with
        | none=>exact⟨xs,rfl⟩
        | some k=>
          obtain⟨ys,g⟩:=hsh i k xs h hp
          exact⟨ys,by show some ((ei'[k]?).join)=_;rw [g];rfl⟩
  have oth:∀(i:Nat) (s:Sv),(∀xs,s≠.l xs)→((gE pos ei' e)[i]?=some (some s)↔ e[i]?=some (some s)):=by
    intro i s hs
    constructor
    · intro h
      rw [bO] at h
      match h1:e[i]?,h with
      | some (some (.d y)),h=>exact h
      | some (some (.n y)),h=>exact h
      | some (some (.l ys)),h=>
        simp only [Ov,Qy] at h
        match hp:pos i,h with
        | none,h=>cases h;exact absurd rfl (hs _)
        | some k,h=>
          obtain⟨zs,g⟩:=hsh i k ys h1 hp
          change (ei'[k]?).join=_ at h
          rw [g] at h;cases h;exact absurd rfl (hs _)
      | some none,h=>simp at h
      | none,h=>simp at h
    · intro h
      rw [bO,h]
      cases s with
      | d y=>rfl
      | n y=>rfl
      | l y=>exact absurd rfl (hs y)
  have out:∀i a,Fp σ e H i a→(∀k xs,e[i]?=some (some (.l xs))→pos i≠some k)→¬cN σi ei H a:=by
    intro i a hi hp z
    obtain⟨j,k,ws,d1,d2,d3⟩:=s.own hnn (H':=H') z
    have:i=j:=R.fp i j a hi (.inl ⟨ws,d1,d3⟩)
    subst this
    exact hp k ws d1 d2
  have keep:∀i a o,Fp σ e H i a→(∀k xs,e[i]?=some (some (.l xs))→pos i≠some k)→H a=some o→H' a=some o:=fun i a o hi hp ha=>tmp a o ha (out i a hi hp)
  have sown:∀a,cN σi ei H a→cN σ e H a:=fun a z=>by
    obtain⟨j,k,ws,d1,d2,d3⟩:=s.own hnn (H':=H') z
    exact⟨j,.inl ⟨ws,d1,d3⟩⟩
  have fs:∀i a,Fp σ (gE pos ei' e) H' i a↔ Fp σ e H i a:=by
    intro i a
    have key:∀xss l,e[i]?=some (some (.n xss))→σ[i]?=some (some (.ref l))→H' l=H l:=fun xss l h1 h2=>by
      obtain⟨l',bs,g1,g2,g3,_⟩:=R.nst i xss h1
      rw [h2] at g1;cases g1
      rw [g3]
      exact keep i l _ (.inr ⟨xss,l,bs,h1,h2,g3,.inl rfl⟩) (fun k xs z=>by rw [h1] at z;cases z) g3
    constructor
    · rintro(⟨xs,h1,h2⟩ | ⟨xss,l,bs,h1,h2,h3,h4⟩)
      · obtain⟨ys,h⟩:=(shp i).mp ⟨xs,h1⟩
        exact .inl ⟨ys,h,h2⟩
      · have h1':=(oth i (.n xss) (fun _ z=>nomatch z)).mp h1
        exact .inr ⟨xss,l,bs,h1',h2,by rw [←key xss l h1' h2];exact h3,h4⟩
    · rintro(⟨xs,h1,h2⟩ | ⟨xss,l,bs,h1,h2,h3,h4⟩)
      · obtain⟨ys,h⟩:=(shp i).mpr ⟨xs,h1⟩
        exact .inl ⟨ys,h,h2⟩
      · exact .inr ⟨xss,l,bs,(oth i (.n xss) (fun _ z=>nomatch z)).mpr h1,h2,by rw [key xss l h1 h2];exact h3,h4⟩
  refine⟨⟨R'.sm,?_,fun i x h=>?_,fun i xs h=>?_,fun i xss h=>?_,fun i j a h1 h2=>R.fp i j a ((fs i a).mp h1) ((fs j a).mp h2)⟩,⟨sf,dom,fun a vs h1 h2 n=>fr a vs h1 h2 fun z=>n (sown a z),lst,fun a o h n=>tmp a o h fun z=>n (sown a z),shp,fun a ⟨i,h⟩=>.inl ⟨i,(fs i a).mp h⟩,fun a m h1 h2 n=>fd a m h1 h2 fun z=>n (sown a z)⟩,fun a ⟨i,h⟩=>⟨i,(fs i a).mp h⟩⟩
  · unfold gE;rw [List.length_mapIdx];exact R.len
  · obtain⟨v,g1,g2⟩:=R.dat i x ((oth i (.d x) (fun _ z=>nomatch z)).mp h)
    exact⟨v,g1,DA.mono sf g2⟩
  · obtain⟨ys,h1⟩:=(shp i).mp ⟨xs,h⟩
    obtain⟨l,vs,g1,g2,g3,g4⟩:=R.own i ys h1
    rw [bO,h1] at h
    simp only [Ov,Qy] at h
    match hp:pos i,h with
    | none,h=>
      cases h
      have np:∀k xs,e[i]?=some (some (Sv.l xs))→pos i≠some k:=fun k xs _ z=>by rw [hp] at z;cases z
      have fi:Fp σ e H i l:=.inl ⟨_,h1,g1⟩
      exact⟨l,vs,g1,fr l vs g2 g3 (out i l fi np),keep i l _ fi np g3,g4.mono sf⟩
    | some k,h=>
      obtain⟨zs,c1⟩:=hsh i k ys h1 hp
      change (ei'[k]?).join=_ at h
      rw [c1] at h;cases h
      obtain⟨l',vs',d1,d2,d3,d4⟩:=R'.own k _ c1
      rw [hσ i k ys h1 hp,s.a i k ys h1 hp] at d1
      exact⟨l',vs',d1,d2,d3,d4⟩
  · have h1:=(oth i (.n xss) (fun _ z=>nomatch z)).mp h
    obtain⟨l,bs,g1,g2,g3,g4,g5,g6,g7⟩:=R.nst i xss h1
    have np:∀k xs,e[i]?=some (some (Sv.l xs))→pos i≠some k:=fun k xs z=>by rw [h1] at z;cases z
    have fi:Fp σ e H i l:=.inr ⟨xss,l,bs,h1,g1,g3,.inl rfl⟩
    refine⟨l,bs,g1,fr l _ g2 g3 (out i l fi np),keep i l _ fi np g3,g4,g5,g6,fun k b ys q1 q2=>?_⟩
    obtain⟨c1,us,c2,c3⟩:=g7 k b ys q1 q2
    have fb:Fp σ e H i b:=.inr ⟨xss,l,bs,h1,g1,g3,.inr (MV q1)⟩
    exact⟨fr b _ c1 c2 (out i b fb np),us,keep i b _ fb np c2,c3.mono sf⟩
end
def dZ(e:En):List Rv→Option (List Sv)
  | []=>some []
  | .d x::r=>(dZ e r).map (.d x::·)
  | .l xs::r=>(dZ e r).map (.d (.list xs)::·)
  | .s i::r=>match e[i]? with
    | some (some (.l xs))=>(dZ e r).map (.l xs::·)
    | _=>none
def aN:List Rv→List Nat
  | []=>[]
  | .s i::r=>i::aN r
  | .d _::r=>aN r
  | .l _::r=>aN r
def dD(rs:List Rv)(i:Nat):Option Nat:=rs.findIdx? fun r=>match r with
  | .s j=>j==i
  | _=>false
def noS:Rv→Prop
  | .s _=>False
  | _=>True
abbrev FM:=List Sv→Option (Rv × List Sv)
def cO(K:⇑0)(n:Nat)(m:FM):Sp:=fun vs H Q _=>vs.length=n∧∃F as r as',bc K F H (vs.map some) (as.map some)∧GA (as.map some)∧m as=some (r,as')∧noS r∧
  ∀F' H' v,e_ (vs.map some) F H (as.map some) F' H' (as'.map some)→bc K F' H' (vs.map some) (as'.map some)→cP K (vs.map some) H F' H' (as'.map some) r v→Q v H'
def bL:List Rv→List Sv→Bool
  | [],[]=>true
  | .s _::r,.l _::s=>bL r s
  | .d _::r,_::s=>bL r s
  | .l _::r,_::s=>bL r s
  | _,_=>false
def Ck:Rv→Bool
  | .s _=>false
  | _=>true
def f_:List Rv→List Sv→En→En
  | .s i::r,.l ys::s,e=>f_ r s (e.set i (some (.l ys)))
  | .d _::r,_::s,e=>f_ r s e
  | .l _::r,_::s,e=>f_ r s e
  | _,_,e=>e
def b_(n:Nat)(m:FM)(fs:FA):FE:=fun e=>(fs e).bind fun p=>(dZ p.2 p.1).bind fun as=>(m as).bind fun z=>if p.1.length=n∧(aN p.1).Nodup∧bL p.1 z.2=true∧Ck z.1=true then some (z.1,f_ p.1 z.2 p.2) else none
theorem iQ:∀{rs:List Rv} {as:List Sv},bL rs as=true→∀(k i:Nat),rs[k]?=some (.s i)→∃ys,as[k]?=some (.l ys)
  | [],[],_,k,i,h=>by simp at h
  | .s j::r,.l ys::s,h,k,i,hk=>by
    cases k with
    | zero=>exact⟨ys,rfl⟩
    | succ k=>simpa using iQ (rs:=r) (as:=s) (by simpa [bL] using h) k i (by simpa using hk)
  | .d x::r,y::s,h,k,i,hk=>by
    cases k with
    | zero=>simp at hk
    | succ k=>simpa using iQ (rs:=r) (as:=s) (by simpa [bL] using h) k i (by simpa using hk)
  | .l x::r,y::s,h,k,i,hk=>by
    cases k with
    | zero=>simp at hk
    | succ k=>simpa using iQ (rs:=r) (as:=s) (by simpa [bL] using h) k i (by simpa using hk)
  | .s _::_,.d _::_,h,_,_,_=>by simp [bL] at h
  | .s _::_,[],h,_,_,_=>by simp [bL] at h
  | .d _::_,[],h,_,_,_=>by simp [bL] at h
  | .l _::_,[],h,_,_,_=>by simp [bL] at h
theorem l6{r0:Rv}{rs:List Rv}{i:Nat}:dD (r0::rs) i=if (match r0 with | .s j=>j==i | _=>false)=true then some 0 else(dD rs i).map (· +1):=by
  unfold dD;rw [QK]
theorem l7{rs:List Rv}{i k:Nat}(h:dD rs i=some k):rs[k]?=some (.s i):=by
  unfold dD at h
  rw [SM] at h
  obtain⟨hk,h1,_⟩:=h
  rw [NL hk]
  split at h1
  · rename_i heq
    rw [heq]
    have:=eq_of_beq h1
    rw [this]
  · cases h1
theorem eO:∀{rs:List Rv} {i:Nat},i∈aN rs↔ Rv.s i∈rs
  | [],i=>by simp [aN]
  | .s j::r,i=>by simp [aN,eO (rs:=r)]
  | .d x::r,i=>by simp [aN,eO (rs:=r)]
  | .l x::r,i=>by simp [aN,eO (rs:=r)]
theorem gy:∀{rs:List Rv} {i k j:Nat},(aN rs).Nodup→rs[k]?=some (.s i)→rs[j]?=some (.s i)→k=j
  | [],i,k,j,_,h,_=>by simp at h
  | .s m::r,i,k,j,hn,h1,h2=>by
    simp only [aN,OY] at hn
    cases k with
    | zero=>
      simp at h1;subst h1
      cases j with
      | zero=>rfl
      | succ j=>exact absurd (eO.mpr (MV (by simpa using h2))) hn.1
    | succ k=>
      cases j with
      | zero=>
        simp at h2;subst h2
        exact absurd (eO.mpr (MV (by simpa using h1))) hn.1
      | succ j=>
        have:=gy (rs:=r) (i:=i) (k:=k) (j:=j) hn.2 (by simpa using h1) (by simpa using h2)
        lia
  | .d x::r,i,k,j,hn,h1,h2=>by
    cases k with
    | zero=>simp at h1
    | succ k=>
      cases j with
      | zero=>simp at h2
      | succ j=>
        have:=gy (rs:=r) (i:=i) (k:=k) (j:=j) (by simpa [aN] using hn) (by simpa using h1) (by simpa using h2)
        lia
  | .l x::r,i,k,j,hn,h1,h2=>by
    cases k with
    | zero=>simp at h1
    | succ k=>
      cases j with
      | zero=>simp at h2
      | succ j=>
        have:=gy (rs:=r) (i:=i) (k:=k) (j:=j) (by simpa [aN] using hn) (by simpa using h1) (by simpa using h2)
        lia
theorem AJ{rs:List Rv}{i:Nat}(h:i∉aN rs):dD rs i=none:=by
  unfold dD
  rw [Rf]
  intro r hr
  cases r with
  | d x=>rfl
  | l x=>rfl
  | s j=>
    have:j≠i:=fun z=>h (by rw [←z];exact eO.mpr hr)
    simpa using this
theorem m8:∀{rs:List Rv} {as:List Sv} {e:En},(aN rs).Nodup→bL rs as=true→(∀j∈aN rs,∃xs,e[j]?=some (some (.l xs)))→f_ rs as e=gE (dD rs) (as.map some) e
  | [],[],e,_,_,_=>by
    refine Ot fun i=>?_
    rw [bO]
    have:dD [] i=none:=rfl
    rw [this]
    simp only [f_]
    match e[i]? with
    | none=>rfl
    | some none=>rfl
    | some (some (.d x))=>rfl
    | some (some (.l x))=>rfl
    | some (some (.n x))=>rfl
  | .d x::r,y::s,e,hn,hl,hs=>by
    rw [show f_ (.d x::r) (y::s) e=f_ r s e from rfl,m8 (by simpa [aN] using hn) (by simpa [bL] using hl) (fun j hj=>hs j (by simpa [aN] using hj))]
    refine Ot fun i=>?_
    rw [bO,bO,l6]
    cases dD r i<;>simp
  | .l x::r,y::s,e,hn,hl,hs=>by
    rw [show f_ (.l x::r) (y::s) e=f_ r s e from rfl,m8 (by simpa [aN] using hn) (by simpa [bL] using hl) (fun j hj=>hs j (by simpa [aN] using hj))]
    refine Ot fun i=>?_
    rw [bO,bO,l6]
    cases dD r i<;>simp
  | .s k::r,.l ys::s,e,hn,hl,hs=>by
    simp only [aN,OY] at hn
    obtain⟨xs,hk⟩:=hs k (by simp [aN])
    have hlt:k < e.length:=(MR hk).1
    rw [show f_ (.s k::r) (.l ys::s) e=f_ r s (e.set k (some (.l ys))) from rfl,m8 hn.2 (by simpa [bL] using hl) (fun j hj=>by
      have z:k≠j:=fun z=>hn.1 (by rw [z];exact hj)
      rw [NG z]
      exact hs j (by simp [aN,hj]))]
    refine Ot fun i=>?_
    rw [bO,bO,l6]
    by_cases z:k=i
    · subst z
      rw [Oc hlt,hk,AJ hn.1]
      simp
    · rw [NG z]
      have:((match (Rv.s k) with | .s j=>j==i | _=>false)=true)=False:=by simp [z]
      simp only [this,if_false]
      cases dD r i<;>simp
  | .s _::_,.d _::_,_,_,h,_=>by simp [bL] at h
  | .s _::_,.n _::_,_,_,h,_=>by simp [bL] at h
  | .s _::_,[],_,_,h,_=>by simp [bL] at h
  | .d _::_,[],_,_,h,_=>by simp [bL] at h
  | .l _::_,[],_,_,h,_=>by simp [bL] at h
  | [],_::_,_,_,h,_=>by simp [bL] at h
theorem fL{e:En}:∀{rs:List Rv} {as:List Sv},dZ e rs=some as→∀j∈aN rs,∃xs,e[j]?=some (some (.l xs))
  | [],_,_,j,h=>by simp [aN] at h
  | .d x::rs,as,q,j,h=>by
    obtain⟨as',q1,rfl⟩:=MQ q
    exact fL q1 j (by simpa [aN] using h)
  | .l x::rs,as,q,j,h=>by
    obtain⟨as',q1,rfl⟩:=MQ q
    exact fL q1 j (by simpa [aN] using h)
  | .s k::rs,as,q,j,h=>by
    unfold dZ at q
    match he:e[k]?,q with
    | some (some (.l xs)),q=>
      obtain⟨as',q1,rfl⟩:=MQ q
      simp only [aN,NX] at h
      rcases h with rfl | h
      · exact⟨xs,he⟩
      · exact fL q1 j h
theorem kl{e:En}:∀{rs:List Rv} {as:List Sv} {k i:Nat},dZ e rs=some as→rs[k]?=some (.s i)→∃xs,as[k]?=some (.l xs)
  | [],_,k,i,_,h=>by simp at h
  | .d x::rs,as,k,i,q,h=>by
    obtain⟨as',q1,rfl⟩:=MQ q
    cases k with
    | zero=>simp at h
    | succ k=>simpa using kl (k:=k) (i:=i) q1 (by simpa using h)
  | .l x::rs,as,k,i,q,h=>by
    obtain⟨as',q1,rfl⟩:=MQ q
    cases k with
    | zero=>simp at h
    | succ k=>simpa using kl (k:=k) (i:=i) q1 (by simpa using h)
  | .s j::rs,as,k,i,q,h=>by
    unfold dZ at q
    match he:e[j]?,q with
    | some (some (.l xs)),q=>
      obtain⟨as',q1,rfl⟩:=MQ q
      cases k with
      | zero=>exact⟨xs,rfl⟩
      | succ k=>simpa using kl (k:=k) (i:=i) q1 (by simpa using h)
section
variable{X:Cx}{K:⇑0}{σ:L2.St}{H0 H:Hp}{e:En}
theorem m5:∀{rs:List Rv} {vs:List V} {as:List Sv} {F:Hp},bc K F H σ e→d_ K σ H0 F H e rs vs→dZ e rs=some as→
    ∃F',bc K F' H σ e∧aG F F'∧(∀a,F a=none→H0 a≠none→F' a=none)∧vs.length=as.length∧rs.length=as.length∧
      (∀(k:Nat) (x:MY),as[k]?=some (.d x)→∃v,vs[k]?=some v∧DA K F' x v)∧∀(k:Nat) (xs:List MY),as[k]?=some (.l xs)→∃i,rs[k]?=some (.s i)∧e[i]?=some (some (.l xs))∧∃v,vs[k]?=some v∧σ[i]?=some (some v)
  | [],vs,as,F,R,h,q=>by
    cases q
    have h':vs=[]:=h
    subst h'
    exact⟨F,R,aG.refl _,fun _ h _=>h,rfl,rfl,fun k x h=>by simp at h,fun k x h=>by simp at h⟩
  | .d x::rs,_,as,F,R,h,q=>by
    obtain⟨v,ws,rfl,h1,h2⟩:=h
    obtain⟨as',q1,rfl⟩:=MQ q
    obtain⟨F',R',s',f',l1,l2,d',o'⟩:=m5 R h2 q1
    refine⟨F',R',s',f',by simp [l1],by simp [l2],fun k y hk=>?_,fun k ys hk=>?_⟩
    · cases k with
      | zero=>simp at hk;subst hk;exact⟨v,rfl,DA.mono s' h1⟩
      | succ k=>simpa using d' k y (by simpa using hk)
    · cases k with
      | zero=>simp at hk
      | succ k=>simpa using o' k ys (by simpa using hk)
  | .l xs::rs,_,as,F,R,h,q=>by
    obtain⟨v,ws,rfl,h1,h2⟩:=h
    obtain⟨as',q1,rfl⟩:=MQ q
    obtain⟨F',R',s',f',l1,l2,d',o'⟩:=m5 R h2 q1
    have key:∃F2,bc K F2 H σ e∧aG F' F2∧(∀a,F' a=none→H0 a≠none→F2 a=none)∧DA K F2 (.list xs) v:=by
      obtain⟨l,us,rfl,g1,g2,g3,g4,g5⟩:=h1
      cases hl:F' l with
      | none=>
        have h1':cP K σ H0 F' H e (.l xs) (.ref l):=⟨l,us,rfl,g1,hl,g3,aT.mono s' g4,g5⟩
        obtain⟨F2,R2,s2,d2,f2⟩:=h1'.frozen R'
        exact⟨F2,R2,s2,f2,d2⟩
      | some o=>
        have:=R'.sm _ _ hl
        rw [g3] at this;cases this
        exact⟨F',R',aG.refl _,fun _ h _=>h,d9.mpr ⟨l,us,rfl,.inl (.inl hl),aT.mono s' g4⟩⟩
    obtain⟨F2,R2,s2,f2,d2⟩:=key
    refine⟨F2,R2,s'.trans s2,fun a ha hn=>f2 a (f' a ha hn) hn,by simp [l1],by simp [l2],fun k y hk=>?_,fun k ys hk=>?_⟩
    · cases k with
      | zero=>simp at hk;subst hk;exact⟨v,rfl,d2⟩
      | succ k=>
        obtain⟨u,c1,c2⟩:=d' k y (by simpa using hk)
        exact⟨u,by simpa using c1,DA.mono s2 c2⟩
    · cases k with
      | zero=>simp at hk
      | succ k=>simpa using o' k ys (by simpa using hk)
  | .s i::rs,_,as,F,R,h,q=>by
    obtain⟨v,ws,rfl,h1,h2⟩:=h
    unfold dZ at q
    match he:e[i]?,q with
    | some (some (.l xs)),q=>
      obtain⟨as',q1,rfl⟩:=MQ q
      obtain⟨F',R',s',f',l1,l2,d',o'⟩:=m5 R h2 q1
      refine⟨F',R',s',f',by simp [l1],by simp [l2],fun k y hk=>?_,fun k ys hk=>?_⟩
      · cases k with
        | zero=>simp at hk
        | succ k=>simpa using d' k y (by simpa using hk)
      · cases k with
        | zero=>simp at hk;subst hk;exact⟨i,rfl,he,v,rfl,h1.1⟩
        | succ k=>simpa using o' k ys (by simpa using hk)
theorem fP{α:Type}{l:List α}{k:Nat}{x:α}:(l.map some)[k]?=some (some x)↔ l[k]?=some x:=by
  rw [NH]
  cases l[k]?<;>simp
theorem cP.noS{σ':L2.St}{e':En}{F H:Hp}{r:Rv}{v:V}(h:cP K σ' H0 F H e' r v)(n:L2.noS r)(ho:∀a,cN σ e H a→H0 a≠none):cP K σ H0 F H e r v:=by
  cases r with
  | d x=>exact h
  | l xs=>
    obtain⟨l,vs,e1,h1,h2,h3,h4,_⟩:=h
    exact⟨l,vs,e1,h1,h2,h3,h4,fun z=>ho l z h1⟩
  | s i=>exact absurd n (by simp [L2.noS])
theorem iC:∀{rs:List Rv} {as:List Sv},dZ e rs=some as→GA (as.map some)
  | [],_,q=>by cases q;intro i xss h;simp at h
  | .d x::rs,as,q=>by
    obtain⟨as',q1,rfl⟩:=MQ q
    have ih:=iC q1
    intro i xss h
    cases i with
    | zero=>simp at h
    | succ i=>exact ih i xss (by simpa using h)
  | .l x::rs,as,q=>by
    obtain⟨as',q1,rfl⟩:=MQ q
    have ih:=iC q1
    intro i xss h
    cases i with
    | zero=>simp at h
    | succ i=>exact ih i xss (by simpa using h)
  | .s j::rs,as,q=>by
    unfold dZ at q
    match he:e[j]?,q with
    | some (some (.l xs)),q=>
      obtain⟨as',q1,rfl⟩:=MQ q
      have ih:=iC q1
      intro i xss h
      cases i with
      | zero=>simp at h
      | succ i=>exact ih i xss (by simpa using h)
theorem Gq{n:Nat}{m:FM}{fs:FA}{Q:VK}{E:XK}(h:fE K (b_ n m fs) σ H Q):Bn (cO K n m) [] E (fA K fs) σ H Q:=by
  obtain⟨F,e,z,e',R,hf,q⟩:=h
  unfold b_ at hf
  obtain⟨⟨rs,e1⟩,h1,hf⟩:=MP hf
  obtain⟨as,h2,hf⟩:=MP hf
  obtain⟨⟨r,as'⟩,h3,hf⟩:=MP hf
  split at hf
  case isFalse=>cases hf
  case isTrue hc=>
  obtain⟨c1,c2,c3,c4⟩:=hc
  cases hf
  refine⟨F,e,rs,e1,R,h1,fun F1 H1 vs X1 R1 A1=>?_⟩
  obtain⟨F2,R2,s2,f2,l1,l2,d2,o2⟩:=m5 R1 A1 h2
  have X2:=X1.frz s2 f2
  rw [Qh]
  have hn:L2.noS r:=by
    cases r with
    | d x=>trivial
    | l x=>trivial
    | s i=>cases c4
  have nN:=iC h2
  have RA:bc K F2 H1 (vs.map some) (as.map some):=by
    refine⟨R2.sm,by simp [l1],fun k x hk=>?_,fun k xs hk=>?_,fun k xss hk=>absurd hk (nN k xss),fun k j l f1 f2=>?_⟩
    · obtain⟨v,g1,g2⟩:=d2 k x (fP.mp hk)
      exact⟨v,fP.mpr g1,g2⟩
    · obtain⟨i,g1,g2,v,g3,g4⟩:=o2 k xs (fP.mp hk)
      obtain⟨l,us,k1,k2,k3,k4⟩:=R2.own i xs g2
      rw [g4] at k1;cases k1
      exact⟨l,us,fP.mpr g3,k2,k3,k4⟩
    · obtain⟨xs,g1,g3⟩:=f1.resolve_right fun⟨xss,_,_,z,_⟩=>nN k xss z
      obtain⟨ys,g2,g4⟩:=f2.resolve_right fun⟨xss,_,_,z,_⟩=>nN j xss z
      obtain⟨i1,a1,a2,v1,a3,a4⟩:=o2 k xs (fP.mp g1)
      obtain⟨i2,b1,b2,v2,b3,b4⟩:=o2 j ys (fP.mp g2)
      have e1:=fP.mp g3
      have e2:=fP.mp g4
      rw [a3] at e1;cases e1
      rw [b3] at e2;cases e2
      have:i1=i2:=R2.inj i1 i2 xs ys l a2 b2 a4 b4
      subst this
      exact gy c2 a1 b1
  have sub:tf σ e1 (vs.map some) (as.map some) (dD rs):=by
    refine⟨fun i k xs g1 g2=>?_,fun k ys g1=>?_⟩
    · have g3:=l7 g2
      obtain⟨zs,hs⟩:=kl h2 g3
      obtain⟨i',a1,a2,v,a3,a4⟩:=o2 k zs hs
      rw [g3] at a1;cases a1
      rw [fP.mpr a3,a4]
    · obtain⟨i,a1,a2,v,a3,a4⟩:=o2 k ys (fP.mp g1)
      refine⟨i,ys,a2,?_,by rw [fP.mpr a3,a4]⟩
      cases hp:dD rs i with
      | none=>
        unfold dD at hp
        rw [Rf] at hp
        have:=hp _ (MV a1)
        simp at this
      | some j=>rw [gy c2 (l7 hp) a1]
  refine⟨by rw [l1,←l2];exact c1,F2,as,r,as',RA,nN,h3,hn,fun F' H' v X3 R3 A3=>?_⟩
  obtain⟨R4,X4,o4⟩:=pz R2 sub nN X3.sf X3.dom X3.fr X3.lst X3.tmp X3.fd R3 (fun _ _ _ _ _=>rfl) fun i k xs g1 g2=>by
    obtain⟨ys,g3⟩:=iQ c3 k i (l7 g2)
    exact⟨ys,fP.mpr g3⟩
  have hb:=m8 (e:=e1) c2 c3 (fL h2)
  rw [←hb] at R4 X4 o4
  exact q F' H' v (X2.trans X4) R4 ((A3.noS hn fun a z=>R2.ownH a (o4 a z)).weak X2.dom)
theorem bu{x:Str}{st:Nq}{f:MW}{fd:Nt}{ps:List Str}{k n:Nat}{m:FM}{a:Na}{es:List Na}{fs:FA}{p pos:Pos}(h:bE X.K X.mg x st f fd ps)(G:aW X.prog X.w X.K X.mg X.base cD k f fd ps (cO K n m))(hr:dI k X.A)(ha:PA X (a::es) (fA K fs))
    (hg:Gl X x)(hdb:(x==("__debug__":Str))=false)(he:Nl (a::es) X.env=(false,Nj a X.env)::Nl es X.env)(hpl:(NO pos (Nl es X.env)).any (·.1)=false):
    PE X (.Call (.Name x p) (a::es) [] pos) (fE K (b_ n m fs)):=(Jp h G hr ha hg hdb he hpl).mono fun _ _ _ h=>Gq h
def xA:List Sv→En→Option (List Sv)
  | [],_=>some []
  | .d x::r,e=>(xA r e.tail).map (.d x::·)
  | .l _::r,e=>match e.head? with
    | some (some (.l ys))=>(xA r e.tail).map (.l ys::·)
    | _=>none
  | .n _::_,_=>none
def zo(n:Nat)(e:En):Rv→Option Rv
  | .s i=>if n≤i then match e[i]? with
      | some (some (.l xs))=>some (.l xs)
      | _=>none
    else none
  | r=>some r
def qp(W:List Nat)(as:List Sv):Bool:=W.all fun j=>match as[j]? with
  | some (.l _)=>false
  | _=>true
def iY(n k:Nat)(W:List Nat)(f:FS):FM:=fun as=>if as.length=n∧qp W as=true then(f (as.map some++Np k none)).bind fun fl=>match fl with
    | .rt r e=>(zo n e r).bind fun r'=>(xA as e).map fun as'=>(r',as')
    | .nx e=>(xA as e).map fun as'=>(.d .none,as')
    | _=>none
  else none
theorem nv:∀{as as':List Sv} {e:En},xA as e=some as'→as'.length=as.length∧(∀(j:Nat) (x:MY),as'[j]?=some (.d x)↔ as[j]?=some (.d x))∧(∀(j:Nat) (ys:List MY),as'[j]?=some (.l ys)→(∃xs,as[j]?=some (.l xs))∧e[j]?=some (some (.l ys)))∧∀(j:Nat) (xs:List MY),as[j]?=some (.l xs)→∃ys,as'[j]?=some (.l ys)
  | [],_,e,h=>by cases h;simp
  | .d x::r,_,e,h=>by
    obtain⟨s,h1,rfl⟩:=MQ h
    obtain⟨g1,g2,g3,g4⟩:=nv h1
    refine⟨by simp [g1],fun j y=>?_,fun j ys hj=>?_,fun j xs hj=>?_⟩
    · cases j with
      | zero=>simp
      | succ j=>simpa using g2 j y
    · cases j with
      | zero=>simp at hj
      | succ j=>
        obtain⟨c1,c2⟩:=g3 j ys (by simpa using hj)
        refine⟨by simpa using c1,?_⟩
        rw [List.getElem?_tail] at c2
        exact c2
    · cases j with
      | zero=>simp at hj
      | succ j=>simpa using g4 j xs (by simpa using hj)
  | .l xs::r,_,e,h=>by
    unfold xA at h
    match he:e.head?,h with
    | some (some (.l ys)),h=>
      obtain⟨s,h1,rfl⟩:=MQ h
      obtain⟨g1,g2,g3,g4⟩:=nv h1
      refine⟨by simp [g1],fun j y=>?_,fun j zs hj=>?_,fun j zs hj=>?_⟩
      · cases j with
        | zero=>simp
        | succ j=>simpa using g2 j y
      · cases j with
        | zero=>
          simp at hj;subst hj
          exact⟨⟨xs,rfl⟩,by rw [List.head?_eq_getElem?] at he;exact he⟩
        | succ j=>
          obtain⟨c1,c2⟩:=g3 j zs (by simpa using hj)
          refine⟨by simpa using c1,?_⟩
          rw [List.getElem?_tail] at c2
          exact c2
      · cases j with
        | zero=>exact⟨ys,rfl⟩
        | succ j=>simpa using g4 j zs (by simpa using hj)
  | .n x::r,_,e,h=>by simp [xA] at h
end
theorem eZ{α:Type}{l:List (Option α)}{k i:Nat}{x:α}(h:(l++Np k none)[i]?=some (some x)):l[i]?=some (some x):=by
  rw [List.getElem?_append] at h
  split at h
  · exact h
  · rw [RU] at h
    split at h<;>simp at h
theorem fg{α:Type}{l:List (Option α)}{k i:Nat}{x:α}(h:l[i]?=some (some x)):(l++Np k none)[i]?=some (some x):=by
  have hi:i < l.length:=(MR h).1
  rw [Pz hi];exact h
section
variable{K:⇑0}{F H:Hp}{σ:L2.St}{e:En}{k:Nat}
theorem rC{i:Nat}{a:MW}:Fp (σ++Np k none) (e++Np k none) H i a↔ Fp σ e H i a:=by
  constructor
  · rintro(⟨xs,h1,h2⟩ | ⟨xss,l,bs,h1,h2,h3⟩)
    · exact .inl ⟨xs,eZ h1,eZ h2⟩
    · exact .inr ⟨xss,l,bs,eZ h1,eZ h2,h3⟩
  · rintro(⟨xs,h1,h2⟩ | ⟨xss,l,bs,h1,h2,h3⟩)
    · exact .inl ⟨xs,fg h1,fg h2⟩
    · exact .inr ⟨xss,l,bs,fg h1,fg h2,h3⟩
theorem nc{a:MW}:cN (σ++Np k none) (e++Np k none) H a↔ cN σ e H a:=⟨fun⟨i,h⟩=>⟨i,rC.mp h⟩,fun⟨i,h⟩=>⟨i,rC.mpr h⟩⟩
theorem bc.pad(R:bc K F H σ e):bc K F H (σ++Np k none) (e++Np k none):=by
  refine⟨R.sm,by simp [R.len],fun i x h=>?_,fun i xs h=>?_,fun i xss h=>?_,fun i j a h1 h2=>R.fp i j a (rC.mp h1) (rC.mp h2)⟩
  · obtain⟨v,g1,g2⟩:=R.dat i x (eZ h)
    exact⟨v,fg g1,g2⟩
  · obtain⟨l,vs,g1,g2⟩:=R.own i xs (eZ h)
    exact⟨l,vs,fg g1,g2⟩
  · obtain⟨l,bs,g1,g2⟩:=R.nst i xss (eZ h)
    exact⟨l,bs,fg g1,g2⟩
end
theorem sS:∀{as as':List Sv} {e:En},xA as e=some as'→GA (as'.map some)
  | [],_,e,h=>by cases h;intro i xss z;simp at z
  | .d x::r,_,e,h=>by
    obtain⟨s,h1,rfl⟩:=MQ h
    have ih:=sS h1
    intro i xss z
    cases i with
    | zero=>simp at z
    | succ i=>exact ih i xss (by simpa using z)
  | .l xs::r,_,e,h=>by
    unfold xA at h
    match he:e.head?,h with
    | some (some (.l ys)),h=>
      obtain⟨s,h1,rfl⟩:=MQ h
      have ih:=sS h1
      intro i xss z
      cases i with
      | zero=>simp at z
      | succ i=>exact ih i xss (by simpa using z)
  | .n x::r,_,e,h=>by simp [xA] at h
theorem t_{W:List Nat}{as:List Sv}(h:qp W as=true){j:Nat}{xs:List MY}(hj:as[j]?=some (.l xs)):j∉W:=fun z=>by
  unfold qp at h
  have:=OQ.mp h j z
  rw [hj] at this
  cases this
section
variable{P:Nk}{w:Ng}{K:⇑0}{mg:Str→Option MX}{base:Nh}
theorem bE.fn{x:Str}{st:Nq}{f:MW}{fd:Nt}{N ps:List Str}{k n k0:Nat}{W:List Nat}{fb:FS}(h:bE K mg x st f fd ps)(S:aM N ps (aw st))(hn:ps.length=n)(hN:N.length=n+k0)
    (hb:∀(cdv:MX) (A:Nn) (outer:List Env) (s:MZ) (H:Hp) (E:XK),dI k (A.deeper (envOfC x (aw st) ↑s f cdv))→mM (u9 cD P w K mg base N x (aw st) f cdv A outer s H E).nox (dk st) (fS K fb W)):
    aW P w K mg base cD (k+1) f fd ps (cO K n (iY n k0 W fb)):=by
  refine h.F.ok S (fun vs H Q E q=>?_) fun cdv A outer s H vs Q E hr hsp=>⟨_,hb cdv A outer s H E hr,?_⟩
  · rw [hn];exact q.1
  · obtain⟨hl,F,as,r,as',R,nN,hm,nr,q⟩:=hsp
    unfold iY at hm
    split at hm
    case isFalse=>cases hm
    case isTrue hc=>
    obtain⟨la,nl⟩:=hc
    obtain⟨fl,h1,hm⟩:=MP hm
    have hst:gR N vs=vs.map some++Np k0 none:=by unfold gR;rw [hN,hl];congr 2;lia
    rw [hst]
    have key:∀{as':List Sv} {e':En},xA as e'=some as'→∀F' H' σ',dH W (vs.map some++Np k0 none) F H (as.map some++Np k0 none) σ' F' H' e'→bc K F' H' σ' e'→
        e_ (vs.map some) F H (as.map some) F' H' (as'.map some)∧bc K F' H' (vs.map some) (as'.map some)∧∀a,cN (vs.map some) (as'.map some) H' a→cN (vs.map some) (as.map some) H a:=by
      intro as' e' hu F' H' σ' X' R'
      obtain⟨u1,u2,u3,u4⟩:=nv hu
      have uN:=sS hu
      have ow:∀a,cN (vs.map some) (as'.map some) H' a→cN (vs.map some) (as.map some) H a:=by
        rintro a ⟨j,⟨ys,c1,c2⟩ | ⟨xss,_,_,z,_⟩⟩
        · obtain⟨⟨xs,c3⟩,_⟩:=u3 j ys (fP.mp c1)
          exact⟨j,.inl ⟨xs,fP.mpr c3,c2⟩⟩
        · exact absurd z (uN j xss)
      have sg:∀(j:Nat) (xs:List MY),as[j]?=some (.l xs)→σ'[j]?=(vs.map some)[j]?:=fun j xs hj=>by
        rw [X'.wr j (t_ nl hj)]
        have hj2:j < (vs.map some).length:=by rw [Nw,hl,←la];exact(MR hj).1
        rw [Pz hj2]
      refine⟨⟨X'.sf,X'.dom,fun a vs h1 h2 hn=>X'.fr a vs h1 h2 fun z=>hn (nc.mp z),X'.lst,fun a o ha hn=>X'.tmp a o ha fun z=>hn (nc.mp z),fun j=>?_,fun a z=>.inl (ow a z),fun a m h1 h2 hn=>X'.fd a m h1 h2 fun z=>hn (nc.mp z)⟩,⟨R'.sm,?_,fun j y hj=>?_,fun j ys hj=>?_,fun j xss hj=>absurd hj (uN j xss),fun j i l f1 f2=>?_⟩,ow⟩
      · constructor
        · rintro⟨ys,hj⟩
          obtain⟨⟨xs,c⟩,_⟩:=u3 j ys (fP.mp hj)
          exact⟨xs,fP.mpr c⟩
        · rintro⟨xs,hj⟩
          obtain⟨ys,c⟩:=u4 j xs (fP.mp hj)
          exact⟨ys,fP.mpr c⟩
      · simp [u1,hl,la]
      · obtain⟨v,c1,c2⟩:=R.dat j y (fP.mpr ((u2 j y).mp (fP.mp hj)))
        exact⟨v,c1,DA.mono X'.sf c2⟩
      · obtain⟨⟨xs,c1⟩,c2⟩:=u3 j ys (fP.mp hj)
        obtain⟨l,us,d1,d2⟩:=R'.own j ys c2
        exact⟨l,us,by rw [←sg j xs c1];exact d1,d2⟩
      · obtain⟨xs,g1,g3⟩:=f1.resolve_right fun⟨xss,_,_,z,_⟩=>uN j xss z
        obtain⟨ys,g2,g4⟩:=f2.resolve_right fun⟨xss,_,_,z,_⟩=>uN i xss z
        obtain⟨⟨zs,c1⟩,c2⟩:=u3 j xs (fP.mp g1)
        obtain⟨⟨ws,c3⟩,c4⟩:=u3 i ys (fP.mp g2)
        exact R'.inj j i xs ys l c2 c4 (by rw [sg j zs c1];exact g3) (by rw [sg i ws c3];exact g4)
    refine⟨F,as.map some++Np k0 none,fl,R.pad,h1,?_⟩
    cases fl with
    | bk e'=>cases hm
    | ct e'=>cases hm
    | nx e'=>
      obtain⟨as2,h2,hm⟩:=MQ hm
      cases hm
      intro F' H' σ' X' R'
      obtain⟨X2,R2,_⟩:=key h2 F' H' σ' X' R'
      exact q F' H' .non X2 R2 ((jy (K:=K) (F:=F')).mpr rfl)
    | rt r0 e'=>
      obtain⟨r1,h2,hm⟩:=MP hm
      obtain⟨as2,h3,hm⟩:=MQ hm
      cases hm
      intro F' H' σ' v X' R' A'
      obtain⟨X2,R2,ow2⟩:=key h3 F' H' σ' X' R'
      have noo:∀l,H l=none→¬cN (vs.map some) (as'.map some) H' l:=fun l hl z=>R.ownH l (ow2 l z) hl
      refine q F' H' v X2 R2 ?_
      cases r0 with
      | d y=>cases h2;exact A'
      | l ys=>
        cases h2
        obtain⟨l,us,d0,d1,d2,d3,d4,_⟩:=A'
        exact⟨l,us,d0,d1,d2,d3,d4,noo l d1⟩
      | s i=>
        simp only [zo] at h2
        split at h2
        case isFalse=>cases h2
        case isTrue hi=>
        obtain⟨a1,xs,a2⟩:=A'
        rw [a2] at h2
        cases h2
        obtain⟨l,us,d1,d2,d3,d4⟩:=R'.own i _ a2
        rw [a1] at d1;cases d1
        suffices hl0:H l=none from⟨l,us,rfl,hl0,d2,d3,d4,noo l hl0⟩
        rcases X'.own l ⟨i,.inl ⟨_,a2,a1⟩⟩ with z | z
        · obtain⟨j,zf⟩:=nc.mp z
          obtain⟨ys,z1,z2⟩:=zf.resolve_right fun⟨xss,_,_,z,_⟩=>nN j xss z
          have z1':=fP.mp z1
          obtain⟨u1,u2,u3,u4⟩:=nv h3
          obtain⟨ws,w1⟩:=u4 j ys z1'
          obtain⟨_,w2⟩:=u3 j ws w1
          have hj2:j < vs.length:=by rw [hl,←la];exact(MR z1').1
          have e3:σ'[j]?=some (some (.ref l)):=by
            rw [X'.wr j (t_ nl z1'),Pz (by simpa using hj2)]
            exact z2
          have:=R'.inj i j _ ws l a2 w2 a1 e3
          lia
        · exact z
end
def Hd:Option Sv→Option Sv
  | some (.n _)=>none
  | s=>s
def oq(cp:List (Nat × Str))(nT:Nat)(e:En):En:=cp.map (fun p=>Hd (e[p.1]?).join)++Np nT none
def kX(cp:List (Nat × Str))(i:Nat):Option Nat:=cp.findIdx? fun p=>p.1==i
def jX(g:FG)(ft:FT)(fe:FE):List MY→En→List MY→Option (List MY × En)
  | [],e,acc=>some (acc,e)
  | x::r,e,acc=>(g x e).bind fun e1=>(ft e1).bind fun b=>if b.1=true then(fe b.2).bind fun v=>(rl v.1).bind fun d=>if acc.length < 1000000 then jX g ft fe r v.2 (acc++[d]) else none else jX g ft fe r b.2 acc
def j5(cp:List (Nat × Str))(ei e:En):Bool:=cp.all fun p=> !vt e[p.1]? || vt ei[(kX cp p.1).getD 0]?
def bb(cp:List (Nat × Str))(nT:Nat)(fi:FI)(g:FG)(ft:FT)(fe:FE):FE:=fun e=>(fi e).bind fun p=>if (p.2.1.all fun q=> !(cp.any fun c=>c.1==q.1))=true then(jX g ft fe p.1 (oq cp nT p.2.2) []).bind fun z=>if j5 cp z.2 p.2.2=true then some (.l z.1,gE (kX cp) z.2 p.2.2) else none else none
section
variable{K:⇑0}{F H:Hp}{σ:L2.St}{e:En}{cp:List (Nat × Str)}{nT:Nat}
theorem eu{i k:Nat}(h:kX cp i=some k):∃s,cp[k]?=some (i,s):=by
  unfold kX at h
  rw [SM] at h
  obtain⟨hk,h1,_⟩:=h
  refine⟨cp[k].2,?_⟩
  rw [NL hk]
  have:=eq_of_beq h1
  rw [←this]
theorem iO{k:Nat}{x:Sv}(h:(oq cp nT e)[k]?=some (some x)):∃i s,cp[k]?=some (i,s)∧e[i]?=some (some x):=by
  unfold oq at h
  have h:=eZ h
  rw [NH] at h
  obtain⟨p,h1,h2⟩:=MQ h
  refine⟨p.1,p.2,h1,?_⟩
  cases q:e[p.1]? with
  | none=>rw [q] at h2;cases h2
  | some y=>
    rw [q] at h2
    match y,h2 with
    | some (.d z),h2=>exact congrArg some h2
    | some (.l z),h2=>exact congrArg some h2
    | some (.n z),h2=>cases h2
    | none,h2=>cases h2
theorem iP:GA (oq cp nT e):=by
  intro k xss h
  unfold oq at h
  have h:=eZ h
  rw [NH] at h
  obtain⟨p,h1,h2⟩:=MQ h
  match (e[p.1]?).join,h2 with
  | some (.d z),h2=>cases h2
  | some (.l z),h2=>cases h2
  | some (.n z),h2=>cases h2
  | none,h2=>cases h2
theorem nq{k i:Nat}{s:Str}{v:V}(h:cp[k]?=some (i,s))(hv:σ[i]?=some (some v)):(gD cp nT σ)[k]?=some (some v):=by
  unfold gD
  refine fg ?_
  rw [NH,h]
  simp [hv]
theorem lu{k i:Nat}{s:Str}{v:V}(h:cp[k]?=some (i,s))(hv:(gD cp nT σ)[k]?=some (some v)):σ[i]?=some (some v):=by
  unfold gD at hv
  have hv:=eZ hv
  rw [NH,h] at hv
  simp only [Ov,Qy] at hv
  cases q:σ[i]? with
  | none=>rw [q] at hv;cases hv
  | some y=>rw [q] at hv;exact congrArg some hv
theorem q_:∀{cp:List (Nat × Str)} {k j i:Nat} {s t:Str},(cp.map (·.1)).Nodup→cp[k]?=some (i,s)→cp[j]?=some (i,t)→k=j
  | [],k,j,i,s,t,_,h,_=>by simp at h
  | p::r,k,j,i,s,t,hn,h1,h2=>by
    simp only [Nx,OY] at hn
    cases k with
    | zero=>
      simp at h1;subst h1
      cases j with
      | zero=>rfl
      | succ j=>
        have hm:(i,t)∈r:=MV (i:=j) (by simpa using h2)
        exact absurd (Pi.mpr ⟨(i,t),hm,rfl⟩) hn.1
    | succ k=>
      cases j with
      | zero=>
        simp at h2;subst h2
        have hm:(i,s)∈r:=MV (i:=k) (by simpa using h1)
        exact absurd (Pi.mpr ⟨(i,s),hm,rfl⟩) hn.1
      | succ j=>
        have:=q_ (cp:=r) (k:=k) (j:=j) hn.2 (by simpa using h1) (by simpa using h2)
        lia
theorem bc.inn(R:bc K F H σ e)(hn:(cp.map (·.1)).Nodup):bc K F H (gD cp nT σ) (oq cp nT e)∧tf σ e (gD cp nT σ) (oq cp nT e) (kX cp):=by
  refine⟨⟨R.sm,by simp [gD,oq],fun k x h=>?_,fun k xs h=>?_,fun k xss h=>absurd h (iP k xss),fun k j l f1 f2=>?_⟩,⟨fun i k xs h1 h2=>?_,fun k ys h=>?_⟩⟩
  · obtain⟨i,s,h1,h2⟩:=iO h
    obtain⟨v,g1,g2⟩:=R.dat i x h2
    exact⟨v,nq h1 g1,g2⟩
  · obtain⟨i,s,h1,h2⟩:=iO h
    obtain⟨l,vs,g1,g2⟩:=R.own i xs h2
    exact⟨l,vs,nq h1 g1,g2⟩
  · obtain⟨xs,h1,h3⟩:=f1.resolve_right fun⟨xss,_,_,z,_⟩=>iP k xss z
    obtain⟨ys,h2,h4⟩:=f2.resolve_right fun⟨xss,_,_,z,_⟩=>iP j xss z
    obtain⟨i,s,a1,a2⟩:=iO h1
    obtain⟨i',s',b1,b2⟩:=iO h2
    have:i=i':=R.inj i i' xs ys l a2 b2 (lu a1 h3) (lu b1 h4)
    subst this
    exact q_ hn a1 b1
  · obtain⟨s,g⟩:=eu h2
    obtain⟨l,vs,g1,_⟩:=R.own i xs h1
    rw [g1];exact nq g g1
  · obtain⟨i,s,h1,h2⟩:=iO h
    obtain⟨l,vs,g1,_⟩:=R.own i ys h2
    refine⟨i,ys,h2,?_,by rw [g1];exact nq h1 g1⟩
    cases hp:kX cp i with
    | none=>
      unfold kX at hp
      rw [Rf] at hp
      have:=hp _ (MV h1)
      simp at this
    | some j=>
      obtain⟨t,g⟩:=eu hp
      rw [q_ hn g h1]
theorem bc.putT(R:bc K F H σ e){l:MW}{ws:List V}(h1:F l=none)(h2:¬cN σ e H l):bc K F (bC H l (.lst ws)) σ e∧∀a,cN σ e (bC H l (.lst ws)) a↔ cN σ e H a:=
  R.keep (aG.refl F) (fun b o q=>by
    have z:b≠l:=fun z=>by rw [z,h1] at q;cases q
    rw [aA z];exact R.sm b o q) (fun a ⟨i,h⟩=>(R.fpAt h).1) fun a o ha q=>by
      have z:a≠l:=fun z=>h2 (by rw [←z];exact ha)
      rw [aA z];exact q
theorem dH.putT{W:List Nat}{σ':L2.St}{F' H':Hp}{e':En}(x:dH W σ F H e σ' F' H' e'){l:MW}{o:HO}(h:H l=none)(ho:∀a,cN σ' e' (bC H' l o) a↔ cN σ' e' H' a):dH W σ F H e σ' F' (bC H' l o) e':=by
  refine⟨x.sf,fun a q=>?_,x.fr,fun a vs q=>?_,fun a u q n=>?_,fun a q=>x.own a ((ho a).mp q),x.wr,x.fd⟩
  · by_cases z:a=l
    · rw [z];exact h
    · rw [aA z] at q;exact x.dom a q
  · have z:a≠l:=fun z=>by rw [z,h] at q;cases q
    rw [aA z];exact x.lst a vs q
  · have z:a≠l:=fun z=>by rw [z,h] at q;cases q
    rw [aA z];exact x.tmp a u q n
inductive CI (K:⇑0) (W:List Nat) (σ0:L2.St) (F1 H1:Hp) (e0:En) (l:MW) (P:Hp→En→List MY→Prop) (σ':L2.St) (H':Hp):Prop
  | mk {F':Hp} {ei:En} {acc:List MY} {vs:List V} (R:bc K F' H' σ' ei) (X:dH W σ0 F1 H1 e0 σ' F' H' ei) (fl:F' l=none) (no:¬cN σ' ei H' l) (hl:H' l=some (.lst vs)) (da:aT K F' acc vs) (hc:P F' ei acc):CI K W σ0 F1 H1 e0 l P σ' H'
theorem uI{Q:VK}{fi:FI}{g:FG}{W:List Nat}{ft:FT}{fe:FE}(hn:(cp.map (·.1)).Nodup)(hW:∀j∈W,cp.length≤j)(h:fE K (bb cp nT fi g ft fe) σ H Q):xn cp nT (fI K fi) (fG K g W) (fT K ft) (fE K fe) σ H Q:=by
  obtain⟨F0,e0,z,e',R0,hf,q⟩:=h
  unfold bb at hf
  obtain⟨⟨items,own,e1⟩,h1,hf⟩:=MP hf
  dsimp only at hf
  split at hf
  case isFalse=>cases hf
  case isTrue hO=>
  obtain⟨⟨out,eo⟩,h2,hf⟩:=MP hf
  dsimp only at hf
  split at hf
  case isFalse=>cases hf
  case isTrue hB=>
  cases hf
  refine⟨⟨F0,e0,items,own,e1,R0,h1,fun J F1 H1 X1 R1 kp ok=>?_⟩⟩
  intro l hl
  obtain⟨Ri,sub⟩:=R1.inn (nT:=nT) hn
  have hFl:F1 l=none:=R1.freeF hl
  let Iv:Nat→L2.St→Hp→Prop:=fun i=>CI K W (gD cp nT σ) F1 H1 (oq cp nT e1) l fun _ ei acc=>jX g ft fe (items.drop i) ei acc=some (out,eo)
  have notown:∀p∈own,∀a,σ[p.1]?=some (some (.ref a))→¬cN (gD cp nT σ) (oq cp nT e1) H1 a:=by
    rintro p hp a ha ⟨k,zf⟩
    obtain⟨xs,c1,c2⟩:=zf.resolve_right fun⟨xss,_,_,z,_⟩=>iP k xss z
    obtain⟨i,s,d1,d2⟩:=iO c1
    have e2:=lu d1 c2
    have:p.1=i:=R1.inj p.1 i p.2 xs a (kp p hp) d2 ha e2
    have hh:=OQ.mp hO p hp
    simp only [Bool.not_eq_true',Rg,beq_iff_eq] at hh
    exact hh (i,s) (MV d1) this.symm
  refine⟨fun i m σ' H'=>m=items.length - i∧i≤items.length∧Iv i σ' H',⟨items.length,by simp,Qr _,.mk (Ri.putT hFl (fun z=>(Ri.ownH l z) hl)).1 (dH.refl.putT hl (Ri.putT hFl (fun z=>(Ri.ownH l z) hl)).2) hFl (fun z=>(Ri.ownH l (((Ri.putT hFl (fun z=>(Ri.ownH l z) hl)).2 l).mp z)) hl) ay aT.nil h2⟩,?_⟩
  rintro i m σ' H' ⟨rfl,hi,⟨R',X',fl,no,hl',da,hc⟩⟩
  rename_i F' ei acc vs
  have held:xC K σ F' H' own:=fun p hp=>by
    obtain⟨a,us,c1,c2,c3,c4⟩:=R1.own p.1 p.2 (kp p hp)
    exact⟨a,us,c1,X'.tmp a _ c3 (notown p hp a c1),c4.mono X'.sf⟩
  obtain⟨go,stop,yld⟩:=ok F' H' X'.sf R'.sm held
  by_cases hlt:i < items.length
  · have hd:items.drop i=items[i]::items.drop (i+1):=Sl hlt
    rw [hd] at hc
    unfold jX at hc
    obtain⟨e2,c2,hc⟩:=MP hc
    obtain⟨⟨b,e3⟩,c3,hc⟩:=MP hc
    refine .inr ⟨go i hlt,Iv (i+1),fun σ2 H2 r=>⟨items.length - (i+1),by lia,rfl,hlt,r⟩,fun x H2 hy=>?_⟩
    obtain⟨F2,sH,sF2,sm2,fz,hx⟩:=yld i items[i] x H2 (NL hlt) hy
    obtain⟨R2,X2⟩:=R'.step sH sF2 sm2 fz
    refine⟨F2,ei,items[i],e2,R2,hx,c2,fun σ3 X3 R3=>⟨F2,e2,b,e3,R3,c3,fun F4 H4 X4 R4=>?_⟩⟩
    have hlH2:H2 l=some (.lst vs):=sH _ _ hl'
    have no2:¬cN σ' ei H2 l:=fun z=>by
      rcases X2.ow l z with z | z
      · exact no z
      · rw [hl'] at z;cases z
    have no3:¬cN σ3 e2 H2 l:=fun z=>by
      rcases X3.own l z with z | z
      · exact no2 z
      · rw [hlH2] at z;cases z
    have fl2:F2 l=none:=fz l fl (by rw [hl'];simp)
    have hlH4:H4 l=some (.lst vs):=X4.tmp l _ hlH2 no3
    have fl4:F4 l=none:=X4.fr l vs fl2 hlH2 no3
    have no4:¬cN σ3 e3 H4 l:=fun z=>by
      rcases X4.ow l z with z | z
      · exact no3 z
      · rw [hlH2] at z;cases z
    have E4:dH W (gD cp nT σ) F1 H1 (oq cp nT e1) σ3 F4 H4 e3:=((X'.trans X2.s).trans X3).trans X4.s
    cases b with
    | false=>
      rw [if_neg ↥1] at hc
      exact Hb (.mk R4 E4 fl4 no4 hlH4 (da.mono (sF2.trans X4.sf)) hc)
    | true=>
      rw [if_pos rfl] at hc
      obtain⟨⟨r,e5⟩,c5,hc⟩:=MP hc
      obtain⟨d,c6,hc⟩:=MP hc
      split at hc
      case isFalse=>cases hc
      case isTrue hlen=>
      refine EG ⟨F4,e3,r,e5,R4,c5,fun F5 H5 v X5 R5 A5=>?_⟩
      have hlH5:H5 l=some (.lst vs):=X5.tmp l _ hlH4 no4
      have fl5:F5 l=none:=X5.fr l vs fl4 hlH4 no4
      have no5:¬cN σ3 e5 H5 l:=fun z=>by
        rcases X5.ow l z with z | z
        · exact no4 z
        · rw [hlH4] at z;cases z
      obtain⟨F6,R6,s6,d6,f6⟩:=d_.frozen R5 (rs:=[r]) (vs:=[v]) ⟨v,[],rfl,A5,rfl⟩ (lN c6)
      have fl6:F6 l=none:=f6 l fl5 (by rw [hlH4];simp)
      have X6:=X5.frz s6 f6
      have ll:=da.len
      have sl:Nr=16777216:=Om
      have dv:DA K F6 d v:=by
        simp only [aT] at d6
        obtain⟨v',r',e',hv,_⟩:=d6
        cases e';exact hv
      obtain⟨R7,o7⟩:=R6.putT (ws:=vs++[v]) fl6 no5
      exact⟨vs,hlH5,by lia,.mk R7 ((E4.trans X6.s).putT hl o7) fl6 (fun z=>no5 ((o7 l).mp z)) ay ((da.mono (sF2.trans (X4.sf.trans (X5.sf.trans s6)))).append (aT.one dv)) hc⟩
  · have hd:items.drop i=[]:=Re ↥0
    rw [hd] at hc
    cases hc
    refine .inl ⟨stop i ↥0,?_⟩
    obtain⟨R9,X9,o9⟩:=pz R1 sub iP X'.sf X'.dom X'.fr X'.lst X'.tmp X'.fd R' (fun i k xs g1 g2=>X'.wr k fun z=>by
      obtain⟨s,g⟩:=eu g2
      have:=(MR g).1
      have:=hW k z
      lia) fun i k xs g1 g2=>by
        obtain⟨s,g⟩:=eu g2
        unfold j5 at hB
        have hb:=OQ.mp hB _ (MV g)
        simp only [g1,g2,Rx,vt,Bool.not_true,Bool.false_or] at hb
        exact wC.mp hb
    exact q F' H' (.ref l) (X1.trans X9) R9 ⟨l,vs,rfl,X1.dom l hl,fl,hl',da,fun z=>R1.ownH l (o9 l z) hl⟩
end
section
variable{X:Cx}{K:⇑0}{a b:Na}{es:List Na}{fa fb:FE}{fs:FA}{pos p p2 p3:Pos}{lo hi:Option Na}
def ig:En→Rv→Option Rv:=fun _ x=>(cg x).map fun i=>.d (.int (-i))
theorem Hl:IB K (rU fun i=>.int (-i)) ig:=by
  intro σ H0 F H e x z v Q R A hg q
  obtain⟨i,h5,h4⟩:=MQ hg
  cases h4
  exact⟨i,bz A h5,q F H _ (e_.refl _ _ _ _) R o6⟩
theorem kZ(ha:PE X a (fE K fa)):PE X (.UnaryOp .USub a pos) (fE K (ny ig fa)):=HE Gp Hl ha
theorem bh(hK:X.K=K)(ha:PE X a (fE K fa))(hb:PE X b (fE K fb)):PE X (.BinOp a .Add b pos) (fE K (aq aO fa fb)):=qr (hK ▸ Cu) GO ha hb
theorem mI(ha:PE X a (fE K fa))(hb:PE X b (fE K fb)):PE X (.BinOp a .Sub b pos) (fE K (aq gn fa fb)):=qr Fj HU ha hb
theorem cV(hK:X.K=K)(ha:PE X a (fE K fa))(hb:PE X b (fE K fb)):PE X (.BinOp a .Mult b pos) (fE K (aq bJ fa fb)):=qr (hK ▸ Cz) Hk ha hb
theorem eU(ha:PE X a (fE K fa))(hb:PE X b (fE K fb)):PE X (.BinOp a .FloorDiv b pos) (fE K (aq c_ fa fb)):=qr Ar ED ha hb
theorem br(ha:PE X a (fE K fa))(hb:PE X b (fE K fb)):PE X (.BinOp a .Mod b pos) (fE K (aq bf fa fb)):=qr Cy Hj ha hb
theorem D5(ha:PE X a (fE K fa))(hb:PE X b (fE K fb)):PE X (.BinOp a .Pow b pos) (fE K (aq vh fa fb)):=qr Fh Hy ha hb
theorem aU(hK:X.K=K)(ha:PE X a (fE K fa))(hb:PE X b (fE K fb))(hs:mZ b):PE X (.Subscript a b pos) (fE K (aq a8 fa fb)):=HB (hK ▸ Jk) Jl ha hb hs
theorem dY{fl fh:FO}(hK:X.K=K)(he:PE X a (fE K fa))(hl:PO X lo (fO K fl))(hh:PO X hi (fO K fh)):PE X (.Subscript a (.Slice lo hi none p2) pos) (fE K (pZ fa fl fh)):=by subst hK;exact AY he hl hh
structure pL (X:Cx) (K:⇑0) (op:CmpOp) (g:En→Rv→Rv→Option Rv):Prop where
  ex:∃r,hV X (NU op) r∧hG K r g
theorem tF:pL X K .Lt wz:=⟨_,Hr,Jn⟩
theorem BR:pL X K .Gt BJ:=⟨_,Hq,Jd⟩
theorem GU:pL X K .GtE GZ:=⟨_,Ho,Jc⟩
theorem pN{k:Nat}(hK:X.K=K)(hr:dI k X.A):pL X K .Eq (cG false):=⟨_,hK ▸ E' hr,DR⟩
theorem yZ{k:Nat}(hK:X.K=K)(hr:dI k X.A):pL X K .NotEq (cG true):=⟨_,hK ▸ Fg hr,DR⟩
theorem GV{k:Nat}(hK:X.K=K)(hr:dI k X.A):pL X K .In (B1 false):=⟨_,hK ▸ Fb hr,Ji⟩
theorem IZ:pL X K .Is G0:=⟨_,Fc,Jj⟩
theorem BS:pL X K .IsNot nU:=⟨_,yi,B5⟩
theorem oS{op:CmpOp}{g:En→Rv→Rv→Option Rv}(h:pL X K op g)(ha:PE X a (fE K fa))(hb:PE X b (fE K fb))(hm:PV op b=false):PE X (.Compare a [op] [b] pos) (fE K (aq g fa fb)):=by
  obtain⟨r,h1,h2⟩:=h.ex;exact FC h1 h2 ha hb hm
theorem bH{op:CmpOp}{g:En→Rv→Rv→Option Rv}(h:pL X K op g)(ha:PE X a (fE K fa))(hb:PE X b (fE K fb))(hm:PV op b=false):PT X (.Compare a [op] [b] pos) (fT K (a9 (aq g fa fb))):=by
  obtain⟨r,h1,h2⟩:=h.ex;exact FH h1 h2 ha hb hm
structure pK (X:Cx) (K:⇑0) (x:Str) (g:En→List Rv→Option Rv):Prop where
  ex:(∃id r,fZ X (.builtin id) r∧fH K r g∧OX x=some (.builtin id))∨∃T r,fZ X (.type T) r∧fH K r g∧OX x=some (.type T)
theorem bA{x:Str}{g:En→List Rv→Option Rv}(h:pK X K x g)(hg:Gl X x)(hm:X.mg x=none)(ha:PA X (a::es) (fA K fs))(hn:x≠"__name__")(hdb:(x==("__debug__":Str))=false)
    (he:Nl (a::es) X.env=(false,Nj a X.env)::Nl es X.env)(hpl:(NO pos (Nl es X.env)).any (·.1)=false):PE X (.Call (.Name x p) (a::es) [] pos) (fE K (aJ g fs)):=by
  rcases h.ex with ⟨id,r,h1,h2,h3⟩ | ⟨T,r,h1,h2,h3⟩
  · exact AW h1 h2 hg hm h3 ha hn hdb he hpl
  · exact yq h1 h2 hg hm h3 ha hn hdb he hpl
theorem b_len(hK:X.K=K):pK X K "len" (g1 cY):=⟨.inl ⟨_,_,hK ▸ qX,Hc,PySem.boot_len⟩⟩
theorem b_abs:pK X K "abs" (g1 vd):=⟨.inl ⟨_,_,y6,GN,PyProof.Rows.boot_abs⟩⟩
theorem b_min(hc:X.calm=true):pK X K "min" (g2 rL):=⟨.inl ⟨_,_,xI hc,Hi,PyProof.Rows.boot_min⟩⟩
theorem b_max(hc:X.calm=true):pK X K "max" (g2 tO):=⟨.inl ⟨_,_,xH hc,Hg,PyProof.Rows.boot_max⟩⟩
theorem b_int:pK X K "int" (g1 pS):=⟨.inr ⟨_,_,xG,G9,PyProof.Rows.boot_int⟩⟩
theorem b_tuple(hK:X.K=K):pK X K "tuple" (g1 cZ):=⟨.inr ⟨_,_,hK ▸ pO,Dr,PyProof.Rows.boot_tuple⟩⟩
theorem b_list(hK:X.K=K):pK X K "list" (g1 je):=⟨.inr ⟨_,_,hK ▸ qY,ET,Sg⟩⟩
theorem b_repr{k:Nat}(hK:X.K=K)(hr:dI k X.A):pK X K "repr" (g1 mD):=⟨.inl ⟨_,_,hK ▸ uW hr,FY,PyProof.Rows.boot_repr⟩⟩
def jS(fs:FA):FE:=fun e=>(fs e).bind fun p=>match p.1 with
  | [r]=>(cg r).bind fun j=>if 0≤j∧j≤100000 then some (.l ((mV j.toNat).map .int),p.2) else none
  | _=>none
theorem ug(hc:X.calm=true)(hgl:Gl X "list")(hml:X.mg "list"=none)(hg:Gl X "range")(hm:X.mg "range"=none)(ha:PA X [a] (fA K fs))(hs:Nl [a] X.env=[(false,Nj a X.env)])
    (he:Nl [.Call (.Name "range" p2) [a] [] p3] X.env=[(false,Nj (.Call (.Name "range" p2) [a] [] p3) X.env)]):PE X (.Call (.Name "list" p) [.Call (.Name "range" p2) [a] [] p3] [] pos) (fE K (jS fs)):=(sj hc hgl hml hg hm ha hs he).mono fun σ H Q h=>by
  obtain⟨F,e,z,e',R,hf,q⟩:=h
  unfold jS at hf
  obtain⟨⟨rs,e1⟩,h1,hf⟩:=MP hf
  match rs,h1,hf with
  | [r],h1,hf=>
  obtain⟨j,h2,hf⟩:=MP hf
  split at hf
  case isFalse=>cases hf
  case isTrue hj=>
  cases hf
  refine⟨F,e,_,e1,R,h1,fun F1 H1 vs X1 R1 A1=>?_⟩
  obtain⟨v,rfl,A2⟩:=jK A1
  refine⟨j,by rw [bz A2 h2],hj.1,hj.2,fun t ht=>?_⟩
  obtain⟨R3,X3,hF,no⟩:=R1.newL (vs:=(mV j.toNat).map V.int) ht
  exact q _ _ _ (X1.trans X3) R3 ⟨t,_,rfl,X1.dom _ ht,hF,ay,aT.ints.mpr rfl,no⟩
abbrev aZ:FT:=fun e=>some (true,e)
theorem yJ.mono{ifs:List Na}{t t':TT}(h:yJ X ifs t)(m:∀σ H Q,t' σ H Q→t σ H Q):yJ X ifs t':=fun pins s σ H Q I q=>h pins s σ H Q I (m σ H Q q)
theorem cL:yJ X [] (fT K aZ):=C3.mono fun σ H Q h=>by
  obtain⟨F,e,b,e',R,hf,q⟩:=h
  cases hf
  exact q F H (e_.refl _ _ _ _) R
theorem Dc{c:Na}{ft:FT}(h:PT X c (fT K ft)):yJ X [c] (fT K ft):=C4 h
variable{o:Na}{fo:FE}{apos cpos:Pos}
theorem iu(hK:X.K=K)(ho:PE X o (fE K fo))(ha:PA X (a::es) (fA K fs))(hbase:Qn o "append" X.env (Nj o X.env)=Nj o X.env)
    (hfew:((NO cpos (Nl (a::es) X.env)).all (fun x=> !x.1)&&(backToKw cpos (Qo [] X.env)).all (fun x=>x.1.isSome)
      &&decide ((a::es).length+([]:List Oe).length+(if ([]:List Oe).isEmpty then 0 else 1) < 30))=true)
    (hline:(apos.endLine==cpos.line)=true)(hs:Nl (a::es) X.env=(false,Nj a X.env)::Nl es X.env)(hplain:(NO cpos (Nl es X.env)).any (·.1)=false):
    PE X (.Call (.Attribute o "append" apos) (a::es) [] cpos) (fE K (gA dX fo fs)):=by
  subst hK;exact D6 Sa PySem.F.type_list_append lZ yP ho ha hbase hfew hline hs hplain
theorem C6(hK:X.K=K)(ho:PE X o (fE K fo))(ha:PA X (a::es) (fA K fs))(hbase:Qn o "pop" X.env (Nj o X.env)=Nj o X.env)
    (hfew:((NO cpos (Nl (a::es) X.env)).all (fun x=> !x.1)&&(backToKw cpos (Qo [] X.env)).all (fun x=>x.1.isSome)
      &&decide ((a::es).length+([]:List Oe).length+(if ([]:List Oe).isEmpty then 0 else 1) < 30))=true)
    (hline:(apos.endLine==cpos.line)=true)(hs:Nl (a::es) X.env=(false,Nj a X.env)::Nl es X.env)(hplain:(NO cpos (Nl es X.env)).any (·.1)=false):
    PE X (.Call (.Attribute o "pop" apos) (a::es) [] cpos) (fE K (gA kb fo fs)):=by
  subst hK;exact D6 PySem.F.slot_list_pop PySem.F.type_list_pop Ah CW ho ha hbase hfew hline hs hplain
end
theorem vP{K:⇑0}{H:Hp}{a:MW}{ns:List Int}{m:FM}{as':List Sv}{Q:VK}{E:XK}(hS:gC K H a (ns.map V.int))(hm:m [.d (.list (ns.map .int))]=some (.d (.bool true),as'))(q:∀H',Q (.bl true) H'):cO K 1 m [.ref a] H Q E:=by
  refine⟨rfl,H,[.d (.list (ns.map .int))],_,as',?_,?_,hm,trivial,fun F' H' v X' R' A'=>?_⟩
  · refine⟨aG.refl _,rfl,fun i x h=>?_,fun i xs h=>?_,fun i xss h=>?_,fun i j l f1 _=>?_⟩
    · match i,h with
      | 0,h=>
        simp at h;subst h
        exact⟨.ref a,rfl,d9.mpr ⟨a,_,rfl,hS,aT.ints.mpr rfl⟩⟩
      | i+1,h=>simp at h
    · match i,h with
      | 0,h=>simp at h
      | i+1,h=>simp at h
    · match i,h with
      | 0,h=>simp at h
      | i+1,h=>simp at h
    · rcases f1 with ⟨_,h,_⟩ | ⟨_,_,_,h,_⟩
      · match i,h with
        | 0,h=>simp at h
        | i+1,h=>simp at h
      · match i,h with
        | 0,h=>simp at h
        | i+1,h=>simp at h
  · intro i xss h
    match i,h with
    | 0,h=>simp at h
    | i+1,h=>simp at h
  · rw [fM.mp (show DA K F' (.bool true) v from A')];exact q H'
section
variable{K:⇑0}{σ:L2.St}{H0 F H F' H':Hp}{e e':En}
theorem bc.putN(R:bc K F H σ e){i:Nat}{xss yss:List (List MY)}{l:MW}{bs:List MW}{H':Hp}(hi:e[i]?=some (some (.n xss)))(hs:σ[i]?=some (some (.ref l)))
    (hF:F l=none)(hl:H' l=some (.lst (bs.map V.ref)))(hlen:bs.length=yss.length)(hnd:bs.Nodup)(hnl:l∉bs)(hin:∀(k:Nat) (b:MW) (ys:List MY),bs[k]?=some b→yss[k]?=some ys→F b=none∧∃us,H' b=some (.lst us)∧aT K F ys us)
    (hbs:∀b∈bs,Fp σ e H i b∨¬cN σ e H b)(hdom:∀a,H' a=none→H a=none)(hst:∀a o,H a=some o→a≠l→a∉bs→H' a=some o)(hlst:∀a vs,H a=some (.lst vs)→∃vs',H' a=some (.lst vs')):
    bc K F H' σ (e.set i (some (.n yss)))∧(∀a,cN σ (e.set i (some (.n yss))) H' a→cN σ e H a∨a∈bs)∧∀j:Nat,(∃xs,(e.set i (some (Sv.n yss)))[j]?=some (some (.l xs)))↔ (∃xs,e[j]?=some (some (.l xs))):=by
  have hlt:i < e.length:=(MR hi).1
  have gi:(e.set i (some (Sv.n yss)))[i]?=some (some (.n yss)):=Oc hlt
  obtain⟨l0,bs0,a1,a2,a3,_⟩:=R.nst i xss hi
  rw [hs] at a1;cases a1
  have fl:Fp σ e H i l:=.inr ⟨xss,l,bs0,hi,hs,a3,.inl rfl⟩
  have own:∀j a,j≠i→Fp σ e H j a→a≠l∧a∉bs:=fun j a hj hq=>by
    refine⟨fun z=>hj (R.fp j i a hq (by rw [z];exact fl)),fun z=>?_⟩
    rcases hbs a z with h | h
    · exact hj (R.fp j i a hq h)
    · exact h ⟨j,hq⟩
  have fpi:∀a,Fp σ (e.set i (some (.n yss))) H' i a→a=l∨a∈bs:=fun a q=>by
    rcases q with ⟨zs,q,_⟩ | ⟨zss,l',bs',q,q2,q3,q4⟩
    · rw [gi] at q;cases q
    · rw [hs] at q2;cases q2
      rw [hl] at q3
      have e1:bs=bs':=List.map_inj_right (fun _ _ z=>V.ref.inj z) |>.mp (HO.lst.inj (NQ q3))
      subst e1;exact q4
  obtain⟨R',fs⟩:=R.upd1 (F':=F) (H':=H') (e':=e.set i (some (.n yss))) i (by rw [Pa];exact R.len) ↥4 (fun j hj=>NG (NF hj)) (aG.refl F)
    (fun b o q=>by
      have z1:b≠l:=fun z=>by rw [z,hF] at q;cases q
      have z2:b∉bs:=fun z=>by
        obtain⟨k,hk⟩:=Sk z
        have hk2:k < yss.length:=by rw [←hlen];exact(MR hk).1
        rw [(hin k b yss[k] hk (NL hk2)).1] at q;cases q
      exact hst b o (R.sm b o q) z1 z2)
    (fun j a _ q=>(R.fpAt q).1) (fun j a o hj q ha=>let ⟨z1,z2⟩:=own j a hj q;hst a o ha z1 z2)
    (fun x q=>by rw [gi] at q;cases q) (fun zs q=>by rw [gi] at q;cases q) (fun zss q=>by rw [gi] at q;cases q;exact⟨l,bs,hs,hF,hl,hlen,hnd,hnl,hin⟩)
    (fun a j hj q q2=>by
      obtain⟨z1,z2⟩:=own j a hj q2
      exact(fpi a q).elim z1 z2)
  refine⟨R',fun a ⟨j,q⟩=>?_,fun j=>?_⟩
  · by_cases z:j=i
    · subst z
      rcases fpi a q with z | z
      · exact .inl ⟨j,by rw [z];exact fl⟩
      · exact .inr z
    · exact .inl ⟨j,(fs j a z).mp q⟩
  · by_cases z:j=i
    · subst z;rw [gi,hi];simp
    · rw [NG (NF z)]
theorem bc.frzN(R:bc K F H σ e){i:Nat}{xss:List (List MY)}(hi:e[i]?=some (some (.n xss))):∃F' v,σ[i]?=some (some v)∧DA K F' (.list (xss.map .list)) v∧bc K F' H σ (e.set i (some (.d (.list (xss.map .list)))))∧e_ σ F H e F' H (e.set i (some (.d (.list (xss.map .list))))):=by
  obtain⟨l,bs,a1,a2,a3,a4,a5,a6,a7⟩:=R.nst i xss hi
  have hlt:i < e.length:=(MR hi).1
  have inF:∀a,a=l∨a∈bs→Fp σ e H i a:=fun a h=>.inr ⟨xss,l,bs,hi,a1,a3,h⟩
  let F':Hp:=fun a=>if a=l∨a∈bs then H a else F a
  have pos:∀a,(a=l∨a∈bs)→F' a=H a:=fun a h=>if_pos h
  have neg:∀a,¬(a=l∨a∈bs)→F' a=F a:=fun a h=>if_neg h
  have sF:aG F F':=fun b o q=>by
    have z:¬(b=l∨b∈bs):=fun z=>by rw [(R.fpAt (inF b z)).1] at q;cases q
    rw [neg b z];exact q
  have sm:aG F' H:=fun b o q=>by
    by_cases z:b=l∨b∈bs
    · rw [pos b z] at q;exact q
    · rw [neg b z] at q;exact R.sm b o q
  have dd:∀(cs:List MW) (yss:List (List MY)),cs.length=yss.length→(∀(k:Nat) (b:MW) (ys:List MY),cs[k]?=some b→yss[k]?=some ys→b∈bs∧∃us,H b=some (.lst us)∧aT K F ys us)→aT K F' (yss.map .list) (cs.map V.ref):=by
    intro cs
    induction cs with
    | nil=>
      intro yss h _
      cases yss with
      | nil=>exact aT.nil
      | cons _ _=>simp at h
    | cons c cs ih=>
      intro yss h hh
      cases yss with
      | nil=>simp at h
      | cons ys yss=>
        obtain⟨c1,us,c2,c3⟩:=hh 0 c ys rfl rfl
        refine aT.cons (d9.mpr ⟨c,us,rfl,.inl (.inl ?_),c3.mono sF⟩) (ih yss (by simpa using h) fun k b zs q1 q2=>hh (k+1) b zs (by simpa using q1) (by simpa using q2))
        rw [pos c (.inr c1)];exact c2
  have da:DA K F' (.list (xss.map .list)) (.ref l):=d9.mpr ⟨l,_,rfl,.inl (.inl (by rw [pos l (.inl rfl)];exact a3)),dd bs xss a4 fun k b ys q1 q2=>by
    obtain⟨_,us,c2,c3⟩:=a7 k b ys q1 q2
    exact⟨MV q1,us,c2,c3⟩⟩
  have gi:(e.set i (some (Sv.d (.list (xss.map .list)))))[i]?=some (some (.d (.list (xss.map .list)))):=Oc hlt
  have nofp:∀a,¬Fp σ (e.set i (some (.d (.list (xss.map .list))))) H i a:=fun a q=>by
    rcases q with ⟨zs,q,_⟩ | ⟨xss,_,_,q,_⟩
    · rw [gi] at q;cases q
    · rw [gi] at q;cases q
  obtain⟨R',fs⟩:=R.upd1 (F':=F') (H':=H) (e':=e.set i (some (.d (.list (xss.map .list))))) i (by rw [Pa];exact R.len) ↥4 (fun j hj=>NG (NF hj)) sF sm
    (fun j a hj q=>by
      rw [neg a fun z=>hj (R.fp j i a q (inF a z))]
      exact(R.fpAt q).1)
    (fun j a o _ _ ha=>ha) (fun x q=>by rw [gi] at q;cases q;exact⟨_,a1,da⟩) (fun zs q=>by rw [gi] at q;cases q) (fun zss q=>by rw [gi] at q;cases q) (fun a j hj q=>absurd q (nofp a))
  refine⟨F',.ref l,a1,da,R',⟨sF,fun _ h=>h,fun a vs h1 h2 h3=>?_,fun a vs h=>⟨vs,h⟩,fun _ _ h _=>h,fun j=>?_,fun a ⟨j,q⟩=>?_,fun a m h1 h2 h3=>by rw [neg a fun z=>h3 ⟨i,inF a z⟩];exact h1⟩⟩
  · rw [neg a fun z=>h3 ⟨i,inF a z⟩];exact h1
  · by_cases z:j=i
    · subst z;rw [gi,hi];simp
    · rw [NG (NF z)]
  · by_cases z:j=i
    · subst z;exact absurd q (nofp a)
    · exact .inl ⟨j,(fs j a z).mp q⟩
theorem bc.setN(R:bc K F H σ e)(i:Nat){l:MW}(h1:F l=none)(h2:H l=some (.lst []))(h4:¬cN σ e H l):bc K F H (σ.set i (some (.ref l))) (e.set i (some (.n [])))∧∀a,cN (σ.set i (some (.ref l))) (e.set i (some (.n []))) H a→cN σ e H a∨a=l:=by
  have gi:∀s,(e.set i (some (Sv.n [])))[i]?=some (some s)→s=.n []∧i < e.length:=fun s q=>by
    have hlt:i < e.length:=by have:=(MR q).1;simpa using this
    rw [Oc hlt] at q
    exact⟨(NQ (NQ q)).symm,hlt⟩
  have onefp:∀a,Fp (σ.set i (some (.ref l))) (e.set i (some (.n []))) H i a→a=l:=fun a q=>by
    rcases q with ⟨zs,q,q2⟩ | ⟨xss,l',bs,q,q2,q3,q4⟩
    · cases (gi _ q).1
    · obtain⟨_,hlt⟩:=gi _ q
      rw [Oc (by rw [R.len];exact hlt)] at q2
      cases q2
      rw [h2] at q3
      have:bs=[]:=by
        cases bs with
        | nil=>rfl
        | cons _ _=>have z:=HO.lst.inj (NQ q3);simp at z
      subst this
      exact q4.elim id fun z=>by cases z
  obtain⟨R',fs⟩:=R.upd1 (F':=F) (H':=H) (σ':=σ.set i (some (.ref l))) (e':=e.set i (some (.n []))) i (by rw [Pa,Pa];exact R.len) (fun j hj=>NG (NF hj)) (fun j hj=>NG (NF hj)) (aG.refl F) R.sm
    (fun j a _ q=>(R.fpAt q).1) (fun j a o _ _ ha=>ha) (fun y q=>by cases (gi _ q).1) (fun zs q=>by cases (gi _ q).1)
    (fun zss q=>by
      obtain⟨z,hlt⟩:=gi _ q
      cases z
      exact⟨l,[],Oc (by rw [R.len];exact hlt),h1,h2,rfl,List.nodup_nil,by simp,fun k b ys q=>by simp at q⟩)
    (fun a j hj q q2=>h4 ⟨j,by rw [onefp a q] at q2;exact q2⟩)
  refine⟨R',fun a ⟨j,q⟩=>?_⟩
  by_cases z:j=i
  · subst z;exact .inr (onefp a q)
  · exact .inl ⟨j,(fs j a z).mp q⟩
end
def jk(e:En)(i:Nat):Option (List (List MY)):=match e[i]? with
  | some (some (.n xss))=>some xss
  | _=>none
theorem fW{e:En}{i:Nat}{xss:List (List MY)}(h:jk e i=some xss):e[i]?=some (some (.n xss)):=by
  unfold jk at h
  split at h
  · rename_i heq;cases h;exact heq
  · cases h
section
variable{X:Cx}{K:⇑0}{a b:Na}{es:List Na}{fa fb:FE}{fs:FA}{pos p p2 p3 pos':Pos}{x:Str}{i:Nat}
def Bc(i:Nat):FS:=fun e=>some (.nx (e.set i (some (.n []))))
theorem C8(hN:X.N.Nodup)(hi:X.N[i]?=some x)(hx:Ek X.env.scope x)(hs:PN (.List [] p) (some (.Name x pos')) pos.line X.env=pure false)(hf:X.fn x=true∨X.env.scope.names.lookup x=some .local):
    PS X (.Assign [.Name x pos'] (.List [] p) pos) (fS K (Bc i) [i]):=(AO hN hi hx (AB si) hs hf).mono fun D σ H h=>by
  obtain⟨F,e,fl,R,hf,q⟩:=h
  cases hf
  refine⟨Qr _,fun l hl=>?_⟩
  obtain⟨R1,X1,f1,n1⟩:=R.newL (vs:=[]) hl
  obtain⟨R2,o2⟩:=R1.setN i f1 ay n1
  refine q F _ _ ⟨X1.sf,X1.dom,X1.fr,X1.lst,X1.tmp,fun a h=>?_,fun j n=>NG (fun z=>n (by simp [z])),X1.fd⟩ R2
  rcases o2 a h with z | z
  · exact X1.ow a z
  · exact .inr (by rw [z];exact hl)
def Qt(X:Cx)(K:⇑0)(a:Na)(f:En→Option Int):Prop:=∃t:TE,PE X a t∧∀σ F H e i (Q:VK),bc K F H σ e→f e=some i→Q (.int i) H→t σ H Q
def t9(i:Nat):En→Option Int:=fun e=>match e[i]? with
  | some (some (.d (.int k)))=>some k
  | _=>none
theorem FD(i:Nat)(hN:X.N[i]?=some x)(hv:yO X.env.scope x)(hd:(x==("__debug__":Str))=false)(hcd:(x==("__classdict__":Str))=false):Qt X K (.Name x pos) (t9 i):=⟨_,iR hN hv hd hcd,fun σ F H e k Q R hf q=>by
  unfold t9 at hf
  split at hf
  · rename_i heq
    cases hf
    obtain⟨v,h1,h2⟩:=R.dat i _ heq
    exact⟨v,h1,by rw [cm.mp h2];exact q⟩
  · cases hf⟩
def nC(k:Int):En→Option Int:=fun _=>some k
def w6(i:Nat)(fv fp:FE)(fq:En→Option Int):FS:=fun e=>(fv e).bind fun r=>(rl r.1).bind fun d=>(jk r.2 i).bind fun _=>(fp r.2).bind fun p=>(cg p.1).bind fun k=>(jk p.2 i).bind fun xss=>(m_ xss.length k).bind fun kn=>(xss[kn]?).bind fun ys=>(fq p.2).bind fun j=>(m_ ys.length j).map fun jn=>.nx (p.2.set i (some (.n (xss.set kn (ys.set jn d)))))
theorem C'{c pq:Na}{fv fp:FE}{fq:En→Option Int}{ps ps2:Pos}(hK:X.K=K)(he:PE X c (fE K fv))(hN:X.N[i]?=some x)(hv:yO X.env.scope x)(hd:(x==("__debug__":Str))=false)(hcd:(x==("__classdict__":Str))=false)(hp:PE X a (fE K fp))(hpl:mZ a)(hq:Qt X K pq fq)
    (ha:∀v,Od (.Subscript (.Subscript (.Name x p) a ps2) pq ps) X.env v=(do
      let ov ←NY [v] (Nj (.Subscript (.Name x p) a ps2) X.env)
      let iv ←NY [v,ov] (Nj pq X.env)
      Pk ps
      NY [v,ov,iv] (setItem ov iv v)
      release [v,ov,iv] []))
    (hs:PQ [.Subscript (.Subscript (.Name x p) a ps2) pq ps] c pos.line X.env=pure false)(hw:PU [.Subscript (.Subscript (.Name x p) a ps2) pq ps] c X.env=pure none)
    (h1:(Ol [.Subscript (.Subscript (.Name x p) a ps2) pq ps] X.env).map (·.2)=[Od (.Subscript (.Subscript (.Name x p) a ps2) pq ps) X.env]):
    PS X (.Assign [.Subscript (.Subscript (.Name x p) a ps2) pq ps] c pos) (fS K (w6 i fv fp fq) []):=by
  obtain⟨tq,q1,q2⟩:=hq
  refine(su he (vH (D3 (zU hK) (iR hN hv hd hcd) hp hpl) q1 pe ha) hs hw h1).mono fun D σ H h=>?_
  obtain⟨F,e,fl,R,hf,q⟩:=h
  unfold w6 at hf
  obtain⟨⟨r,e1⟩,g1,hf⟩:=MP hf
  obtain⟨d,g2,hf⟩:=MP hf
  obtain⟨xs0,g3,hf⟩:=MP hf
  obtain⟨⟨rp,e2⟩,g4,hf⟩:=MP hf
  obtain⟨k,g5,hf⟩:=MP hf
  obtain⟨xss,g6,hf⟩:=MP hf
  obtain⟨kn,g7,hf⟩:=MP hf
  obtain⟨ys,g8,hf⟩:=MP hf
  obtain⟨j,g9,hf⟩:=MP hf
  obtain⟨jn,g10,hf⟩:=MQ hf
  cases hf
  refine⟨F,e,r,e1,R,g1,fun F1 H1 v X1 R1 A1=>?_⟩
  obtain⟨l,bs0,a1,_⟩:=R1.nst i xs0 (fW g3)
  refine⟨_,a1,F1,e1,rp,e2,R1,g4,fun F2 H2 w X2 R2 A2=>?_⟩
  have X12:=X1.trans X2
  obtain⟨F3,R3,s3,d3,f3⟩:=d_.frozen R2 (rs:=[r]) (vs:=[v]) ⟨v,[],rfl,A1.ext X2,rfl⟩ (lN g2)
  have X13:=X12.frz s3 f3
  have g6':=fW g6
  obtain⟨l',bs,c1,c2,c3,c4,c5,c6,c7⟩:=R3.nst i xss g6'
  rw [a1] at c1;cases c1
  obtain⟨b,hb⟩:∃b,bs[kn]?=some b:=⟨bs[kn]'(by rw [c4];exact(MR g8).1),NL _⟩
  obtain⟨b1,us,b2,b3⟩:=c7 kn b ys hb g8
  have fi:∀z,z=l∨z∈bs→Fp σ e2 H2 i z:=fun z h=>.inr ⟨xss,l,bs,g6',a1,c3,h⟩
  have bm:b∈bs:=MV hb
  have bl:b≠l:=fun z=>c6 (z ▸ bm)
  refine⟨l,_,k,.ref b,rfl,bz A2 g5,.inl (.inl c3),?_,q2 σ F3 H2 e2 j _ R3 g9 ?_⟩
  · unfold atI
    rw [Nw,c4,g7]
    show(bs.map V.ref)[kn]?=_
    rw [NH,hb];rfl
  refine⟨b,us,j,jn,rfl,rfl,b2,by rw [←b3.len];exact g10,?_⟩
  have dv:DA K F3 d v:=by
    simp only [aT] at d3
    obtain⟨v',r',e',hv,_⟩:=d3
    cases e';exact hv
  obtain⟨R4,o4,s4⟩:=R3.putN (yss:=xss.set kn (ys.set jn d)) (bs:=bs) (H':=bC H2 b (.lst (us.set jn v))) g6' a1 c2 (by rw [aA (NF bl)];exact c3) (by simp [c4]) c5 c6 (fun m z zs z1 z2=>by
      by_cases em:m=kn
      · subst em
        rw [hb] at z1;cases z1
        rw [Oc (by exact(MR g8).1)] at z2
        cases z2
        exact⟨b1,_,ay,b3.set dv jn⟩
      · rw [NG (NF em)] at z2
        obtain⟨d1,us',d2,d3⟩:=c7 m z zs z1 z2
        have zb:z≠b:=fun ez=>by
          subst ez
          exact em ((List.getElem?_inj (MR z1).1 c5).mp (z1.trans hb.symm))
        exact⟨d1,us',by rw [aA zb];exact d2,d3⟩)
    (fun z hz=>.inl (fi z (.inr hz)))
    (fun z q=>by
      by_cases e0:z=b
      · rw [e0,ay] at q;cases q
      · rw [aA e0] at q;exact q)
    (fun z o q _ n2=>by
      have e0:z≠b:=fun e0=>n2 (by rw [e0];exact bm)
      rw [aA e0];exact q) (fun z vs q=>by
      by_cases e0:z=b
      · rw [e0];exact⟨_,ay⟩
      · rw [aA e0];exact⟨vs,q⟩)
  refine q F3 _ σ ⟨X13.sf,fun z q=>X13.dom z ?_,X13.fr,fun z vs h=>?_,fun z o h n=>?_,fun z h=>?_,fun _ _=>rfl,X13.fd⟩ R4
  · by_cases e0:z=b
    · rw [e0,ay] at q;cases q
    · rw [aA e0] at q;exact q
  · obtain⟨vs',h'⟩:=X13.lst z vs h
    by_cases e0:z=b
    · rw [e0];exact⟨_,ay⟩
    · rw [aA e0];exact⟨vs',h'⟩
  · have e0:z≠b:=fun e0=>by
      rcases X13.ow z ⟨i,fi z (.inr (by rw [e0];exact bm))⟩ with w | w
      · exact n w
      · rw [h] at w;cases w
    rw [aA e0];exact X13.tmp z o h n
  · rcases o4 z h with w | w
    · exact X13.ow z w
    · exact X13.ow z ⟨i,fi z (.inr w)⟩
end
theorem jm{rs:List Rv}(h:aN rs=[])(i:Nat):dD rs i=none:=by
  unfold dD
  rw [Rf]
  intro r hr
  cases r with
  | d x=>rfl
  | l x=>rfl
  | s j=>
    have:=eO.mpr hr
    rw [h] at this;cases this
theorem bR{rs:List Rv}{ei e:En}(h:aN rs=[]):gE (dD rs) ei e=e:=by
  refine Ot fun i=>?_
  rw [bO,jm h]
  match e[i]? with
  | none=>rfl
  | some none=>rfl
  | some (some (.d x))=>rfl
  | some (some (.l x))=>rfl
  | some (some (.n x))=>rfl
theorem pE{rs:List Rv}{j:Nat}{ys xs:List MY}{t e:En}(h:aN rs=[])(he:e[j]?=some (some (.l xs))):gE (dD (.s j::rs)) (some (.l ys)::t) e=e.set j (some (.l ys)):=by
  have hj:j < e.length:=(MR he).1
  refine Ot fun i=>?_
  rw [bO]
  by_cases z:j=i
  · subst z
    rw [Oc hj,he]
    have:dD (.s j::rs) j=some 0:=by unfold dD;simp [QK]
    simp [this]
  · rw [NG z]
    have:dD (.s j::rs) i=none:=by
      unfold dD
      rw [QK]
      have hn:=jm h i
      unfold dD at hn
      simp [z,hn]
    rw [this]
    match e[i]? with
    | none=>rfl
    | some none=>rfl
    | some (some (.d x))=>rfl
    | some (some (.l x))=>rfl
    | some (some (.n x))=>rfl
theorem lS{C:Int→Int→Bool}{f:Int→Int→MY}{e:En}{i j:Int}(h:C i j=true):gI C f e (.d (.int i)) (.d (.int j))=some (.d (f i j)):=by simp [gI,cg,h]
theorem nR{e:En}{i j:Int}:aO e (.d (.int i)) (.d (.int j))=some (.d (.int (i+j))):=rfl
theorem j8{e:En}{i j:Int}:gn e (.d (.int i)) (.d (.int j))=some (.d (.int (i - j))):=rfl
theorem bx{e:En}{i j:Int}(h:kc i j=true):bJ e (.d (.int i)) (.d (.int j))=some (.d (.int (i*j))):=by
  unfold bJ zK zI;rw [lS h];rfl
theorem l3{i j:Int}(h1: -(2 ^ 64) < i)(h2:i < 2 ^ 64):kc i j=true:=by
  have:iX i=true:=by unfold iX;rw [decide_eq_true h1,decide_eq_true h2];rfl
  unfold kc;rw [this];simp
theorem rZ{i j:Int}(h1: -(2 ^ 64) < j)(h2:j < 2 ^ 64):kc i j=true:=by
  have:iX j=true:=by unfold iX;rw [decide_eq_true h1,decide_eq_true h2];rfl
  unfold kc;rw [this];simp
theorem gv{i j:Int}(h1:Bt 4000 i)(h2:Bt 4000 j):kc i j=true:=by unfold kc;rw [iG.mpr h1,iG.mpr h2];simp
theorem aY{e:En}{i j:Int}(h:0 < j):bf e (.d (.int i)) (.d (.int j))=some (.d (.int (i % j))):=by
  unfold bf;rw [lS ↥7]
  rw [Int.fmod_eq_emod_of_nonneg i ↥0]
theorem ec{e:En}{i j:Int}(h:0 < j)(h2:Bt 8000 j):c_ e (.d (.int i)) (.d (.int j))=some (.d (.int (i / j))):=by
  unfold c_;rw [lS (by simp [iG.mpr h2];lia)]
  rw [Int.fdiv_eq_ediv_of_nonneg i ↥0]
theorem rD{e:En}{i j:Int}{neg:Bool}:cG neg e (.d (.int i)) (.d (.int j))=some (.d (.bool (if neg then !(i==j) else i==j))):=by
  unfold cG;simp [jb,Oh,OB,OA,Ph]
theorem rK{e:En}{i j:Int}:wz e (.d (.int i)) (.d (.int j))=some (.d (.bool (decide (i < j)))):=rfl
theorem rG{e:En}{i j:Int}:Kc e (.d (.int i)) (.d (.int j))=some (.d (.bool (decide (i≤j)))):=rfl
theorem rF{e:En}{i j:Int}:BJ e (.d (.int i)) (.d (.int j))=some (.d (.bool (decide (j < i)))):=rfl
theorem rE{e:En}{i j:Int}:GZ e (.d (.int i)) (.d (.int j))=some (.d (.bool (decide (j≤i)))):=rfl
theorem nX{e:En}{i j:Int}:g2 rL e [.d (.int i),.d (.int j)]=some (.d (.int (min i j))):=by
  show some (Rv.d (.int (if j < i then j else i)))=_
  congr 3
  split<;>lia
theorem nV{e:En}{i j:Int}:g2 tO e [.d (.int i),.d (.int j)]=some (.d (.int (max i j))):=by
  show some (Rv.d (.int (if j > i then j else i)))=_
  congr 3
  split<;>lia
theorem nY{e:En}{i:Int}:ig e (.d (.int i))=some (.d (.int (-i))):=rfl
theorem lT{e:En}{b:Bool}:g1 pS e [.d (.bool b)]=some (.d (.int (if b then 1 else 0))):=rfl
theorem nQ{e:En}{i:Int}:g1 vd e [.d (.int i)]=some (.d (.int i.natAbs)):=by
  show some (Rv.d (.int (if i < 0 then -i else i)))=_
  congr 3
  split<;>lia
theorem j6{j:Int}(h1:0 < j)(h2:j < 2 ^ 64):Bt 8000 j:=Bt.mono (m:=64) (by unfold Bt;lia) ⋯
theorem iD{α:Type}{xs:List α}{i:Int}(h0:0≤i)(h:i < xs.length):atI xs i=xs[i.toNat]?:=by
  unfold atI m_
  rw [if_pos h0,if_pos h];rfl
theorem zE{e:En}{i:Nat}{xs:List MY}{neg:Bool}(h:e[i]?=some (some (.l xs)))(hs:Oh (.list xs)=true):cG neg e (.s i) (.l [])=some (.d (.bool (if neg then !xs.isEmpty else xs.isEmpty))):=by
  unfold cG
  simp only [jb,h,NI,hs]
  have h0:Oh (.list [])=true:=by simp [Oh,OB,OS,OA,OP]
  rw [h0]
  cases xs<;>simp [Ph,PyData.eqvAll]
theorem uA(ns:List Int):Oh (.list (ns.map .int))=true∧Oh (.tuple (ns.map .int))=true:=by
  have h1:OS (ns.map PyData.int)=true:=by
    induction ns with
    | nil=>rfl
    | cons n r ih=>simp [OS,OB,ih]
  have h2:OP (ns.map PyData.int)=0:=by
    clear h1
    induction ns with
    | nil=>rfl
    | cons n r ih=>simp [OP,OA,ih]
  constructor<;>simp [Oh,OB,OA,h1,h2]
theorem dc{own:gU}{g:FG}{f:FS}(P:Nat→En→Prop):∀(items:List MY) (k:Nat) (e:En),(∀i x e,items[i]?=some x→P (k+i) e→∃e1 e2,g x e=some e1∧f e1=some (.nx e2)∧keeps own e2∧P (k+i+1) e2)→P k e→∃e',rB own g f items e=some (.nx e')∧P (k+items.length) e'
  | [],k,e,_,h=>⟨e,rfl,h⟩
  | x::r,k,e,hs,h=>by
    obtain⟨e1,e2,h1,h2,h3,h4⟩:=hs 0 x e rfl h
    obtain⟨e',h5,h6⟩:=dc P r (k+1) e2 (fun i y e hy hp=>by
      have:=hs (i+1) y e (by simpa using hy) (by rw [show k+(i+1)=k+1+i by lia];exact hp)
      rw [show k+(i+1)+1=k+1+i+1 by lia] at this
      exact this) h4
    refine⟨e',?_,by rw [Pp,show k+(r.length+1)=k+1+r.length by lia];exact h6⟩
    unfold rB
    simp only [h1,h2,NI,if_pos h3]
    exact h5
theorem dm{e:En}:keeps [] e:=fun _ h=>by cases h
theorem fR{W:List Nat}{fi:FI}{g:FG}{f:FS}{e e1:En}{items:List MY}(h:fi e=some (items,[],e1)):eV W fi g f e=rB [] g f items e1:=by
  unfold eV;rw [h];rfl
theorem iV{lo:Int}{n i:Nat}{x:MY}(h:(bM lo n)[i]?=some x):x=.int (lo+i)∧i < n:=by
  unfold bM at h
  rw [NH] at h
  obtain⟨k,h1,rfl⟩:=MQ h
  obtain⟨h2,h3⟩:=MR h1
  simp at h2 h3
  subst h3
  exact⟨rfl,h2⟩
theorem kg{lo:Int}{n:Nat}:(bM lo n).length=n:=by simp [bM]
theorem cJ{fs:FA}{e e1:En}{n:Int}(h:fs e=some ([.d (.int n)],e1))(h1: -1000000≤n)(h2:n≤1000000):cI fs e=some (bM 0 n.toNat,[],e1):=by
  unfold cI;rw [h]
  have:oW n=true:=by unfold oW;rw [decide_eq_true h1,decide_eq_true h2];rfl
  simp [cg,this]
theorem ki{ft:FT}{f:FS}(P:En→Prop)(μ:En→Nat)(hs:∀e,P e→(∃e1,ft e=some (false,e1)∧True)∨∃e1 e2,ft e=some (true,e1)∧f e1=some (.nx e2)∧P e2∧μ e2 < μ e):
    ∀(n:Nat) (e:En),P e→μ e < n→∃e0 e',gB ft f n e=some (.nx e')∧P e0∧ft e0=some (false,e'):=by
  intro n
  induction n with
  | zero=>intro e _ h;lia
  | succ n ih=>
    intro e hp hm
    rcases hs e hp with ⟨e1,h1,_⟩ | ⟨e1,e2,h1,h2,h3,h4⟩
    · exact⟨e,e1,by unfold gB;rw [h1];rfl,hp,h1⟩
    · obtain⟨e0,e',g1,g2⟩:=ih e2 h3 ↥0
      exact⟨e0,e',by unfold gB;rw [h1];simp only [NI,if_true,h2];exact g1,g2⟩
theorem oo{fa:FE}{e e1:En}{xs:List MY}(h:fa e=some (.d (.tuple xs),e1)):kJ fa e=some (xs,[],e1):=by
  unfold kJ;rw [h];rfl
theorem wB{fa:FE}{e e1:En}{xs:List MY}(h:fa e=some (.d (.list xs),e1)):kJ fa e=some (xs,[],e1):=by
  unfold kJ;rw [h];rfl
theorem Bx{cp:List (Nat × Str)}{nT:Nat}{fi:FI}{g:FG}{ft:FT}{fe:FE}{e e1 cs:En}{t t':En}{items out:List MY}(h1:fi e=some (items,[],e1))(hc:oq cp nT e1=cs++t)(hl:cs.length=cp.length)(h3:jX g ft fe items (oq cp nT e1) []=some (out,cs++t')):bb cp nT fi g ft fe e=some (.l out,e1):=by
  have key:∀i x,e1[i]?=some (some (.l x))→∀k,kX cp i=some k→(cs++t')[k]?=some (some (.l x)):=by
    intro i x hi k hk
    obtain⟨s,hs⟩:=eu hk
    have hk2:k < cp.length:=(MR hs).1
    have:(oq cp nT e1)[k]?=some (some (.l x)):=by
      unfold oq
      rw [Pz (by simpa using hk2),NH,hs]
      simp [hi,Hd]
    rw [hc,Pz ↥0] at this
    rw [Pz ↥0]
    exact this
  unfold bb
  rw [h1]
  simp only [NI,List.all_nil,if_true,h3]
  have hb:j5 cp (cs++t') e1=true:=by
    unfold j5
    rw [OQ]
    intro p hp
    match hi:e1[p.1]? with
    | none=>simp [vt]
    | some none=>simp [vt]
    | some (some (.d x))=>simp [vt]
    | some (some (.n x))=>simp [vt]
    | some (some (.l x))=>
      cases hq:kX cp p.1 with
      | none=>
        unfold kX at hq
        rw [Rf] at hq
        have:=hq p hp
        simp at this
      | some k=>simp [key p.1 x hi k hq,vt]
  rw [if_pos hb]
  congr 2
  refine Ot fun i=>?_
  rw [bO]
  match hi:e1[i]? with
  | none=>rfl
  | some none=>rfl
  | some (some (.d x))=>rfl
  | some (some (.n x))=>rfl
  | some (some (.l x))=>
    cases hp:kX cp i with
    | none=>simp [hp]
    | some k=>simp [hp,key i x hi k hp]
theorem nG{α:Type}{xs:List α}{i:Int}(h0:0≤i)(h1:i < xs.length):∃x∈xs,atI xs i=some x:=by
  rw [iD h0 h1]
  exact⟨xs[i.toNat]'↥0,Rh _,NL _⟩
theorem zF{e:En}{xs:List MY}{i:Int}:a8 e (.l xs) (.d (.int i))=(atI xs i).map .d:=rfl
theorem mC{e:En}{xs:List MY}{i:Int}:a8 e (.d (.tuple xs)) (.d (.int i))=(atI xs i).map .d:=rfl
theorem ve{e:En}{xs:List MY}{i:Int}:a8 e (.d (.list xs)) (.d (.int i))=(atI xs i).map .d:=rfl
theorem zG{e:En}{j:Nat}{xs:List MY}{i:Int}(h:e[j]?=some (some (.l xs))):a8 e (.s j) (.d (.int i))=(atI xs i).map .d:=by
  simp [a8,eX,h,cg]
theorem vg{e:En}{xs:List MY}:g1 cY e [.d (.tuple xs)]=some (.d (.int xs.length)):=rfl
theorem rH{e:En}{xs:List MY}:g1 cY e [.d (.list xs)]=some (.d (.int xs.length)):=rfl
theorem vf{e:En}{xs:List MY}:g1 cY e [.l xs]=some (.d (.int xs.length)):=rfl
theorem rJ{e:En}{j:Nat}{xs:List MY}(h:e[j]?=some (some (.l xs))):g1 cY e [.s j]=some (.d (.int xs.length)):=by
  simp [g1,cY,eX,h]
theorem n_{e:En}{j:Nat}{xs:List MY}(h:e[j]?=some (some (.l xs))):g1 cZ e [.s j]=some (.d (.tuple xs)):=by
  simp [g1,cZ,eX,h]
theorem nZ{e:En}{xs:List MY}:g1 cZ e [.l xs]=some (.d (.tuple xs)):=rfl
theorem lU{e:En}{xs:List MY}:g1 cZ e [.d (.list xs)]=some (.d (.tuple xs)):=rfl
theorem oh{e:En}{xs:List MY}:g1 cZ e [.d (.tuple xs)]=some (.d (.tuple xs)):=rfl
theorem zN{e:En}{xs:List MY}{lo hi:Option Int}:Ja e (.d (.tuple xs)) lo hi=some (.d (.tuple (cutD xs lo hi))):=rfl
theorem lR{e:En}{xs ys:List MY}(h:xs.length+ys.length≤1000000):aO e (.d (.tuple xs)) (.d (.tuple ys))=some (.d (.tuple (xs++ys))):=by
  simp [aO,zK,zD,gI,cg,tN,eX,h]
theorem zH{e:En}{i j:Int}(h:j≠0):bf e (.d (.int i)) (.d (.int j))=some (.d (.int (i.fmod j))):=by
  unfold bf;rw [lS (by simpa using h)]
theorem wy{e:En}{i j:Int}(h:j≠0)(h2:Bt 8000 j):c_ e (.d (.int i)) (.d (.int j))=some (.d (.int (i.fdiv j))):=by
  unfold c_;rw [lS (by simp [iG.mpr h2,h])]
theorem kB{e:En}{i j:Int}(h:AL i j=true):vh e (.d (.int i)) (.d (.int j))=some (.d (.int (i ^ j.toNat))):=by
  unfold vh;rw [lS h]
theorem kY:AL 10 18=true:=by decide
theorem az{f g:FS}{e e1:En}(h:f e=some (.nx e1)):aE f g e=g e1:=by unfold aE;rw [h];rfl
theorem HQ{ft:FT}{f g:FS}{e e1:En}(h:ft e=some (true,e1)):j3 ft f g e=f e1:=by unfold j3;rw [h];rfl
theorem Ea{ft:FT}{f g:FS}{e e1:En}(h:ft e=some (false,e1)):j3 ft f g e=g e1:=by unfold j3;rw [h];rfl
def DU(i:Nat)(e:En):Nat:=match e[i]? with
  | some (some (.l xs))=>xs.length
  | _=>0
def qo(i:Nat)(e:En):Nat:=match e[i]? with
  | some (some (.d (.int k)))=>k.natAbs
  | _=>0
theorem rY{n m:Nat}(h:n < 2 ^ m)(hm:m≤4200):n < 2 ^ 4200:=NV h (Ru ⋯ hm)
theorem nF{α:Type}{a:α}{r:List α}:atI (a::r) 0=some a:=by
  rw [iD ⋯ ↥1];rfl
theorem qT{α:Type}{a b:α}{r:List α}:atI (a::b::r) 1=some b:=by
  rw [iD ⋯ ↥7];rfl
theorem qU{α:Type}{a b c:α}{r:List α}:atI (a::b::c::r) 2=some c:=by
  rw [iD ⋯ ↥7];rfl
theorem qV{α:Type}{a b c d:α}{r:List α}:atI (a::b::c::d::r) 3=some d:=by
  rw [iD ⋯ ↥7];rfl
theorem za{a b c d:MY}:cutD [a,b,c,d] none (some 2)=[a,b]:=rfl
theorem lM{a b c d:MY}:cutD [a,b,c,d] (some 2) none=[c,d]:=rfl
theorem lL{a b c:MY}:cutD [a,b,c] (some 1) none=[b,c]:=rfl
theorem tG(ns:List Int):OS (ns.map PyData.int)=true:=by
  induction ns with
  | nil=>rfl
  | cons n r ih=>simp [OS,OB,ih]
theorem tu{x:Int}:∀(ns:List Int),((ns.map PyData.int).any fun y=>Ph y (.int x))=ns.contains x
  | []=>rfl
  | n::r=>by
    rw [Nx,Rj,tu r,List.contains_cons]
    show(n==x || _)=_
    rw [show(n==x)=(x==n) by rw [RG];simp;exact eq_comm]
theorem kz{e:En}{x:Int}{ns:List Int}{neg:Bool}:B1 neg e (.d (.int x)) (.d (.tuple (ns.map .int)))=some (.d (.bool (if neg then !ns.contains x else ns.contains x))):=by
  unfold B1
  simp only [jb,eX,NI,tG,tu]
  simp [OB,OA]
theorem m9{e:En}{x a b:Int}{neg:Bool}:B1 neg e (.d (.int x)) (.d (.tuple [.int a,.int b]))=some (.d (.bool (if neg then !(a==x || b==x) else(a==x || b==x)))):=by
  have h:=kz (e:=e) (x:=x) (ns:=[a,b]) (neg:=neg)
  simp only [Nx,Oy] at h
  rw [h]
  have:[a,b].contains x=(a==x || b==x):=by
    simp only [List.contains_cons,List.contains_nil,Bool.or_false]
    rw [show(x==a)=(a==x) by rw [RG];simp;exact eq_comm,show(x==b)=(b==x) by rw [RG];simp;exact eq_comm]
  rw [this]
theorem bX(W:bZ):aB W=.tuple [.int W.things,.tuple (W.ties.map av),.tuple (W.pat.map .int),.int W.asks]:=rfl
def Sh(n:Nat)(d:MY):Prop:=d.canLay0=true∧d.depth≤n
theorem Sh.mono{n m:Nat}{d:MY}(h:Sh n d)(l:n≤m):Sh m d:=⟨h.1,NS h.2 l⟩
theorem Sh.ok{n:Nat}{d:MY}(h:Sh n d)(l:n≤64):Oh d=true:=by
  unfold Oh;rw [h.1,decide_eq_true (NS h.2 l)];rfl
theorem Sh.int{k:Int}:Sh 2 (.int k):=⟨by simp [OB],by simp [OA]⟩
theorem Sh.all{n:Nat}:∀{ds:List MY},(∀d∈ds,Sh n d)→OS ds=true∧OP ds≤n
  | [],_=>⟨rfl,by simp [OP]⟩
  | d::r,h=>by
    obtain⟨a1,a2⟩:=h d ↥1
    obtain⟨b1,b2⟩:=Sh.all (ds:=r) fun x hx=>h x (by simp [hx])
    exact⟨by simp [OS,a1,b1],by simp only [OP];lia⟩
theorem Sh.tup{n:Nat}{ds:List MY}(h:∀d∈ds,Sh n d):Sh (n+2) (.tuple ds):=by
  obtain⟨b1,b2⟩:=Sh.all h
  exact⟨by simp [OB,b1],by simp only [OA];lia⟩
theorem Sh.ints{ns:List Int}:Sh 4 (.tuple (ns.map .int)):=Sh.tup (n:=2) fun d hd=>by
  obtain⟨k,_,rfl⟩:=MT hd
  exact Sh.int
theorem Sh.tie{t:hJ}:Sh 6 (av t):=Sh.tup (n:=4) fun d hd=>by
  simp only [NX,Oq,or_false] at hd
  rcases hd with rfl | rfl | rfl | rfl
  · exact Sh.int.mono ⋯
  · exact Sh.int.mono ⋯
  · exact Sh.ints (ns:=[t.top,t.bot])
  · exact Sh.int.mono ⋯
abbrev Std:=List Int × List Int
structure GK (W:bZ) (s:Std):Prop where
  inw:∀k∈s.1,xD W k
  nd:s.1.Nodup
  tk:s.2.length≤2*s.1.length
  th:∀t∈s.2,0≤t∧t < W.things
def nxt(W:bZ)(s:Std)(k:Int)(b:Bool):Std:=(bZ.askd s.1 k,W.took s.2 k b)
structure Nd where
  tie:Int
  yes:Int
  no:Int
def GE(W:bZ)(n:Nat)(S:Nat→Std)(i:Nat)(k:Int)(b:Bool)(l:Int):Prop:=l= -1∨(0≤l∧l < (n:Int)∧S l.toNat=nxt W (S i) k b)
structure IS (W:bZ) (n:Nat) (S:Nat→Std) (i:Nat) (x:Nd):Prop where
  tie:xD W x.tie
  st:GK W (S i)
  may:W.may (S i).1 (S i).2 x.tie=true
  yes:GE W n S i x.tie true x.yes
  no:GE W n S i x.tie false x.no
def IV(W:bZ)(T:List Nd)(S:Nat→Std):Prop:=∀(i:Nat) (x:Nd),T[i]?=some x→IS W T.length S i x
structure Wt where
  st:Std
  par:Int
  side:Int
structure J4 (W:bZ) (T:List Nd) (S:Nat→Std) (ws:List Wt):Prop where
  tr:IV W T S
  wt:∀w∈ws,GK W w.st∧(w.par= -1∨∃(p:Nat) (x:Nd),w.par=(p:Int)∧T[p]?=some x∧((w.side=0∧w.st=L2.nxt W (S p) x.tie true)∨(w.side=1∧w.st=L2.nxt W (S p) x.tie false)))
  side:∀w∈ws,w.side=0∨w.side=1
theorem yF{cp:List (Nat × Str)}{nT:Nat}{fi:FI}{g:FG}{ft:FT}{fe:FE}{e e1 cs:En}{t t':En}{items out:List MY}{own:gU}(h1:fi e=some (items,own,e1))(ho:(own.all fun q=> !(cp.any fun c=>c.1==q.1))=true)(hc:oq cp nT e1=cs++t)(hl:cs.length=cp.length)(h3:jX g ft fe items (oq cp nT e1) []=some (out,cs++t')):bb cp nT fi g ft fe e=some (.l out,e1):=by
  have key:=Bx (cp:=cp) (nT:=nT) (fi:=fun _=>some (items,[],e1)) (g:=g) (ft:=ft) (fe:=fe) (e:=e) rfl hc hl h3
  unfold bb at key ⊢
  rw [h1]
  simp only [NI,List.all_nil,if_true] at key
  simp only [NI,ho,if_true]
  exact key
def nm(nums:List Int)(l:Int):Int:=(atI nums l).getD (-1)
structure JM (order:List Int) (n:Nat) (nums:List Int):Prop where
  len:nums.length=n+1
  top:nums[n]?=some (-1)
  at':∀(j:Nat) (v:Int),j < n→nums[j]?=some v→v= -1∨∃p:Nat,v=(p:Int)∧order[p]?=some (j:Int)
def Ai(T:List Nd)(w:Int):Nd:=T.getD w.toNat ⟨0,0,0⟩
structure J' (S:Nat→Std) (n:Nat) (ss:List Std):Prop where
  len:ss.length=n
  at':∀(j:Nat) (s:Std),ss[j]?=some s→s.1.length≤(S j).1.length∧s.2.length≤2*s.1.length∧(∀k∈s.1,0≤k∧k < 16)∧∀t∈s.2,0≤t∧t < 12
theorem lC(s:String):Ob (On s)=true:=by
  rw [Str.ofString_eq_toList]
  unfold Ob
  simp only [NA,Nw]
  rw [show(List.map Char.toNat s.toList).toArray.all (fun a=>decide (a < 1114112)) 0 s.toList.length=(List.map Char.toNat s.toList).all (fun a=>decide (a < 1114112)) by simp]
  rw [List.all_map,OQ]
  intro c _
  show decide (c.toNat < 1114112)=true
  rw [decide_eq_true_eq]
  have:=c.valid
  unfold UInt32.isValidChar Nat.isValidChar at this
  show c.val.toNat < _
  lia
theorem jR{a b:Str}(h1:Ob a=true)(h2:Ob b=true):Ob (a++b)=true:=by
  unfold Ob at*
  rw [show(a++b).cps=a.cps++b.cps from rfl]
  simp only [Array.all_append,h1,h2,Rb]
theorem pw{sep:Str}(h:Ob sep=true):∀(ts:List Str),(∀t∈ts,Ob t=true)→Ob (Str.join sep ts)=true
  | [],_=>by show Ob Str.empty=true;simp [Ob,Str.empty]
  | [x],hx=>hx x ↥1
  | x::y::r,hx=>jR (jR (hx x ↥1) h) (pw h (y::r) fun t ht=>hx t (by simp at ht ⊢;exact .inr ht))
theorem yx{ts:List Str}(h:∀t∈ts,Ob t=true):Ob (tupleText ts)=true:=by
  unfold tupleText
  exact jR (jR (lC _) (pw (lC _) ts h)) (lC _)
structure Sz (n dep:Nat) (d:MY):Prop where
  fl:ku d=true
  sh:d.showable=true
  dp:d.depth≤dep
  ln:d.shown.length≤n
  so:Ob d.shown=true
theorem Sz.all{n dep:Nat}:∀{ds:List MY},(∀d∈ds,Sz n dep d)→jD ds=true∧QF ds=true∧OP ds≤dep∧piled (Pd ds)≤ds.length*(n+2)∧∀t∈Pd ds,Ob t=true
  | [],_=>⟨rfl,rfl,by simp [OP],by simp [Pd,piled],by simp [Pd]⟩
  | d::r,h=>by
    obtain⟨a1,a2,a3,a4,a5⟩:=h d ↥1
    obtain⟨b1,b2,b3,b4,b5⟩:=Sz.all (ds:=r) fun x hx=>h x (by simp [hx])
    refine⟨?_,?_,?_,?_,?_⟩
    · simp only [jD,a1,b1,Rb]
    · simp only [QF,a2,b2,Rb]
    · simp only [OP];lia
    · simp only [Pd,oQ,Pp,Nat.succ_mul];lia
    · intro t ht
      simp only [Pd,NX] at ht
      rcases ht with rfl | ht
      · exact a5
      · exact b5 t ht
theorem Sz.tup{n dep m:Nat}{ds:List MY}(h:∀d∈ds,Sz n dep d)(hl:ds.length≤m):Sz (m*(n+2)+3) (dep+2) (.tuple ds):=by
  obtain⟨b1,b2,b3,b4,b5⟩:=Sz.all h
  refine⟨by simpa [ku] using b1,b2,by simp only [OA];lia,?_,by simp only [PyData.shown];exact yx b5⟩
  have h2:=qK (Pd ds)
  have:=Sb (n+2) hl
  simp only [PyData.shown]
  lia
theorem Sz.ok{n dep:Nat}{d:MY}(h:Sz n dep d)(h1:n≤16777216)(h2:dep≤60):lp d=true:=by
  have sl:Nr=16777216:=Om
  unfold lp
  rw [h.fl,h.sh,decide_eq_true (NS h.dp h2),decide_eq_true (show d.shown.length≤Nr by rw [sl];exact NS h.ln h1)]
  rfl
theorem B4{e:En}{d:MY}(h:lp d=true):g1 mD e [.d d]=some (.d (.str d.shown)):=by
  simp [g1,mD,h]
theorem B0{e:En}{s:Str}(h:Ob s=true):cG false e (.d (.str s)) (.d (.str s))=some (.d (.bool true)):=by
  simp [cG,jb,Oh,OB,OA,Ph,h]
theorem iL{e:En}{xs ys:List MY}(hl:xs.length+ys.length≤1000000):aO e (.l xs) (.l ys)=some (.l (xs++ys)):=by
  simp [aO,zK,zD,gI,cg,tN,eX,wx,x_,hl]
theorem yE{pos:Nat→Option Nat}{ei e:En}{j k:Nat}{xs ys:List MY}(hp:pos j=some k)(hk:ei[k]?=some (some (.l ys)))(hj:e[j]?=some (some (.l xs)))(ho:∀i,i≠j→pos i=none∨vt e[i]?=false):gE pos ei e=e.set j (some (.l ys)):=by
  have hjl:j < e.length:=(MR hj).1
  refine Ot fun i=>?_
  rw [bO]
  by_cases c:j=i
  · subst c
    rw [Oc hjl,hj]
    simp [hp,hk]
  · rw [NG c]
    have:=ho i (fun z=>c z.symm)
    match h:e[i]? with
    | none=>rfl
    | some none=>rfl
    | some (some (.d x))=>rfl
    | some (some (.n x))=>rfl
    | some (some (.l x))=>
      rcases this with z | z
      · simp [z]
      · rw [h] at z;simp [vt] at z
def rn(T:List Nd)(ans:List Bool):Nat→Int→List (Int × Bool)
  | 0,_=>[]
  | f+1,at'=>if at' < 0 then [] else((Ai T at').tie,ans.getD (Ai T at').tie.toNat false)::rn T ans f (if ans.getD (Ai T at').tie.toNat false=true then(Ai T at').yes else(Ai T at').no)
def rt(T:List Nd):Int:=if T.length=0 then -1 else 0
structure JP (W:bZ) (T:List Nd) (S:Nat→Std) (ans:List Bool) (r:List (Int × Bool)) (a:Int):Prop where
  at':a= -1∨(0≤a∧a < (T.length:Int)∧r.length≤(S a.toNat).1.length)
  eq:r++rn T ans (17 - r.length) a=rn T ans 17 (rt T)
  len:r.length≤16
  inw:∀p∈r,xD W p.1
abbrev Fr:=Int × Int
def dF(f:Fr):MY:=.tuple [.int f.1,.int f.2]
def tm(a b:Fr):Fr:=lowM (a.1*b.1) (a.2*b.2)
def pl(a b:Fr):Fr:=lowM (a.1*b.2+b.1*a.2) (a.2*b.2)
theorem Cd{t b:Int}(hb:0 < b)(ht:0≤t):∃d:Int,0 < d∧(lowM t b).1*d=t∧(lowM t b).2*d=b∧0 < (lowM t b).2∧0≤(lowM t b).1:=by
  obtain⟨d,h1,h2,h3,h4,h5⟩:=ij (t:=t) (b:=b) ↥0
  have d0:0 < d:=by
    rcases Int.lt_trichotomy d 0 with z | z | z
    · have:=Int.mul_neg_of_pos_of_neg h5 z
      lia
    · exact absurd z h2
    · exact z
  refine⟨d,d0,h3,h4,h5,?_⟩
  rcases Int.lt_or_le (lowM t b).1 0 with z | z
  · have:=Int.mul_neg_of_neg_of_pos z d0
    lia
  · exact z
structure J8 (M:Int) (f:Fr):Prop where
  pos:0 < f.2
  lo:0≤f.1
  hi:f.1≤f.2
  dv:f.2 ∣ M
structure IA (M i:Int) (f:Fr):Prop where
  pos:0 < f.2
  lo:0≤f.1
  hi:f.1≤i*f.2
  dv:f.2 ∣ M
def bp(W:bZ):List Int→Int
  | []=>1
  | k::r=>(W.tie k).bot*bp W r
def GS(W:bZ):Int:=bp W W.rng
def ch(W:bZ)(k:Int)(b:Bool):Fr:=if b then((W.tie k).top,(W.tie k).bot) else((W.tie k).bot - (W.tie k).top,(W.tie k).bot)
structure J_ (W:bZ) (S:Nat→Std) (n:Nat) (rs:List Fr):Prop where
  len:rs.length=n
  at':∀(j:Nat) (f:Fr),rs[j]?=some f→J8 (bp W (S j).1) f
structure J5 (W:bZ) (i:Nat) (ss:List Fr):Prop where
  len:ss.length=W.ties.length
  at':∀(j:Nat) (f:Fr),ss[j]?=some f→IA (GS W) (i:Int) f
theorem Sz.intB{n:Nat}{k:Int}(h:Bt n k)(h0:0 < n)(hn:n≤1900):Sz (n+1) 2 (.int k):=by
  have l:=h.log h0
  refine⟨rfl,?_,by simp [OA],?_,lC _⟩
  · show decide (k.natAbs.log2 < 1920)=true
    rw [decide_eq_true_eq];lia
  · have:=int_text_length_le h0 l
    show(On (toString k)).length≤n+1
    rw [PySem.ofString_length];exact this
def Gw(sc:NC)(x:Str):Bool:=match sc.names.lookup x with
  | some .local=>true
  | some .cell=>true
  | some .free=>true
  | _=>false
theorem Dx{sc:NC}{x:Str}(h:Gw sc x=true):yO sc x:=by
  unfold Gw at h
  unfold yO
  split at h
  · rename_i e;exact .inl e
  · rename_i e;exact .inr (.inl e)
  · rename_i e;exact .inr (.inr e)
  · cases h
section
variable{X:Cx}{K:⇑0}
theorem qw(i:Nat){x:Str}{pos:Pos}(hN:X.N[i]?=some x)(hv:Gw X.env.scope x=true)(hd:((x==("__debug__":Str)) || (x==("__classdict__":Str)))=false):PE X (.Name x pos) (fE K (ac i)):=qv i hN (Dx hv) (Sm.mp hd).1 (Sm.mp hd).2
end
section
variable{X:Cx}{tg a b c:Na}{ta:TA}{p pos p2 pos2:Pos}
end
section
variable{K:⇑0}{σ:L2.St}
end
section
variable{X:Cx}{K:⇑0}{tg a b c:Na}{fs:FA}{pos p p2 pos2:Pos}
end
section
variable(P:Nk)(w:Ng)
end
section
variable{P:Nk}{w:Ng}{H H':Hp}{h h':Nh}{a:MW}{o:HO}
end
section
variable{P:Nk}{w:Ng}{H:Hp}{h h':Nh}{x e:MW}{o':HO}
end
section
variable{fs fs' ex ex':List MW}{H H1 H2:Hp}{h h1 h2 h':Nh}{a x e:MW}{o:HO}
end
section
variable{X:Cx}{pins:List (MW × Obj)}{σ:List (Option V)}{H H':Hp}{s:MZ}{h':Nh}
end
section
variable{X:Cx}
variable{a b:Na}{ta tb:TE}{pos:Pos}
variable{tA tB':TT}{dP:List Na}
end
section
variable{X:Cx}{pins:List (MW × Obj)}{σ:St}{H:Hp}{s:MZ}{a:MW}{xs ys:List V}
end
section
variable{X:Cx}{pins:List (MW × Obj)}{σ:St}{H:Hp}{s:MZ}{E:MX→MZ→Prop}
end
section
variable{X:Cx}{st:Nq}{dP:List Nq}{t u:TS}{e:Na}{te:TE}{pos:Pos}
end
section
variable{X:Cx}{pos:Pos}
end
section
variable{X:Cx}{pos:Pos}
end
section
variable{X:Cx}{tg:Na}
end
section
variable{X:Cx}{a b c:Na}{ta tb tc:TE}{pos:Pos}
end
section
variable{X:Cx}{a b c:Na}{ta tb tc:TE}{pos:Pos}
end
section
variable{prog:Nk}{w:Ng}{A:Nn}{E:MX→MZ→Prop}{s:MZ}{K:⇑0}{x dx C f:MW}{mA:Str→Option MX}{name:Str}{v:MX}
end
section
variable{P:Nk}{w:Ng}{H H':Hp}{h h':Nh}{a C dx:MW}{fs fs':List (Str × V)}
end
section
variable{X:Cx}{pins:List (MW × Obj)}{σ:St}{H:Hp}{s:MZ}{a C dx:MW}{fs:List (Str × V)}{f:Str}{v:V}{A:Nn}{E:MX→MZ→Prop}
end
section
variable{X:Cx}{o e value:Na}{f:Str}{pos pos' tpos:Pos}{ta tv:TE}
end
section
variable{X:Cx}{pins:List (MW × Obj)}{σ:St}{H:Hp}{s:MZ}{A:Nn}{E:MX→MZ→Prop}{Q:MX→MZ→Prop}{c:MX}{b:Bool}
end
section
variable{X:Cx}{e:Na}{es:List Na}{te:TE}{t:TA}{pos:Pos}
end
section
variable{X:Cx}{pins:List (MW × Obj)}{σ:St}{H:Hp}{s s':MZ}
end
section
variable{X:Cx}{CX:uR}{k:Nat}{f C:MW}{fd:Nt}{ps:List Str}{sp:Sp}{dvs:List V}{ds:List MX}{E:XK}{x m:Str}{p pos apos:Pos}{e o:Na}{es:List Na}{ta:TE}{t:TA}
end
section
variable{X:Cx}{CX:uR}{k:Nat}{f C:MW}{fd:Nt}{ps ks:List Str}{sp:Sp}{E:XK}{x m:Str}{p pos apos kpos:Pos}{e o:Na}{es:List Na}{kws:List Oe}{te ta:TE}{t tk:TA}{nm:Option Str}
variable{g:List MX→List MX→List MX}{gV:List V→List V→List V}
end
section
variable{X:Cx}{x:Str}{p pos:Pos}{e:Na}{es:List Na}{t:TA}{id T:String}{r:List V→Hp→VK→Prop}
end
section
variable{κ:Type}[DecidableEq κ]
def mY(kvs:List (κ × V))(k:κ):Option V:=(kvs.find? fun kv=>decide (kv.1=k)).map (·.2)
def sy(kvs:List (κ × V))(k:κ)(v:V):List (κ × V):=
  if (kvs.any fun kv=>decide (kv.1=k))=true then kvs.map (fun kv=>if kv.1=k then(kv.1,v) else kv) else kvs++[(k,v)]
theorem pI{p:κ × V}{r:List (κ × V)}{k:κ}(e:p.1=k):mY (p::r) k=some p.2:=by simp [mY,OR,e]
theorem pH{p:κ × V}{r:List (κ × V)}{k:κ}(e:¬p.1=k):mY (p::r) k=mY r k:=by simp [mY,OR,e]
theorem tU(kvs:List (κ × V))(k:κ)(v:V):(sy kvs k v).length≤kvs.length+1:=by
  unfold sy
  split
  · rw [Nw];lia
  · rw [Ox,Pp,Ro];lia
theorem KV.val{kvs:List (κ × V)}{vs:List (κ × MX)}(r:KV kvs vs)(k:κ):xE (mY kvs k) (valueAt vs k):=by
  unfold KV at r
  induction r with
  | nil=>exact True.intro
  | @cons p q ps qs h t ih=>
    obtain⟨h1,h2⟩:=h
    by_cases e:p.1=k
    · have e':q.1=k:=h1.symm.trans e
      have b:valueAt (q::qs) k=some q.2:=by simp [valueAt,OR,e']
      rw [pI e,b];exact h2
    · have e':¬q.1=k:=fun z=>e (h1.trans z)
      have b:valueAt (q::qs) k=valueAt qs k:=by simp [valueAt,OR,e']
      rw [pH e,b];exact ih
theorem KV.any{kvs:List (κ × V)}{vs:List (κ × MX)}(r:KV kvs vs)(k:κ):(kvs.any fun kv=>decide (kv.1=k))=vs.any fun kv=>decide (kv.1=k):=by
  unfold KV at r
  induction r with
  | nil=>rfl
  | cons h t ih=>rw [Rj,Rj,ih,h.1]
theorem KV.repl{kvs:List (κ × V)}{vs:List (κ × MX)}(r:KV kvs vs)(k:κ){y:V}{u:MX}(ry:bv y u):
    KV (kvs.map fun kv=>if kv.1=k then(kv.1,y) else kv) (vs.map fun kv=>if kv.1=k then(kv.1,u) else kv):=by
  unfold KV at r ⊢
  induction r with
  | nil=>exact .nil
  | @cons p q ps qs h t ih=>
    rw [Nx,Nx]
    refine .cons ?_ ih
    obtain⟨h1,h2⟩:=h
    by_cases e:p.1=k
    · rw [if_pos e,if_pos (h1.symm.trans e)];exact⟨h1,ry⟩
    · rw [if_neg e,if_neg (fun z=>e (h1.trans z))];exact⟨h1,h2⟩
theorem KV.put{kvs:List (κ × V)}{vs:List (κ × MX)}(r:KV kvs vs)(k:κ){y:V}{u:MX}(ry:bv y u):KV (sy kvs k y) (stored vs k u):=by
  unfold sy stored
  rw [r.any k]
  by_cases e:(vs.any fun kv=>decide (kv.1=k))=true
  · rw [if_pos e,if_pos e];exact r.repl k ry
  · rw [if_neg e,if_neg e];exact Paired.snoc r ⟨rfl,ry⟩
theorem KV.length{kvs:List (κ × V)}{vs:List (κ × MX)}(r:KV kvs vs):kvs.length=vs.length:=Paired.length r
end
theorem zV{P:Nk}{w:Ng}{k:fx}{u:MX}(r:bv (kV k) u):(ci P w).is k u=true:=by
  cases k with
  | inl i=>obtain⟨t,e⟩:=(show ∃t,u=Value.int i t from r);subst e;exact tY P w i t
  | inr x=>obtain⟨t,e⟩:=(show ∃t,u=Value.str x t from r);subst e;exact tZ P w x t
theorem qk{P:Nk}{w:Ng}:∀{ks:List fx} {us:List MX},aR (ks.map kV) us→ItemsAre (ci P w) ks us
  | [],_,r=>by rw [Oy] at r;cases r;exact .nil
  | k::ks,_,r=>by
    rw [Nx] at r
    cases r with
    | cons h t=>exact .cons (zV h) (qk t)
abbrev KT(H:Hp):List (List fx × V)→List (List fx × MW × MX)→Prop:=Paired fun p q=>p.1=q.1∧H q.2.1=some (.tup (p.1.map kV))∧bv p.2 q.2.2
theorem KT.val{H:Hp}{kvs:List (List fx × V)}{xs:List (List fx × MW × MX)}(r:KT H kvs xs)(k:List fx):xE (mY kvs k) ((atKey xs k).map (·.2)):=by
  induction r with
  | nil=>exact True.intro
  | @cons p q ps qs h t ih=>
    obtain⟨h1,_,h2⟩:=h
    by_cases e:p.1=k
    · have e':q.1=k:=h1.symm.trans e
      have b:atKey (q::qs) k=some q.2:=by simp [atKey,OR,e']
      rw [pI e,b];exact h2
    · have e':¬q.1=k:=fun z=>e (h1.trans z)
      have b:atKey (q::qs) k=atKey qs k:=by simp [atKey,OR,e']
      rw [pH e,b];exact ih
section
variable{P:Nk}{w:Ng}{H:Hp}{h:Nh}{a:MW}
theorem D_{u:HO}(ok:lE P w H h)(e:Rd H a u):dy P w H h a u:=e.ok ok
theorem zm{kvs:List (fx × V)}(ok:lE P w H h)(e:Rd H a (.dK kvs)):kvs.length≤Nr∧(a==OI)=false∧∃vs,KV kvs vs∧h.DictOf (ci P w) a vs:=
  show dy P w H h a (.dK kvs) from D_ ok e
theorem GW{kvs:List (fx × V)}(ok:lE P w H h)(e:H a=some (.dK kvs)):kvs.length≤Nr∧(a==OI)=false∧∃vs,KV kvs vs∧h.DictOf (ci P w) a vs:=zm ok (.inl e)
theorem zW{ks:List fx}(ok:lE P w H h)(e:H a=some (.tup (ks.map kV))):(tupleKind (ci P w)).is h ks a:=by
  obtain⟨_,its,r,o,h1,h2,n,h3,_⟩:=(show dy P w H h a (.tup (ks.map kV)) from ok a _ e)
  exact⟨o,its.toArray,n,h1,h2,h3,by simpa using qk r⟩
theorem DP{kvs:List (List fx × V)}(ok:lE P w H h)(e:Rd H a (.dT kvs)):kvs.length≤Nr∧(a==OI)=false∧
    ∃xs,KT H kvs xs∧h.DictOfH (tupleKind (ci P w)) a xs:=by
  obtain⟨z,y,xs,r,o,es,ep,h1,h2,h3,h4,h5⟩:=(show dy P w H h a (.dT kvs) from D_ ok e)
  refine⟨z,y,xs,r,o,es,ep,h1,h2,h3,h4,fun x hx=>?_,h5⟩
  have all:∀{l:List (List fx × V)} {m:List (List fx × MW × MX)},KT H l m→∀x∈m,(tupleKind (ci P w)).is h x.1 x.2.1:=by
    intro l m q
    induction q with
    | nil=>intro x hx;exact nomatch hx
    | @cons p q ps qs hq t ih=>
      intro x hx
      rcases MU hx with e | hx
      · subst e
        exact zW ok (by rw [←hq.1];exact hq.2.1)
      · exact ih x hx
  exact all r x hx
end
def yM(H:Hp)(a:MW)(y:V)(r:Option V):Prop:=
  (∃kvs k,Rd H a (.dK kvs)∧y=kV k∧r=mY kvs k)∨∃kvs k b,Rd H a (.dT kvs)∧y=.ref b∧H b=some (.tup (k.map kV))∧r=mY kvs k
theorem yM.k{H:Hp}{a:MW}{kvs:List (fx × V)}{k:fx}(e:H a=some (.dK kvs)):yM H a (kV k) (mY kvs k):=.inl ⟨kvs,k,.inl e,rfl,rfl⟩
section
variable{X:Cx}{pins:List (MW × Obj)}{σ:St}{H:Hp}{s:MZ}{a:MW}{y v:V}{u r:MX}{o:Option V}{A:Nn}{E:MX→MZ→Prop}
theorem aI.big(I:aI X pins σ H s):OI < ↑s:=by
  have h:ND < ↑s:=(I.mod.glob.keeps I.bk).lt
  exact QZ ⋯ h
theorem BW{h':Nh}{t':Nat}{ob:HO}(I:aI X pins σ H s)(mu:GH (H a))(hs:PM a s.heap h')(he:∃q,h'.get? a=some q)(new:dy X.prog X.w (bC H a ob) h' a ob):
    aI X pins σ (bC H a ob) {s with heap:=h',toks:=t'}:=
  I.write (x:=a) (e:=a) mu (.inl rfl) (fun b q hb z=>(hs.2 b hb).trans z) he new
theorem EC{P:Nk}{w:Ng}{H':Hp}{h':Nh}{kvs:List (fx × V)}{vs:List (fx × MX)}(z:kvs.length≤Nr)(hd:(a==OI)=false)(rel:KV kvs vs)(dd:h'.DictOf (ci P w) a vs):
    dy P w H' h' a (.dK kvs):=⟨z,hd,vs,rel,dd⟩
end
section
variable{X:Cx}{pins:List (MW × Obj)}{σ:St}{H:Hp}{s:MZ}{a:MW}{kvs:List (fx × V)}{k:fx}{u:MX}{A:Nn}{E:MX→MZ→Prop}
end
section
variable{X:Cx}{o i e value:Na}{pos pos' tpos:Pos}{td ty tv:TE}
end
theorem zl{P:Nk}{w:Ng}{H:Hp}(h:Nh)(hb:OI < h.objs.size):dy P w H (h.push {cls:=.type "dict",data:=.dict #[]}) h.objs.size (.dK []):=
  ⟨Qr _,beq_eq_false_iff_ne.mpr (NF (NJ hb)),[],.nil,Heap.DictOf.new h⟩
section
variable{X:Cx}{pos:Pos}
end
abbrev VV:List (V × V)→List (MX × MX)→Prop:=Paired fun p q=>bv p.1 q.1∧bv p.2 q.2
section
variable{X:Cx}{pins:List (MW × Obj)}{σ:St}{H:Hp}{s:MZ}{a:MW}{y d:V}{u r:MX}{o:Option V}{A:Nn}{E:MX→MZ→Prop}
end
section
variable{X:Cx}{o e f:Na}{apos cpos:Pos}{td ty tx:TE}
end
section
variable{X:Cx}{pins:List (MW × Obj)}{σ:St}{H:Hp}{s:MZ}{a:MW}{kvs:List (fx × V)}{A:Nn}{E:MX→MZ→Prop}
end
section
variable{X:Cx}{pins:List (MW × Obj)}{σ:St}{H:Hp}{s:MZ}{a:MW}{y:V}{u:MX}{A:Nn}{E:MX→MZ→Prop}
end
end L2
namespace Att
open PySem PySem.W PySem.Calls PyProof.Rows
section
variable{prog:Nk}{w:Ng}{A:Nn}{E:MX→MZ→Prop}{s:MZ}{K:Frag}
end
end Att
namespace L2
open PySem PySem.Spec PyProof.Rows
section
variable{P:Nk}{w:Ng}{K:⇑0}{mg:Str→Option MX}{base:Nh}
end
section
variable{X:Cx}
end
section
variable{κ:Type}[DecidableEq κ]
end
section
variable{X:Cx}{K:⇑0}{a:Na}{fa:FE}{pos p p2:Pos}
end
section
variable{X:Cx}{K:⇑0}
def D':FS:=fun _=>none
theorem C7{st:Nq}:PS X st (fS K D' []):=fun pins s σ H D I h=>by
  obtain⟨F,e,fl,R,hf,_⟩:=h
  cases hf
end
section
variable{X:Cx}{K:⇑0}{σ:L2.St}{F H:Hp}{e:En}{pos p1 p2:Pos}
end
section
variable{X:Cx}{K:⇑0}{a b c d:Na}{ta tb tc td:TE}{fa fb fc fd:FE}{pos:Pos}
end
section
variable{X:Cx}{K:⇑0}{a b:Na}{es:List Na}{fa fb:FE}{fs:FA}{pos p apos:Pos}
end
section
variable{X:Cx}{K:⇑0}{a b:Na}{fa fb:FE}{fs:FA}{pos p p2 p3:Pos}
end
def bq(W:bZ)(as:List Int):Int:=bp W (W.rng.filter fun k=> !as.contains k)
def wI(l:Nat):Int:=1000*(2 ^ (16 - l) - 1)
structure J1 (W:bZ) (k:Int) (as:List Int) (y n:Fr):Prop where
  y:IA (bq W (bZ.askd as k)) (wI (as.length+1)) y
  n:IA (bq W (bZ.askd as k)) (wI (as.length+1)) n
  len:as.length≤15
  inw:xD W k
  new:k∉as
def lk(ws:List Fr)(l:Int):Fr:=if l= -1 then(0,1) else ws.getD l.toNat (0,1)
structure Ka (W:bZ) (S:Nat→Std) (n:Nat) (ws:List Fr):Prop where
  len:ws.length=n
  at':∀(j:Nat) (f:Fr),ws[j]?=some f→IA (bq W (S j).1) (wI (S j).1.length) f
section
variable{X:Cx}{K:⇑0}{a:Na}{fa:FE}{pos p pos2 p2:Pos}
end
section
variable{X:Cx}{K:⇑0}{a:Na}{fa:FE}
end
abbrev Rn:=List (Int × Bool)
def BZ(R:Rn):List Int:=R.map (·.1)
def DQ(W:bZ)(R:Rn):List Int:=(R.filter (·.2)).flatMap fun r=>[(W.tie r.1).one,(W.tie r.1).other]
structure J9 (W:bZ) (R:Rn) (asked taken:List Int):Prop where
  pa:asked.Perm (BZ R)
  pt:taken.Perm (DQ W R)
  inw:∀k∈BZ R,xD W k
  nd:(BZ R).Nodup
  nk:(DQ W R).Nodup
  bd:∀t:Int,0≤t→t < W.things→W.many (BZ R) t≤W.pat.getD t.toNat 0
  ak:(R.length:Int)≤W.asks
  sa:asked.Pairwise (· ≤·)
  st:taken.Pairwise (· ≤·)
section
variable{prog:Nk}{w:Ng}{A:Nn}{R:Result→MZ→Prop}
end
def Gc(l:MW)(wi:TI)(g:TG)(tc:TT)(te:TE)(σ:L2.St)(H:Hp)(N:L2.St→Hp→Prop):Prop:=
  wi σ H fun J H1=>∃W:Nat→Nat→L2.St→Hp→Prop,(∃m,W 0 m σ H1)∧∀i m σ' H',W i m σ' H'→
    (J.stop i H'∧N σ' H')∨(J.go i H'∧∃N2:L2.St→Hp→Prop,(∀σ2 H2,N2 σ2 H2→∃m',m' < m∧W (i+1) m' σ2 H2)∧
      ∀x H2,J.yld i H' x H2→g x σ' H2 fun σ2 H3=>tc σ2 H3 fun b H4=>if b=true then te σ2 H4 fun v H5=>∃ys,H5 l=some (.lst ys)∧ys.length < Nr∧N2 σ2 (bC H5 l (.lst (ys++[v]))) else N2 σ2 H4)
structure Jv (cp:List (Nat × Str)) (nT:Nat) (wi:TI) (g:TG) (tc:TT) (wi2:TI) (g2:TG) (tc2:TT) (te:TE) (σ:L2.St) (H:Hp) (Q:VK):Prop where
  go:wi σ H fun J H1=>∀l,H1 l=none→
  ∃W:Nat→Nat→L2.St→Hp→Prop,(∃m,W 0 m (gD cp nT σ) (bC H1 l (.lst [])))∧∀i m σ' H',W i m σ' H'→
    (J.stop i H'∧Q (.ref l) H')∨(J.go i H'∧∃N:L2.St→Hp→Prop,(∀σ2 H2,N σ2 H2→∃m',m' < m∧W (i+1) m' σ2 H2)∧
      ∀x H2,J.yld i H' x H2→g x σ' H2 fun σ2 H3=>tc σ2 H3 fun b H4=>if b=true then Gc l wi2 g2 tc2 te σ2 H4 N else N σ2 H4)
section
variable{K:⇑0}{F H:Hp}{σ:L2.St}{e:En}{cp:List (Nat × Str)}{nT:Nat}
end
section
variable{X:Cx}{K:⇑0}{pos:Pos}
end
section
variable{X:Cx}{K:⇑0}{pos:Pos}
variable{o:Na}{fo:FE}{apos cpos:Pos}
end
section
variable{X:Cx}{K:⇑0}
end
structure lF (f:Fr):Prop where
  pos:0 < f.2
  cop:Nv f.1 f.2=1
def Vl(M:Int)(f:Fr)(v:Int):Prop:=f.1*M=v*f.2
theorem lF.lowM{t b:Int}(h:0 < b):lF (L2.lowM t b):=by
  obtain⟨d,_,_,_,_,h5⟩:=ij (t:=t) (b:=b) ↥0
  exact⟨h5,tV ↥0⟩
theorem lF.pl{a b:Fr}(pa:0 < a.2)(pb:0 < b.2):lF (pl a b):=lF.lowM (Qc pa pb)
theorem lF.uniq{M v:Int}{a b:Fr}(hM:0 < M)(ha:lF a)(hb:lF b)(va:Vl M a v)(vb:Vl M b v):a=b:=by
  unfold Vl at*
  have cr:a.1*b.2=b.1*a.2:=by
    refine QL (a:=M) ↥0 ?_
    rw [show a.1*b.2*M=a.1*M*b.2 by rw [PD,Pc b.2,←PD],va,show b.1*a.2*M=b.1*M*a.2 by rw [PD,Pc a.2,←PD],vb,PD,PD,Pc a.2]
  have pa:=ha.pos;have pb:=hb.pos
  have d1:a.2.natAbs ∣ b.2.natAbs:=by
    have dv:a.2.natAbs ∣ (a.1*b.2).natAbs:=Int.natAbs_dvd_natAbs.mpr ⟨b.1,by rw [cr,Pc]⟩
    rw [Qq] at dv
    have cp:Nat.Coprime a.2.natAbs a.1.natAbs:=by
      have:Nat.gcd a.1.natAbs a.2.natAbs=1:=ha.cop
      rw [Nat.Coprime,Nat.gcd_comm];exact this
    exact cp.dvd_of_dvd_mul_left dv
  have d2:b.2.natAbs ∣ a.2.natAbs:=by
    have dv:b.2.natAbs ∣ (b.1*a.2).natAbs:=Int.natAbs_dvd_natAbs.mpr ⟨a.1,by rw [←cr,Pc]⟩
    rw [Qq] at dv
    have cp:Nat.Coprime b.2.natAbs b.1.natAbs:=by
      have:Nat.gcd b.1.natAbs b.2.natAbs=1:=hb.cop
      rw [Nat.Coprime,Nat.gcd_comm];exact this
    exact cp.dvd_of_dvd_mul_left dv
  have e2:a.2=b.2:=by
    have:=Nat.dvd_antisymm d1 d2
    lia
  have e1:a.1=b.1:=by
    rw [e2] at cr
    exact QL ↥0 cr
  exact Prod.ext e1 e2
def Kb(t:hJ)(b:Bool):Fr:=if b then(t.top,t.bot) else(t.bot - t.top,t.bot)
abbrev Pg:=List Int × Int
structure JO (k:Nat) (ps:List Pg):Prop where
  ne:ps≠[]
  len:ps.length≤2 ^ k
  pt:∀p∈ps,p.1.length≤2*k∧0≤p.2∧p.2≤1000*(k:Int)
section
variable{prog:Nk}{w:Ng}{A:Nn}{E:MX→MZ→Prop}{s:MZ}
end
section
variable{X:Cx}{a:Na}{ta:TA}{p p2 pos pos2:Pos}
variable{K:⇑0}{fs:FA}{p3:Pos}
end
def Ha(lo hi:Int):MY→Bool
  | .int i=>decide (lo≤i)&&decide (i≤hi)
  | _=>false
def uniq(many:Int):List Int→List MY→Bool
  | _,[]=>true
  | pre,.int i::r=>Ha 0 (many - 1) (.int i)&&(!pre.contains i&&uniq many (pre++[i]) r)
  | _,_::_=>false
mutual
def wt:MY→Nat
  | .list xs=>BC xs+1
  | .tuple xs=>BC xs+1
  | .dict _=>1
  | .none=>1
  | .bool _=>1
  | .int _=>1
  | .str _=>1
def BC:List MY→Nat
  | []=>0
  | x::r=>wt x+BC r
end
structure Kp (d:MY) (k:Nat):Prop where
  lay:d.canLay0=true
  sh:d.showable=true
  dp:d.depth≤k
  ln:d.shown.length+2≤104*wt d
  so:Ob d.shown=true
theorem nS{e:En}{xs:List MY}{neg:Bool}(hs:Oh (.tuple xs)=true):cG neg e (.d (.tuple xs)) (.d (.tuple []))=some (.d (.bool (if neg then !xs.isEmpty else xs.isEmpty))):=by
  unfold cG
  simp only [jb,NI,hs]
  have h0:Oh (.tuple [])=true:=by simp [Oh,OB,OS,OA,OP]
  rw [h0]
  cases xs<;>simp [Ph,PyData.eqvAll]
section
variable{X:Cx}{K:⇑0}
variable{a b:Na}{fa fb:FE}{pos:Pos}
end
def tx(s:Str):List Nat:=s.cps.toList
section
variable{X:Cx}{K:⇑0}{es:List Na}{k0:Nat}{tp:Pos}{a b:Na}{fs:FA}{p pos:Pos}
def tR(fs:FA):FI:=fun e=>(fs e).bind fun p=>match p.1 with
  | [.d (.tuple xs),.d (.tuple ys)]=>some (fF xs ys,[],p.2)
  | _=>none
end
def Ki(x:Nd)(b:Bool):Int:=if b=true then x.yes else x.no
def DV(T:List Nd)(i:Nat)(b:Bool):Int:=match T[i]? with
  | some x=>Ki x b
  | none=> -1
def IX(T:List Nd):Prop:=∀(i j:Nat) (a b:Bool),DV T i a=DV T j b→DV T i a≠ -1→i=j∧a=b
def JG(w:Wt):Int × Int:=(w.par,w.side)
structure Ks (T:List Nd) (ws:List Wt):Prop where
  unq:IX T
  rng:∀i a,DV T i a= -1∨(0 < DV T i a∧DV T i a < (T.length:Int))
  free:∀w∈ws,w.par= -1∨(0≤w.par∧w.par < (T.length:Int)∧DV T w.par.toNat (w.side==0)= -1)
  dst:(ws.map JG).Nodup
  side:∀w∈ws,w.side=0∨w.side=1
structure Kv (T:List Nd) (w0 ws order:List Int):Prop where
  nd:(order++ws).Nodup
  par:∀v∈order++ws,v=0∨∃u∈order,∃b,DV T u.toNat b=v∧v≠ -1
  fst:(order=[]∧ws=w0)∨order[0]?=some 0
section
variable{prog:Nk}{w:Ng}{A:Nn}{E:MX→MZ→Prop}{s:MZ}
end
section
variable{X:Cx}{tg a:Na}{ta:TA}{p pos:Pos}
end
section
variable{X:Cx}{K:⇑0}{σ:L2.St}{tg a:Na}{fs:FA}{p pos:Pos}
end
section
variable{X:Cx}{a k:Na}{p2 pos:Pos}{fa fk:FE}{K:⇑0}
theorem vJ(n:Nat):Qj ((n:Int) - 1) (-1) (-1)=n:=by
  unfold Qj
  rw [if_neg ⋯,show(- -1:Int)=1 from rfl]
  split<;>lia
theorem tM{α β:Type}{f g:α→Option β}:∀{l:List α},(∀x∈l,f x=g x)→l.filterMap f=l.filterMap g
  | [],_=>rfl
  | x::r,h=>by rw [QQ,QQ,h x ↥1,tM fun y hy=>h y (by simp [hy])]
theorem AI(xs:Array MX):((Nb xs.size).filterMap fun(m:Nat)=>xs[((xs.size:Int) - 1+(m:Int)*(-1)).toNat]?).toArray=xs.toList.reverse.toArray:=by
  have e:(Nb xs.size).filterMap (fun(m:Nat)=>xs[((xs.size:Int) - 1+(m:Int)*(-1)).toNat]?)=((Nb xs.size).map fun k=>xs.size - 1 - k).filterMap (xs[·]?):=by
    rw [List.filterMap_map]
    refine tM fun m hm=>?_
    have:=NB.mp hm
    show xs[_]?=xs[xs.size - 1 - m]?
    congr 1
    lia
  rw [e,PySem.W.krv_range,List.filterMap_reverse,PySem.W.krv_all]
section
variable{prog:Nk}{w:Ng}{A:Nn}{E:MX→MZ→Prop}{s:MZ}
theorem mh{sl:MW}{t:Tok}{n:Nat}{Q:Int × Int × Nat→MZ→Prop}(hs:s.heap.IsSliceOf sl .none .none (.int (-1) t))(h:Q ((n:Int) - 1, -1,n) s):Nf (Ni prog w) A (Rp (.ref sl) (pure (n:Int))) Q E s:=by
  obtain⟨os,hos,hcs,hds⟩:=id hs
  unfold Rp SK
  refine Nc (Nc (NZ hos hds (x:=.none) rfl (Nc (NZ hos hds (x:=.none) rfl (Nc (NZ hos hds (x:=.int (-1) t) rfl (Nm ?_)))))))
  refine Nc (HT.slicePart_ (.int (-1) t) ?_)
  show Nf _ _ (if ((-1:Int)==0)=true then _ else _) _ _ s
  rw [if_neg ⋯]
  refine Nc (HT.slicePart_ .none (Nc (HT.slicePart_ .none (Nc (Nm ?_)))))
  show Nf _ _ (pure ((n:Int) - 1,(-1:Int),Qj ((n:Int) - 1) (-1) (-1))) _ _ s
  rw [vJ]
  exact Nm h
theorem kG{t sl:MW}{items:Array MX}{tk:Tok}{Q:MX→MZ→Prop}(ht:IsTup s.heap t items)(hs:s.heap.IsSliceOf sl .none .none (.int (-1) tk))
    (h:Q (.ref ↑s) {s with heap:=s.heap.push {cls:=.type "tuple",data:=.seq items.toList.reverse.toArray}})(hsz:items.size≤Nr):Nf (Ni prog w) A (getItem (.ref t) (.ref sl)) Q E s:=by
  have htake:sizeOk (.seq items.toList.reverse.toArray):=by
    show items.toList.reverse.toArray.size≤Nr
    rw [NA,RH,QB]
    exact hsz
  obtain⟨os,hos,hcs,hds⟩:=id hs
  have hTs:s.TypeIs (.ref sl) "slice":=⟨os,hos,hcs⟩
  unfold getItem
  try with_reducible refine Pm ?_
  first | refine Nc (Nm ?_) | skip
  refine Nc (wpAny_sequenceKey ht.typeIs ⋯ ?_)
  refine Nc (PX (name:=On "__getitem__") ht.typeIs Pq
    (PB Pq ht.typeIs entry_tuple_getitem ?_ (args_tuple_getitem _ _)))
  show Nf _ _ (RW (.ref t) >>= _) _ _ s
  refine Nc (tupleItemsOf_ ht ?_)
  refine Nc (wpAny_typeOf hTs ?_)
  rw [if_pos ⋯]
  refine Nc (mh hs ?_)
  have hno:¬((((items.size:Int) - 1)==0&&(-1:Int)==1&&items.size==items.size)=true):=by
    intro q
    rw [NP,NP] at q
    have q1:((-1:Int)==1)=true:=q.1.2
    exact absurd q1 ⋯
  show Nf _ _ (if (((items.size:Int) - 1)==0&&(-1:Int)==1&&items.size==items.size)=true then _ else _) _ _ s
  rw [if_neg hno,AI]
  first
    | exact Nc (m:=Pr _) (Ow (Nm ⟨_,rfl,Nm h⟩) htake)
    | exact Nc (m:=Pr _) (Ow (Nc (Nm (Nm ⟨_,rfl,Nm h⟩))) htake)
    | exact Nc (Nc (m:=Pr _) (Ow (Nm (Nm ⟨_,rfl,Nm h⟩)) htake))
    | exact Nc (Nc (m:=Pr _) (Ow (Nm ⟨_,rfl,Nm h⟩) htake))
end
def Km(K:⇑0)(te tk:TE):TE:=fun σ H Q=>te σ H fun x H1=>tk σ H1 fun y H2=>y=.int (-1)∧((∃a xs,x=.ref a∧gC K H2 a xs∧∀p,H2 p=none→Q (.ref p) (bC H2 p (.lst xs.reverse)))∨∃a xs,x=.ref a∧dz K H2 a xs∧∀p,H2 p=none→Q (.ref p) (bC H2 p (.tup xs.reverse)))
theorem Hw{te tk:TE}(he:PE X a te)(hk:PE X k tk):PE X (.Subscript a (.Slice none none (some k) p2) pos) (Km X.K te tk):=by
  intro pins s σ H Q I h
  refine Subscript_ (cM (he pins s σ H _ I h) fun v s1 ⟨x,H1,I1,r1,q1⟩=>?_)
  refine wpAny_Slice ?_
  rw [evalPart_none]
  refine Nm (Nm ?_)
  refine cM (hk pins s1 σ H1 _ I1 q1) fun vk s3 ⟨y,H3,I3,rk,e,q⟩=>?_
  subst e
  obtain⟨t,rfl⟩:∃t,vk=.int (-1) t:=rk
  have I4:aI X pins σ H3 {s3 with heap:=s3.heap.push {cls:=.type "slice",data:=.fields #[.none,.none,.int (-1) t]}}:=I3.kept (t':=s3.toks) fun b ob q=>Nz _ q
  rcases q with ⟨b,xs,ex,hx,q⟩ | ⟨b,xs,ex,hx,q⟩
  · subst ex
    cases r1
    obtain⟨its,r,ht,hz⟩:=I4.list hx
    have hlen:=r.length
    show Nf (Ni X.prog X.w) X.A (subscriptTail a (.Slice none none (some k) p2) (.ref b) (.ref ↑s3)) (EP X pins σ Q) X.xe {s3 with heap:=s3.heap.push {cls:=.type "slice",data:=.fields #[.none,.none,.int (-1) t]}}
    refine tail_any (T:="list") ht.isList.typeIs slot_list_getitem.lookup ?_ (by with_unfolding_all rfl)
    refine wpAny_getItem_list_slice ht.isList (RX ..) .none .none (.int (-1) t) ⋯ ?_ (by rw [NA]<;>lia)
    rw [PySem.W.krv_pick]
    refine⟨.ref _,_,I4.laid (t':=s3.toks) (o:=.lst xs.reverse) (fun b ob q=>Nz _ q) ↥8 ?_,rfl,q _ (I4.hok.fresh ↥8)⟩
    exact⟨by rw [RH];exact hz,_,0,r.reverse,Oj _ rfl⟩
  · subst ex
    cases r1
    obtain⟨its,r,ht,hz⟩:=I4.tuple hx
    have hlen:=r.length
    show Nf (Ni X.prog X.w) X.A (subscriptTail a (.Slice none none (some k) p2) (.ref b) (.ref ↑s3)) (EP X pins σ Q) X.xe {s3 with heap:=s3.heap.push {cls:=.type "slice",data:=.fields #[.none,.none,.int (-1) t]}}
    refine tail_any (T:="tuple") ht.typeIs Pq.lookup ?_ (by with_unfolding_all rfl)
    refine kG ht (RX ..) ?_ (by rw [NA]<;>lia)
    refine⟨.ref _,_,I4.laid (t':=s3.toks) (o:=.tup xs.reverse) (fun b ob q=>Nz _ q) ↥8 ?_,rfl,q _ (I4.hok.fresh ↥8)⟩
    exact⟨by rw [RH];exact hz,_,r.reverse,lG.new _ _⟩
def I_(e:En)(x y:Rv):Option Rv:=match y with
  | .d (.int i)=>if i= -1 then(eX e x).bind fun p=>some (if p.1=true then .l p.2.reverse else .d (.tuple p.2.reverse)) else none
  | _=>none
def Im(fa fk:FE):FE:=fun e=>(fa e).bind fun p=>(fk p.2).bind fun k=>(I_ k.2 p.1 k.1).map fun z=>(z,k.2)
theorem rh:∀{F:Hp} {ds:List MY} {vs:List V},aT K F ds vs→aT K F ds.reverse vs.reverse
  | F,[],vs,h=>by simp only [aT] at h;subst h;exact aT.nil
  | F,d::ds,vs,h=>by
    simp only [aT] at h
    obtain⟨v,ws,rfl,h1,h2⟩:=h
    rw [Rq,Rq]
    exact(rh h2).append (aT.one h1)
theorem HD(he:PE X a (fE X.K fa))(hk:PE X k (fE X.K fk)):PE X (.Subscript a (.Slice none none (some k) p2) pos) (fE X.K (Im fa fk)):=(Hw he hk).mono fun σ H Q h=>by
  obtain⟨F,e,z,e',R,hf,q⟩:=h
  unfold Im at hf
  obtain⟨⟨x,e1⟩,h1,hf⟩:=MP hf
  obtain⟨⟨y,e2⟩,h2,hf⟩:=MP hf
  obtain⟨z',h4,hf⟩:=MQ hf
  cases hf
  refine⟨F,e,x,e1,R,h1,fun F1 H1 v X1 R1 A1=>⟨F1,e1,y,_,R1,h2,fun F2 H2 u X2 R2 A2=>?_⟩⟩
  unfold I_ at h4
  split at h4
  · rename_i i hy
    have hy:y=.d (.int i):=hy
    subst hy
    by_cases hi:i= -1
    case neg=>rw [if_neg hi] at h4;cases h4
    rw [if_pos hi] at h4
    subst hi
    obtain⟨⟨b,xs⟩,h5,h4⟩:=MP h4
    cases b with
    | false=>
      cases h4
      obtain⟨p,vs,rfl,d1,s1⟩:=dw R2 (A1.ext X2) h5
      refine⟨by first | exact A2 | cases A2;rfl,.inr ⟨p,vs,rfl,s1,fun t ht=>?_⟩⟩
      obtain⟨R4,X4⟩:=R2.newT (vs:=vs.reverse) ht
      exact q _ _ _ ((X1.trans X2).trans X4) R4 (cq.mpr ⟨t,_,rfl,.inl (.inl ay),(rh d1).mono X4.sf⟩)
    | true=>
      cases h4
      obtain⟨p,vs,rfl,d1,s1⟩:=dw R2 (A1.ext X2) h5
      refine⟨by first | exact A2 | cases A2;rfl,.inl ⟨p,vs,rfl,s1,fun t ht=>?_⟩⟩
      obtain⟨R4,X4,hF,no⟩:=R2.newL (vs:=vs.reverse) ht
      exact q _ _ _ ((X1.trans X2).trans X4) R4 ⟨t,_,rfl,(X1.trans X2).dom _ ht,hF,ay,rh d1,no⟩
  · cases h4
theorem Jq(hK:X.K=K)(he:PE X a (fE K fa))(hk:PE X k (fE K fk)):PE X (.Subscript a (.Slice none none (some k) p2) pos) (fE K (Im fa fk)):=by subst hK;exact HD he hk
end
def mU(a:Int)(n:Nat):List Int:=(Nb n).map fun(k:Nat)=>a+(k:Int)
theorem A_{a:Int}{n:Nat}:(mU a n).length=n:=by simp [mU]
section
variable{X:Cx}{a b:Na}{ta:TA}{p p2 pos pos2:Pos}{K:⇑0}{fs:FA}
theorem xO(hg:Gl X "range")(hm:X.mg "range"=none)(ha:PA X [a,b] ta)(hs:Nl [a,b] X.env=[(false,Nj a X.env),(false,Nj b X.env)])(hs2:Nl [b] X.env=[(false,Nj b X.env)]){pins:List (MW × Obj)}{s:MZ}{σ:L2.St}{H:Hp}{R:Int→Int→Hp→Prop}(I:aI X pins σ H s)(h:ta σ H fun vs H1=>∃i j:Int,vs=[.int i,.int j]∧R i j H1):
    Nf (Ni X.prog X.w) X.A (Nj (.Call (.Name "range" p) [a,b] [] pos) X.env) (fun v s1=>∃(r:MW) (i j:Int) (H1:Hp) (t u w:Tok),v=.ref r∧IsRange s1.heap r i j 1 t u w∧r < ↑s1∧aI X pins σ H1 s1∧R i j H1) X.xe s:=by
  refine Call_ (gr I hg hm boot_range (Po (cM (ha pos pins s σ H _ I h) fun us s1 ⟨vs,H1,I1,r1,q1⟩=>?_) (by rw [hs,hs2]) (by rw [hs2];rfl)))
  obtain⟨i,j,e,q⟩:=q1
  subst e
  cases r1 with
  | cons r rr=>
    cases rr with
    | cons r' rr=>
      cases rr
      obtain⟨t,rfl⟩:=r
      obtain⟨t',rfl⟩:=r'
      exact call_range_2 ⟨_,i,j,H1,_,_,_,rfl,IsRange.new ..,by simp [Oo],I1.kept fun b o e=>Nz _ e,q⟩
def Jy(ta:TA):TE:=fun σ H Q=>ta σ H fun vs H1=>∃i j:Int,vs=[.int i,.int j]∧(0≤i∧i≤100000∧0≤j∧j≤100000∧∀l,H1 l=none→Q (.ref l) (bC H1 l (.lst ((mU i (j - i).toNat).map V.int))))
theorem pV(hc:X.calm=true)(hgl:Gl X "list")(hml:X.mg "list"=none)(hg:Gl X "range")(hm:X.mg "range"=none)(ha:PA X [a,b] ta)(hs:Nl [a,b] X.env=[(false,Nj a X.env),(false,Nj b X.env)])(hs2:Nl [b] X.env=[(false,Nj b X.env)])
    (he:Nl [.Call (.Name "range" p) [a,b] [] pos] X.env=(false,Nj (.Call (.Name "range" p) [a,b] [] pos) X.env)::Nl [] X.env):PE X (.Call (.Name "list" p2) [.Call (.Name "range" p) [a,b] [] pos] [] pos2) (Jy ta):=by
  intro pins s σ H Q I h
  refine QV (gr I hgl hml Sg ?_ ⋯ ⋯)
  refine Po ?_ he rfl
  rw [he]
  refine QU (cM (xO hg hm ha hs hs2 I h) fun u s1 ⟨r,i,j,H1,t,u1,w,e,hr,lt,I1,i0,i1,j0,j1,q⟩=>?_)
  subst e
  refine Nm ?_
  have hsm:Builtin.Range.small i j 1=true:=small_one ↥0 ↥0 ↥0 ↥0
  refine call_list_range (n:=(j - i).toNat) (I1.ok.hd hc) hr hsm (by rw [rangeSize_one];split<;>lia) (NS (show(j - i).toNat≤100000 by lia) ⋯) fun h' tk acc c hk hD hI=>?_
  have hf:H1 ↑s1=none:=I1.hok.fresh ↥8
  have vv:aR ((mU i (j - i).toNat).map V.int) acc.toList:=by
    have z:=sW acc.toList (fun k=>i+(k:Int)) fun k v e=>by
      obtain⟨t,ht⟩:=hI.2 k v (by simpa using e)
      exact⟨t,by rw [ht];simp⟩
    rw [QB,hI.1] at z
    rw [mU,Os]
    exact z
  refine⟨.ref ↑s1,_,I1.laid (o:=.lst ((mU i (j - i).toNat).map V.int)) hk ↥8 ⟨?_,acc.toList,c,vv,by simpa using hD⟩,rfl,q _ hf⟩
  rw [Nw,A_,Om];lia
def iB(fs:FA):FE:=fun e=>(fs e).bind fun p=>match p.1 with
  | [r,t]=>(cg r).bind fun i=>(cg t).bind fun j=>if 0≤i∧i≤100000∧0≤j∧j≤100000 then some (.l ((mU i (j - i).toNat).map .int),p.2) else none
  | _=>none
theorem sA(hc:X.calm=true)(hgl:Gl X "list")(hml:X.mg "list"=none)(hg:Gl X "range")(hm:X.mg "range"=none)(ha:PA X [a,b] (fA K fs))(hs:Nl [a,b] X.env=[(false,Nj a X.env),(false,Nj b X.env)])(hs2:Nl [b] X.env=[(false,Nj b X.env)])
    (he:Nl [.Call (.Name "range" p) [a,b] [] pos] X.env=[(false,Nj (.Call (.Name "range" p) [a,b] [] pos) X.env)]):PE X (.Call (.Name "list" p2) [.Call (.Name "range" p) [a,b] [] pos] [] pos2) (fE K (iB fs)):=(pV hc hgl hml hg hm ha hs hs2 he).mono fun σ H Q h=>by
  obtain⟨F,e,z,e',R,hf,q⟩:=h
  unfold iB at hf
  obtain⟨⟨rs,e1⟩,h1,hf⟩:=MP hf
  match rs,h1,hf with
  | [r,t],h1,hf=>
  obtain⟨i,h2,hf⟩:=MP hf
  obtain⟨j,h3,hf⟩:=MP hf
  split at hf
  case isFalse=>cases hf
  case isTrue hj=>
  cases hf
  refine⟨F,e,_,e1,R,h1,fun F1 H1 vs X1 R1 A1=>?_⟩
  obtain⟨v,u,rfl,A2,A3⟩:=jL A1
  refine⟨i,j,by rw [bz A2 h2,bz A3 h3],hj.1,hj.2.1,hj.2.2.1,hj.2.2.2,fun t ht=>?_⟩
  obtain⟨R3,X3,hF,no⟩:=R1.newL (vs:=(mU i (j - i).toNat).map V.int) ht
  exact q _ _ _ (X1.trans X3) R3 ⟨t,_,rfl,X1.dom _ ht,hF,ay,aT.ints.mpr rfl,no⟩
end
section
variable{X:Cx}{o i e:Na}{fo fi:FE}{tpos pos:Pos}{K:⇑0}
end
section
variable{X:Cx}{K:⇑0}
end
section
open PySem.MeetsSeq2 PySem.AutoSeq1 PySem.SeqAt
end
section
variable{X:Cx}{K:⇑0}{o a:Na}{to te:TE}{name:Str}{apos cpos:Pos}{T id:String}{r:V→List V→Hp→VK→Prop}{fo fa:FE}
end
section
variable{X:Cx}{K:⇑0}{o a:Na}{apos cpos:Pos}{fo fa:FE}
end
section
variable{K:⇑0}{F H:Hp}{σ:L2.St}{e:En}{cp:List (Nat × Str)}{nT:Nat}
end
section
variable{X:Cx}{K:⇑0}{a b:Na}{es:List Na}{fa fb:FE}{fs:FA}{pos p p2 p3:Pos}{lo hi:Option Na}
end
section
variable{X:Cx}{K:⇑0}
end
section
variable{X:Cx}{K:⇑0}{a b:Na}{fa fb:FE}{pos:Pos}
end
section
variable{X:Cx}{K:⇑0}
end
structure Sw (b:Bool) (n dep:Nat) (d:MY):Prop where
  dl:bif b then kd d=true else d.hasDict=false
  sh:d.showable=true
  dp:d.depth≤dep
  ln:d.shown.length+2≤n
  so:Ob d.shown=true
structure S1 (n:Nat) (f:Fr):Prop where
  low:lF f
  lo:0≤f.1
  hi:f.1≤f.2
  bt:Bt n f.2
def Kg(e:Int)(t:hJ):Bool:=t.one==e || t.other==e
structure Kw (b f g:Fr):Prop where
  pf:0 < f.2
  pg:0 < g.2
  eq:g.1*(f.2*b.1)=g.2*(f.1*b.2)
def vR(f:Fr):Rat:=(f.1:Rat) / (f.2:Rat)
theorem di{b:Int}(h:0 < b):(b:Rat)≠0:=fun e=>by
  have:b=0:=by exact_mod_cast e
  lia
theorem fD{t b:Int}(hb:0 < b):vR (lowM t b)=(t:Rat) / (b:Rat):=by
  have c:=oF (t:=t) (b:=b) (Int.ne_of_gt hb)
  have p:=(lF.lowM (t:=t) hb).pos
  have c':((lowM t b).1:Rat)*(b:Rat)=((lowM t b).2:Rat)*(t:Rat):=by exact_mod_cast c
  have h1:=di hb
  have h2:=di p
  unfold vR
  generalize ((lowM t b).1:Rat)=x at*
  generalize ((lowM t b).2:Rat)=y at*
  generalize (b:Rat)=z at*
  generalize (t:Rat)=w at*
  grind
theorem Il{a b:Fr}(ha:0 < a.2)(hb:0 < b.2):vR (pl a b)=vR a+vR b:=by
  have h:=fD (t:=a.1*b.2+b.1*a.2) (Qc ha hb)
  have h1:=di ha
  have h2:=di hb
  change vR (pl a b)=_ at h
  rw [h]
  unfold vR
  rw [Rat.intCast_add,OT,OT,OT]
  generalize (a.1:Rat)=x at*
  generalize (a.2:Rat)=y at*
  generalize (b.1:Rat)=z at*
  generalize (b.2:Rat)=w at*
  grind
theorem Ed{a b:Fr}(ha:0 < a.2)(hb:0 < b.2):vR (tm a b)=vR a*vR b:=by
  have h:=fD (t:=a.1*b.1) (Qc ha hb)
  have h1:=di ha
  have h2:=di hb
  change vR (tm a b)=_ at h
  rw [h]
  unfold vR
  rw [OT,OT]
  generalize (a.1:Rat)=x at*
  generalize (a.2:Rat)=y at*
  generalize (b.1:Rat)=z at*
  generalize (b.2:Rat)=w at*
  grind
theorem pG{a b:Fr}(ha:lF a)(hb:lF b)(h:vR a=vR b):a=b:=by
  have h1:=di ha.pos
  have h2:=di hb.pos
  have c:(b.1:Rat)*(a.2:Rat)=(a.1:Rat)*(b.2:Rat):=by
    unfold vR at h
    generalize (a.1:Rat)=x at*
    generalize (a.2:Rat)=y at*
    generalize (b.1:Rat)=z at*
    generalize (b.2:Rat)=w at*
    grind
  have c':b.1*a.2=a.1*b.2:=by exact_mod_cast c
  exact lF.uniq (M:=a.2) (v:=a.1) ha.pos ha hb rfl c'
theorem JF:vR (0,1)=0:=by unfold vR;simp;grind
theorem Gu(n:Int):vR (n,1)=(n:Rat):=by unfold vR;simp;grind
def cR(t:hJ)(b:Bool):Rat:=vR (Kb t b)
def hR(t:hJ):Rat:=cR t true*(t.worth:Rat)
structure Ku (O:bZ) (ss ws:List Std):Prop where
  len:ss.length=ws.length
  at':∀j,(ss.getD j ([],[])).1=(ws.getD j ([],[])).1∧(ss.getD j ([],[])).2.length≤2*(ss.getD j ([],[])).1.length∧∀k∈(ss.getD j ([],[])).1,xD O k
structure Kr (O:bZ) (T:List Nd):Prop where
  tie:∀(i:Nat) (x:Nd),T[i]?=some x→xD O x.tie
  lk:∀(i:Nat) (x:Nd),T[i]?=some x→(-1≤x.yes∧x.yes < (T.length:Int))∧(-1≤x.no∧x.no < (T.length:Int))
section
variable{K:⇑0}
variable{X:Cx}{σ:L2.St}{H0 H:Hp}{e:En}
end
section
variable{X:Cx}{a b:Na}{ta:TA}{p p2 pos pos2:Pos}
end
section
variable{X:Cx}{K:⇑0}{fs:FA}{a b:Na}{p p2 pos pos2:Pos}
end
theorem bS:∀(names:List (Str × Of)) (n:Nat) (acc:List (Str × MW)),NK n names acc=NK n names []++acc
  | [],_,_=>rfl
  | (x,k)::r,n,acc=>by
    unfold NK
    split
    · rw [bS r (n+1) ((x,n)::acc),bS r (n+1) [(x,n)],List.append_assoc];rfl
    · exact bS r n acc
theorem iI:∀(names:List (Str × Of)) (n:Nat) (x:Str) (c:MW),(NK n names []).lookup x=some c→∃y∈names,y.1=x∧y.2=.cell
  | [],_,_,_,h=>by simp [NK] at h
  | (z,k)::r,n,x,c,h=>by
    unfold NK at h
    split at h
    · rename_i hk
      rw [bS,Rk] at h
      cases q:(NK (n+1) r []).lookup x with
      | some d=>
        obtain⟨y,hy,e⟩:=iI r _ x d q
        exact⟨y,NT _ hy,e⟩
      | none=>
        rw [q] at h
        have h':List.lookup x [(z,n)]=some c:=h
        rw [Pe] at h'
        cases hx:x==z with
        | true=>exact⟨(z,k),Pj,(by simpa using hx:x=z).symm,by simpa using hk⟩
        | false=>rw [hx] at h';simp at h'
    · obtain⟨y,hy,e⟩:=iI r n x c h
      exact⟨y,NT _ hy,e⟩
theorem gX:∀(names:List (Str × Of)) (n:Nat) (x:Str),(∃y∈names,y.1=x∧y.2=.cell)→∃c,(NK n names []).lookup x=some c
  | [],_,_,⟨_,h,_⟩=>by cases h
  | (z,k)::r,n,x,⟨y,hy,e1,e2⟩=>by
    unfold NK
    split
    · rename_i hk
      rw [bS,Rk]
      cases q:(NK (n+1) r []).lookup x with
      | some d=>exact⟨d,rfl⟩
      | none=>
        rcases MU hy with w | w
        · subst w;subst e1;exact⟨n,by simp [Pe]⟩
        · obtain⟨c,hc⟩:=gX r (n+1) x ⟨y,w,e1,e2⟩
          rw [q] at hc;cases hc
    · rename_i hk
      rcases MU hy with w | w
      · subst w;exact absurd (by simpa using e2) hk
      · exact gX r n x ⟨y,w,e1,e2⟩
theorem qc{env:Env}:∀(names:List (Str × Of)) (cs:List (Str × MW)) (x:Str),(¬∃y∈names,y.1=x∧y.2=.free)→cs.lookup x=none→(ic env names cs).lookup x=none
  | [],_,_,_,h=>h
  | (n,k)::r,cs,x,hn,hcs=>by
    refine qc r _ x (fun⟨y,hy,z⟩=>hn ⟨y,NT _ hy,z⟩) ?_
    by_cases hk:(k==Oz)=true
    · rw [if_pos hk,Pe]
      cases hx:x==n with
      | true=>exact absurd ⟨(n,k),Pj,(by simpa using hx:x=n).symm,by simpa using hk⟩ hn
      | false=>exact hcs
    · rw [if_neg hk];exact hcs
theorem oV{env:Env}:∀{names:List (Str × Of)} {x:Str},(names.map fun(n,k)=>if (k==Oz&&env.scope.kind==.function&&env.kindOf n==some .cell) then(n,Qs) else(n,k)).lookup x=some .cell∨
    (names.map fun(n,k)=>if (k==Oz&&env.scope.kind==.function&&env.kindOf n==some .cell) then(n,Qs) else(n,k)).lookup x=some .free→∃y∈names,y.1=x∧(y.2=.free∨y.2=.cell)
  | [],x,h=>by simp at h
  | (n,k)::r,x,h=>by
    have ih:=@oV env r x
    rw [Nx] at h
    cases hx:x==n with
    | true=>
      have e1:x=n:=by simpa using hx
      subst e1
      refine⟨(x,k),Pj,rfl,?_⟩
      by_cases q:(k==Oz&&env.scope.kind==.function&&env.kindOf x==some .cell)=true
      · simp only [NP,beq_iff_eq] at q;exact .inl q.1.1
      · simp only [q,Ry,if_false,Pe,beq_self_eq_true,Qy] at h
        exact h.symm
    | false=>
      have e2:∀(l:List (Str × Of)),((if (k==Oz&&env.scope.kind==.function&&env.kindOf n==some .cell)=true then(n,Qs) else(n,k))::l).lookup x=l.lookup x:=fun l=>by
        split<;>simp [Pe,hx]
      simp only [e2] at h
      obtain⟨y,hy,z⟩:=ih h
      exact⟨y,NT _ hy,z⟩
theorem wN{M:Model}{A:Nn}{E:MX→MZ→Prop}{s:MZ}{scope:NC}{globals:MW}{closure:List (Str × MW)}{qual:Str}{func:Option MW}{code:MX}{env:Env}{builtins:MW}{Q:Env→MZ→Prop}
    (hQ:∀h',h'.Ns ↑s (fun _=>none)→(∀b o,s.heap.get? b=some o→h'.get? b=some o)→
      (∀n c,(NK (↑s+1) scope.names []).lookup n=some c→h'.IsCell c none∧↑s+1≤c)→((NK (↑s+1) scope.names []).Pairwise fun x y=>x.2≠y.2)→
      Q (newEnv scope ↑s globals (NK (↑s+1) scope.names closure) qual func code (some env) builtins) {s with heap:=h'}):
    Nf M A (newFunctionEnv scope globals closure [] qual func code (some env) builtins) Q E s:=by
  simp only [newFunctionEnv,Option.isSome_some,if_true]
  refine Nc (wpAny_alloc ?_)
  refine Nc (wpAny_layCells _ (fun name kind cells=>by cases hkc:kind==Qs<;>simp [hkc]) _ _ _ _ ?_)
  have ok:=cellsFrom_ok scope.names (s.heap.push {cls:=.type "dict",data:=.dict #[]}) (↑s+1) [] ⟨fun _ _ hm=>(nomatch hm),List.Pairwise.nil⟩ (by rw [Oo];exact Ny _)
  rw [Oo] at ok
  rw [show({s with heap:=s.heap.push {cls:=.type "dict",data:=.dict #[]}}:MZ).heap.objs.size=↑s+1 from Oo ..]
  refine Nc ?_
  rw [List.forIn_nil]
  refine Nm (Nm ?_)
  exact hQ _ ((Heap.Ns.new s.heap (.type "dict")).keeps (pushCells_keeps _ _)) (fun b o e=>pushCells_keeps _ _ b o (Nz _ e)) (fun n c e=>ok.empty n c (mem_of_lookup e)) ok.apart
def aH(X:Cx)(scope:NC)(cp:List (Nat × Str))(tgN:List Str)(C:MW)(s0:MZ)(H0:Hp)(fp:List MW):Cx where
  prog:=X.prog
  w:=X.w
  K:=X.K
  mg:=X.mg
  base:=X.base
  A:=X.A
  N:=cp.map (·.2)++tgN
  s₀:=s0
  H₀:=H0
  env:=compEnvC scope (NK (C+1) scope.names (ic X.env scope.names [])) C X.env
  outer:=X.stack
  stack:=X.stack
  ex:=fp
  fn:=fun x=>scope.names.lookup x==some .local || scope.names.lookup x==some .cell
  calm:=X.calm
  pn:=[]
  xe:=fun _ _=>False
theorem qd{X:Cx}{scope:NC}{sc0:NC}{N0:List Str}{cp:List (Nat × Str)}{tgN:List Str}{pins:List (MW × Obj)}{σ:L2.St}{H3:Hp}{s₃:MZ}{C:MW}{h₁:Nh}{fp:List MW}(hsc:X.env.scope=sc0)(hN0:X.N=N0)
    (hk:scope.kind=.function)(hown:∀y∈scope.names,y.2=.cell→scope.names.lookup y.1=some .cell)
    (hfr:∀y∈scope.names,y.2=.free→scope.names.lookup y.1=some .free∧sc0.names.lookup y.1=some .cell)
    (hcp:∀p∈cp,N0[p.1]?=some p.2)(hcq:∀p∈cp,sc0.names.lookup p.2=some .cell∧scope.names.lookup p.2=some .free)
    (I3:aI X pins σ H3 s₃)(f3:∀b∈fp,gS X pins H3 b)(hob:∀b∈fp,∃o,s₃.heap.get? b=some o)(hC:↑s₃=C)(hns₁:h₁.Ns C (fun _=>none))(old:∀b o,s₃.heap.get? b=some o→h₁.get? b=some o)
    (hownC:∀n c,(NK (C+1) scope.names []).lookup n=some c→h₁.IsCell c none∧C+1≤c)(apC:(NK (C+1) scope.names []).Pairwise fun x y=>x.2≠y.2):
    (aH X scope cp tgN C s₃ H3 fp).Ok∧aI (aH X scope cp tgN C s₃ H3 fp) [] (gD cp tgN.length σ) H3 {s₃ with heap:=h₁}:=by
  have hkind:∀x,X.env.kindOf x=sc0.names.lookup x:=fun x=>by unfold Env.kindOf;rw [hsc]
  have hfree:∀y∈scope.names,y.2=.free→∃c,X.env.cells.lookup y.1=some c:=fun y hy e=>I3.ok.has y.1 (.inl (by rw [hkind];exact(hfr y hy e).2))
  have nC:∀b o,s₃.heap.get? b=some o→b≠C:=fun b o e=>by rw [←hC];exact NJ (Nu e)
  have hHC:H3 C=none:=I3.hok.fresh (by rw [hC];exact Ny _)
  have clS:∀x c,(ic X.env scope.names []).lookup x=some c→X.env.cells.lookup x=some c:=fun x c e=>nJ _ _ x c hfree (fun _ _ z=>by simp at z) e
  have clH:∀x,(∃y∈scope.names,y.1=x∧y.2=.free)→∃c,(ic X.env scope.names []).lookup x=some c:=fun x e=>tI _ _ x (.inl e)
  have clN:∀x,(¬∃y∈scope.names,y.1=x∧y.2=.free)→(ic X.env scope.names []).lookup x=none:=fun x q=>qc _ _ x q rfl
  have two:∀x c,(NK (C+1) scope.names (ic X.env scope.names [])).lookup x=some c→(NK (C+1) scope.names []).lookup x=some c∨(ic X.env scope.names []).lookup x=some c:=fun x c e=>by
    rw [bS,Rk] at e
    cases q:(NK (C+1) scope.names []).lookup x with
    | some d=>rw [q] at e;exact .inl e
    | none=>rw [q] at e;exact .inr e
  have ltC:∀x c,(ic X.env scope.names []).lookup x=some c→c < C:=fun x c e=>by
    obtain⟨v,o,ho,_⟩:=I3.cell x c (clS x c e)
    rw [←hC];exact Nu ho
  have clF:∀x,(∃y∈scope.names,y.1=x∧y.2=.free)→(NK (C+1) scope.names (ic X.env scope.names [])).lookup x=(ic X.env scope.names []).lookup x:=fun x ⟨y,hy,e1,e2⟩=>by
    rw [bS,Rk]
    cases q:(NK (C+1) scope.names []).lookup x with
    | none=>rfl
    | some d=>
      exfalso
      obtain⟨z,hz,z1,z2⟩:=iI scope.names _ x d q
      have a1:=hown z hz z2
      have a2:=(hfr y hy e2).1
      rw [z1] at a1;rw [e1,a1] at a2;cases a2
  have hasC:∀x,(∃y∈scope.names,y.1=x∧(y.2=.free∨y.2=.cell))→∃c,(NK (C+1) scope.names (ic X.env scope.names [])).lookup x=some c:=fun x ⟨y,hy,e1,e2⟩=>by
    rcases e2 with e2 | e2
    · rw [clF x ⟨y,hy,e1,e2⟩];exact clH x ⟨y,hy,e1,e2⟩
    · rw [bS,Rk]
      obtain⟨c,hc⟩:=gX scope.names (C+1) x ⟨y,hy,e1,e2⟩
      exact⟨c,by rw [hc];rfl⟩
  have ok':(aH X scope cp tgN C s₃ H3 fp).Ok:=by
    refine⟨I3.ok.mod,hk,I3.ok.glob,I3.ok.blt,by rw [←hC];exact Ny _,fun x y c e1 e2=>?_,fun x e=>hasC x (oV e),fun x c e1 e2=>?_,I3.ok.hd,I3.ok.frames,.inl rfl,fun b hb=>?_,fun b o e=>I3.bs b o e,?_,fun b o e hb=>?_,fun b hb z=>?_,I3.stack,fun b hb=>I3.stkFree b hb⟩
    · rcases two x c e1 with e1 | e1<;>rcases two y c e2 with e2 | e2
      · exact name_of_addr apC (mem_of_lookup e1) (mem_of_lookup e2)
      · exact(OW _ (QZ (ltC y c e2) (hownC x c e1).2)).elim
      · exact(OW _ (QZ (ltC x c e1) (hownC y c e2).2)).elim
      · exact I3.ok.inj x y c (clS _ _ e1) (clS _ _ e2)
    · rcases two x c e2 with e2 | e2
      · show ↑s₃≤c
        rw [hC];exact Nat.le_of_succ_le (hownC x c e2).2
      · exfalso
        have e1':scope.names.lookup x=some .local∨scope.names.lookup x=some .cell:=by simpa [aH] using e1
        by_cases q:∃y∈scope.names,y.1=x∧y.2=.free
        · obtain⟨y,hy,y1,y2⟩:=q
          have z:=(hfr y hy y2).1
          rw [y1] at z
          rcases e1' with w | w<;>(rw [z] at w;cases w)
        · rw [clN x q] at e2;cases e2
    · obtain⟨f0,f1,f4,f5,f6,f7⟩:=f3 b hb
      obtain⟨o,ho⟩:=hob b hb
      exact⟨nC b o ho,fun x c e=>(two x c e).elim (fun e z=>absurd (hownC x c e).2 (by rw [z,←hC];exact Nat.not_le.mpr (RI (Nu ho)))) (fun e=>f6 x c (clS x c e))⟩
    · exact NS I3.ok.bsz I3.sz
    · obtain⟨f0,f1,f4,f5,f6,f7⟩:=f3 b hb
      rcases f5 with z | z
      · exact I3.ok.noex b o e z
      · have:=(I3.ok.bs b o e).1
        exact absurd (NV (Nu this) z) (OW _)
    · obtain⟨f0,f1,f4,f5,f6,f7⟩:=f3 b hb
      rcases MU (I3.stkSub b z) with z | z
      · exact f1 z
      · exact f4 z
  have I4:aI (aH X scope cp tgN C s₃ H3 fp) [] (gD cp tgN.length σ) H3 {s₃ with heap:=h₁}:=by
    refine⟨ok',rfl,I3.bare,Un.kept old,⟨_,hns₁,fun i x v e1 e2 e3=>?_⟩,fun x c e=>?_,hHC,fun x c e=>(two x c e).elim (fun e=>I3.hok.fresh (by rw [hC];exact Nat.le_of_succ_le (hownC x c e).2)) (fun e=>I3.freeC x c (clS x c e)),fun p hp=>by simp [aH] at hp,I3.hok.kept old,by simp [gD,aH]⟩
    · have hlt:i < cp.length:=by
        by_cases q:i < cp.length
        · exact q
        · exfalso
          unfold gD at e2
          rw [List.getElem?_append_right ↥7] at e2
          rw [RU] at e2
          split at e2<;>cases e2
      have e1':(cp.map (·.2))[i]?=some x:=by
        have e1'':(cp.map (·.2)++tgN)[i]?=some x:=e1
        rwa [Pz (by simp;exact hlt)] at e1''
      have e2':(cp.map (fun p=>(σ[p.1]?).join))[i]?=some (some v):=by
        unfold gD at e2
        rwa [Pz (by simp;exact hlt)] at e2
      rw [NH,NL hlt] at e1' e2'
      have ex:(cp[i]).2=x:=by simpa using e1'
      have ev:(σ[(cp[i]).1]?).join=some v:=by simpa using e2'
      have ev':σ[(cp[i]).1]?=some (some v):=by
        cases q:σ[(cp[i]).1]? with
        | none=>rw [q] at ev;cases ev
        | some z=>rw [q] at ev;simp only [Option.join_some] at ev;rw [ev]
      have hN:=hcp cp[i] (Rh hlt)
      rw [←hN0] at hN
      obtain⟨hcl,hcf⟩:=hcq cp[i] (Rh hlt)
      rw [ex] at hN hcl hcf
      obtain⟨m,hn,hl⟩:=I3.loc
      obtain⟨u,r,l⟩:=hl _ x v hN ev' (.inr (.inl (by rw [hsc];exact hcl)))
      refine⟨u,r,.inr ?_⟩
      rcases l with ⟨k1,_⟩ | ⟨k1,c,hcc,o,ho,hd⟩
      · rw [hkind,hcl] at k1;cases k1
      · have e3':(relabel scope X.env).names.lookup x=some .local∨(relabel scope X.env).names.lookup x=some .cell∨(relabel scope X.env).names.lookup x=some .free:=e3
        have nl:(relabel scope X.env).names.lookup x=some .cell∨(relabel scope X.env).names.lookup x=some .free:=by
          rcases e3' with z | z | z
          · exact absurd z (iZ hcf)
          · exact .inl z
          · exact .inr z
        have fr:∃y∈scope.names,y.1=x∧y.2=.free:=⟨(x,.free),mem_of_lookup hcf,rfl,rfl⟩
        obtain⟨c',hc'⟩:=clH x fr
        have:=clS x c' hc'
        rw [hcc] at this;cases this
        exact⟨nl,c,(clF x fr).trans hc',o,old c o ho,hd⟩
    · rcases two x c e with e | e
      · exact⟨none,(hownC x c e).1⟩
      · obtain⟨v,o,ho,hd⟩:=I3.cell x c (clS x c e)
        exact⟨v,o,old c o ho,hd⟩
  exact⟨ok',I4⟩
theorem qe{X:Cx}{scope:NC}{cp:List (Nat × Str)}{tgN:List Str}{pins:List (MW × Obj)}{σ σ5:L2.St}{H3 H5:Hp}{s₃ s6:MZ}{C:MW}{fp:List MW}(I3:aI X pins σ H3 s₃)(f3:∀b∈fp,gS X pins H3 b)(nC:∀b o,s₃.heap.get? b=some o→b≠C)
    (I6:aI (aH X scope cp tgN C s₃ H3 fp) [] σ5 H5 s6)(h':Nh)(sb:PM C s6.heap h'):aI X pins σ H5 {s6 with heap:=h'}:=by
  have ub:=I6.base
  have kp:∀b u,b≠C→s6.heap.get? b=some u→h'.get? b=some u:=fun b u ne e=>sb.extBut b u ne e
  have nit:∀b u,H5 b=some u→b≠C:=fun b u e z=>by
    have:=I6.free
    rw [z] at e
    rw [show H5 C=none from this] at e;cases e
  refine I3.call' (s':={s6 with heap:=h'}) (ch:=fp) I6.os ⟨fun b o e n hb hx=>kp b o (nC b o e) (ub.keep b o e n hb hx),fun b o e n hb hx=>?_,ub.free,fun b o e hx=>?_,ub.tups,ub.frzs,ub.tbls⟩ (fun b u e=>?_) I6.bare (fun b hb=>?_)
  · obtain⟨sl,q⟩:=ub.slot b o e n hb hx
    exact⟨sl,kp b _ (nC b o e) q⟩
  · obtain⟨o',q⟩:=ub.there b o e hx
    exact⟨o',kp b _ (nC b o e) q⟩
  · refine(I6.hok b u e).stay (fun c v hc q=>kp c v ?_ q) (fun _ q=>q) fun _ _ q=>q
    rcases hc with z | z
    · rw [z];exact nit b u e
    · exact nit c _ z
  · obtain⟨f0,f1,f4,f5,f6,f7⟩:=f3 b hb
    exact⟨f5,f1,f6,f7⟩
theorem tJ{X:Cx}{use:Option (MX→Sem Unit)}{RR:MX→MZ→Prop}{pins:List (MW × Obj)}{s:MZ}{σ:L2.St}{H:Hp}{Q:VK}{elt iter tg:Na}{ifs:List Na}{scope:NC}{pos:Pos}{wi:TI}{g:TG}{tc:TT}{te:TE}(sc0:NC)(N0:List Str)(cp:List (Nat × Str))(tgN:List Str)
    (hc:X.calm=true)(hsc:X.env.scope=sc0)(hN0:X.N=N0)(hi:PI X tg iter wi)
    (hg:∀C s0 H0 fp,PG (aH X scope cp tgN C s0 H0 fp) tg g)
    (ht:∀C s0 H0 fp,yJ (aH X scope cp tgN C s0 H0 fp) ifs tc)
    (he:∀C s0 H0 fp,PE (aH X scope cp tgN C s0 H0 fp) elt te)
    (hk:scope.kind=.function)(hown:∀y∈scope.names,y.2=.cell→scope.names.lookup y.1=some .cell)(hnames:∀y∈scope.names,y.2=.local→scope.names.lookup y.1=some .local)
    (hfr:∀y∈scope.names,y.2=.free→scope.names.lookup y.1=some .free∧sc0.names.lookup y.1=some .cell)
    (hcp:∀p∈cp,N0[p.1]?=some p.2)(hcq:∀p∈cp,sc0.names.lookup p.2=some .cell∧scope.names.lookup p.2=some .free)
    (hs:∀x,Py iter X.env x=pure x)(I:aI X pins σ H s)(h:xn cp tgN.length wi g tc te σ H Q)
    (fin:∀(C D:MW) (H5:Hp) (s6:MZ),(∃m,s6.heap.Ns C m)→Q (.ref D) H5→gS X pins H5 C→(∀h',PM C s6.heap h'→aI X pins σ H5 {s6 with heap:=h'})→compPost (Ni X.prog X.w) X.A X.xe use RR (.ref D) C (.ok .next) s6):
    Nf (Ni X.prog X.w) X.A (comprehension (.ListComp elt [⟨tg,iter,ifs,0⟩] scope pos) scope X.env (firstIterPos [⟨tg,iter,ifs,0⟩] pos) (newList []) (firstAsync [⟨tg,iter,ifs,0⟩]) (firstIter [⟨tg,iter,ifs,0⟩] X.env) use) RR X.xe s:=by
  have hkind:∀x,X.env.kindOf x=sc0.names.lookup x:=fun x=>by unfold Env.kindOf;rw [hsc]
  have hfree:∀y∈scope.names,y.2=.free→∃c,X.env.cells.lookup y.1=some c:=fun y hy e=>I.ok.has y.1 (.inl (by rw [hkind];exact(hfr y hy e).2))
  refine wpAny_comprehension_free (use:=use) rfl hs (nK hfree) hk hnames (NW (hi pins s σ H _ I h.go) (fun xv s₁ h₁=>NW h₁ (fun itv s₂ h₂=>?_) fun _ _ e=>e) fun _ _ e=>e)
  obtain⟨it,fp,tn,J,H2,rfl,I2,T,st2,f2,hq⟩:=h₂
  refine Ow ?_
  have hlF:H2 ↑s₂=none:=I2.hok.fresh ↥8
  have I3:aI X pins σ (bC H2 ↑s₂ (.lst [])) {s₂ with heap:=s₂.heap.push {cls:=.type "list",data:=.seq ([]:List MX).toArray}}:=I2.lnew (t':=s₂.toks) .nil (Qr _)
  obtain⟨W,⟨m0,w0⟩,turn⟩:=hq _ hlF
  have f3:∀b∈fp,gS X pins (bC H2 ↑s₂ (.lst [])) b:=fun b hb=>by
    obtain⟨f0,fr⟩:=f2 b hb
    obtain⟨o,ho,_⟩:=T.obj _ _ st2 b hb
    exact⟨by rw [aA (NJ (Nu ho))];exact f0,fr⟩
  have st3:tn 0 (s₂.heap.push {cls:=.type "list",data:=.seq ([]:List MX).toArray}):=T.keep _ _ _ st2 fun b _ o e=>Nz _ e
  generalize hD:↑s₂=D at*
  generalize hs3:({s₂ with heap:=s₂.heap.push {cls:=.type "list",data:=.seq ([]:List MX).toArray}}:MZ)=s₃ at*
  have hst3:tn 0 s₃.heap:=by rw [←hs3];exact st3
  refine wN (fun h₁ hns₁ old hownC apC=>?_)
  generalize hC:↑s₃=C at*
  have nC:∀b o,s₃.heap.get? b=some o→b≠C:=fun b o e=>by rw [←hC];exact NJ (Nu e)
  obtain⟨ok',I4⟩:=qd (cp:=cp) (tgN:=tgN) hsc hN0 hk hown hfr hcp hcq I3 f3 (fun b hb=>let ⟨o,e,_⟩:=T.obj _ _ hst3 b hb;⟨o,e⟩) hC hns₁ old hownC apC
  have hst4:tn 0 h₁:=T.keep _ _ _ hst3 fun b _ o e=>old b o e
  have loop:codeAny (Ni X.prog X.w) X.A (.compLoop (.ListComp elt [⟨tg,iter,ifs,0⟩] scope pos) 0 (.ref it) (.ref D) (compEnvC scope (NK (C+1) scope.names (ic X.env scope.names [])) C X.env))
      (compPost (Ni X.prog X.w) X.A X.xe use RR (.ref D) C) {s₃ with heap:=h₁}:=by
    refine q5 (fun n s'=>∃i σ' H',aI (aH X scope cp tgN C s₃ (bC H2 D (.lst [])) fp) [] σ' H' s'∧tn i s'.heap∧(∀b∈fp,H' b=none)∧W i n σ' H') ?_ (n0:=m0) ⟨0,_,_,I4,hst4,fun b hb=>(f3 b hb).1,w0⟩
    rintro n s5 ⟨i,σ5,H5,I5,st5,fr5,w5⟩
    have stat:∀{H':Hp},(∀b∈fp,H' b=none)→∀b∈fp,gS (aH X scope cp tgN C s₃ (bC H2 D (.lst [])) fp) [] H' b:=fun hn b hb=>
      ⟨hn b hb,(ok'.exf b hb).1,ok'.exfs b hb,.inl hb,(ok'.exf b hb).2,fun p hp=>by simp [aH] at hp⟩
    rcases turn i n σ5 H5 w5 with ⟨stop,qn⟩ | ⟨go,N,hN,step⟩
    · refine cM (T.done (aH X scope cp tgN C s₃ (bC H2 D (.lst [])) fp) rfl rfl rfl hc i [] s5 σ5 H5 (fun _ _=>False) I5 (stat fr5) st5 stop) fun r s6 ⟨hr,I6⟩=>?_
      subst hr
      refine⟨fun _=>?_,fun v z=>by cases z⟩
      obtain⟨m,hn,_⟩:=I6.loc
      exact fin C D H5 s6 ⟨m,hn⟩ qn (I3.fpOk (by rw [hC];exact Ny _) I6.free) (qe I3 f3 nC I6)
    · refine cM (T.item (aH X scope cp tgN C s₃ (bC H2 D (.lst [])) fp) rfl rfl rfl hc i [] s5 σ5 H5 (fun _ _=>False) I5 (stat fr5) st5 go) fun r s6 ⟨u,hr,h6⟩=>?_
      subst hr
      refine⟨fun z=>(by cases z),fun v z=>?_⟩
      cases z
      refine cM h6 fun _ s7 ⟨x,H7,I7,r7,y7,st7,fr7⟩=>?_
      have I7':=I7.pinned (stat fr7) (T.obj _ _ st7)
      have again:∀{σ8:L2.St} {H8:Hp} {s8:MZ},aI (aH X scope cp tgN C s₃ (bC H2 D (.lst [])) fp) ([]++l5 fp s7.heap) σ8 H8 s8→N σ8 H8→∃m,m < n∧∃i σ' H',aI (aH X scope cp tgN C s₃ (bC H2 D (.lst [])) fp) [] σ' H' s8∧tn i s8.heap∧(∀b∈fp,H' b=none)∧W i m σ' H':=fun{σ8 H8 s8} I8 n8=>by
        obtain⟨m',hm,w8⟩:=hN σ8 H8 n8
        refine⟨m',hm,i+1,σ8,H8,I8.unpinned,T.keep _ _ _ st7 fun b hb o e=>(I8.pin (b,o) (OD _ (OD _ (eN hb e)))).1,fun b hb=>?_,w8⟩
        obtain⟨o,e,d⟩:=T.obj _ _ st7 b hb
        exact(I8.pin (b,o) (OD _ (OD _ (eN hb e)))).2.1
      refine cM (hg C s₃ (bC H2 D (.lst [])) fp _ s7 σ5 H7 x u _ I7' r7 (step x H7 y7)) fun _ s8 ⟨σ8,H8,I8,q8⟩=>?_
      refine cM (ht C s₃ (bC H2 D (.lst [])) fp _ s8 σ8 H8 _ I8 q8) fun ok s9 ⟨H9,I9,q9⟩=>?_
      cases ok with
      | false=>
        rw [if_neg Pn] at q9 ⊢
        exact again I9 q9
      | true=>
        rw [if_pos rfl] at q9 ⊢
        refine cM (he C s₃ (bC H2 D (.lst [])) fp _ s9 σ8 H9 _ I9 q9) fun v s10 ⟨xv,H10,I10,r10,ys,hl,hz,n10⟩=>?_
        refine cM (lZ _ s10 σ8 H10 (.ref D) [xv] (.ref D) [v] (fun _ H=>N σ8 H) I10 rfl (.cons r10 .nil) ⟨D,ys,xv,rfl,rfl,hl,hz,n10⟩) fun _ s11 ⟨_,H11,I11,_,q11⟩=>?_
        exact again I11 q11
  exact codeAny_compStart_list loop (T.self X.A 0 _ _ _ hst4 loop)
theorem Ax{X:Cx}{elt iter tg:Na}{ifs:List Na}{scope:NC}{pos:Pos}{wi:TI}{g:TG}{tc:TT}{te:TE}(sc0:NC)(N0:List Str)(cp:List (Nat × Str))(tgN:List Str)
    (hc:X.calm=true)(hsc:X.env.scope=sc0)(hN0:X.N=N0)(hi:PI X tg iter wi)
    (hg:∀C s0 H0 fp,PG (aH X scope cp tgN C s0 H0 fp) tg g)
    (ht:∀C s0 H0 fp,yJ (aH X scope cp tgN C s0 H0 fp) ifs tc)
    (he:∀C s0 H0 fp,PE (aH X scope cp tgN C s0 H0 fp) elt te)
    (hk:scope.kind=.function)(hown:∀y∈scope.names,y.2=.cell→scope.names.lookup y.1=some .cell)(hnames:∀y∈scope.names,y.2=.local→scope.names.lookup y.1=some .local)
    (hfr:∀y∈scope.names,y.2=.free→scope.names.lookup y.1=some .free∧sc0.names.lookup y.1=some .cell)
    (hcp:∀p∈cp,N0[p.1]?=some p.2)(hcq:∀p∈cp,sc0.names.lookup p.2=some .cell∧scope.names.lookup p.2=some .free)
    (hs:∀x,Py iter X.env x=pure x:=by intro _;rfl):
    PE X (.ListComp elt [⟨tg,iter,ifs,0⟩] scope pos) (xn cp tgN.length wi g tc te):=by
  intro pins s σ H Q I h
  rw [eval_ListComp]
  exact tJ sc0 N0 cp tgN hc hsc hN0 hi hg ht he hk hown hnames hfr hcp hcq hs I h fun C D H5 s6 ⟨m,hn⟩ q _ key=>⟨m,hn,fun h' sb=>⟨.ref D,H5,key h' sb,rfl,q⟩⟩
def y9(sc0 scope:NC)(N0:List Str)(cp:List (Nat × Str))(W:List Nat):Bool:=
  (scope.names.all fun y=>(!(y.2==.local) || scope.names.lookup y.1==some .local)&&(!(y.2==.cell) || scope.names.lookup y.1==some .cell)&&(!(y.2==.free) || (scope.names.lookup y.1==some .free&&sc0.names.lookup y.1==some .cell)))&&
  (cp.all fun p=>N0[p.1]?==some p.2&&sc0.names.lookup p.2==some .cell&&scope.names.lookup p.2==some .free)&&decide ((cp.map (·.1)).Nodup)&&W.all fun j=>decide (cp.length≤j)
theorem qZ{sc0 scope:NC}{N0:List Str}{cp:List (Nat × Str)}{W:List Nat}(hch:y9 sc0 scope N0 cp W=true):
    (∀y∈scope.names,y.2=.cell→scope.names.lookup y.1=some .cell)∧(∀y∈scope.names,y.2=.local→scope.names.lookup y.1=some .local)∧
    (∀y∈scope.names,y.2=.free→scope.names.lookup y.1=some .free∧sc0.names.lookup y.1=some .cell)∧(∀p∈cp,N0[p.1]?=some p.2)∧(∀p∈cp,sc0.names.lookup p.2=some .cell∧scope.names.lookup p.2=some .free)∧
    (cp.map (·.1)).Nodup∧∀j∈W,cp.length≤j:=by
  simp only [y9,NP,OQ,decide_eq_true_eq] at hch
  obtain⟨⟨⟨h1,h2⟩,h3⟩,h4⟩:=hch
  refine⟨fun y hy e=>?_,fun y hy e=>?_,fun y hy e=>?_,fun p hp=>?_,fun p hp=>?_,h3,h4⟩
  · have:=(h1 y hy).1.2;rw [e] at this;simpa using this
  · have:=(h1 y hy).1.1;rw [e] at this;simpa using this
  · have:=(h1 y hy).2;rw [e] at this;simpa using this
  · have:=(h2 p hp).1.1;simpa using this
  · have a:=(h2 p hp).1.2;have c:=(h2 p hp).2;exact⟨by simpa using a,by simpa using c⟩
theorem e6{X:Cx}{K:⇑0}{pos:Pos}{elt iter tg:Na}{ifs:List Na}{scope:NC}{fi:FI}{g:FG}{ft:FT}{fe:FE}{W:List Nat}(cp:List (Nat × Str))(tgN:List Str)
    (hKx:X.K=K)(hc:X.calm=true)(hi:PI X tg iter (fI K fi))
    (hg:∀C s0 H0 fp,PG (aH X scope cp tgN C s0 H0 fp) tg (fG K g W))
    (ht:∀C s0 H0 fp,yJ (aH X scope cp tgN C s0 H0 fp) ifs (fT K ft))
    (he:∀C s0 H0 fp,PE (aH X scope cp tgN C s0 H0 fp) elt (fE K fe))
    (hk:scope.kind=.function)(hch:y9 X.env.scope scope X.N cp W=true)
    (hs:∀x,Py iter X.env x=pure x):
    PE X (.ListComp elt [⟨tg,iter,ifs,0⟩] scope pos) (fE K (bb cp tgN.length fi g ft fe)):=by
  subst hKx
  obtain⟨h0,h1,h2,h3,h4,h5,h6⟩:=qZ hch
  exact(Ax X.env.scope X.N cp tgN hc rfl rfl hi hg ht he hk h0 h1 h2 h3 h4 hs).mono fun _ _ _ h=>uI h5 h6 h
open PySem PySem.Spec PyProof.Rows PySem.W
structure IT (lt:Nat→Nat→Bool):Prop where
  irr:∀i,lt i i=false
  tr:∀{i j k},lt i j=false→lt j k=false→lt i k=false
  asy:∀{i j},lt i j=true→lt j i=false
structure Kt (n:Nat) (p:Array Nat):Prop where
  sz:p.size=n
  pm:p.Perm (List.toArray (Nb n))
section
variable{lt:Nat→Nat→Bool}{n:Nat}(O:IT lt)
include O
end
open PySem PySem.Spec PyProof.Rows PySem.W
section
variable{prog:Nk}{w:Ng}{A:Nn}{E:MX→MZ→Prop}{s:MZ}
end
open PySem PySem.Spec PyProof.Rows PySem.W
section
variable{X:Cx}{K:⇑0}
def GJ(K:⇑0)(H:Hp)(us:List V)(rs:List (List Int)):Prop:=us.length=rs.length∧∀(i:Nat) (r:List Int),rs[i]?=some r→∃p,us[i]?=some (.ref p)∧dz K H p (r.map V.int)
def xF(h:Nh)(v:MX)(r:List Int):Prop:=∃(a:MW) (o:Obj) (xs:List MX) (n:Nat),v=.ref a∧h.get? a=some o∧o.cls=.type "tuple"∧o.data=.seq xs.toArray n∧OM xs r
theorem xF.kept{h h':Nh}{v:MX}{r:List Int}(x:xF h v r)(k:∀b o,h.get? b=some o→h'.get? b=some o):xF h' v r:=
  let ⟨a,o,xs,n,e1,e2,e3⟩:=x;⟨a,o,xs,n,e1,k _ _ e2,e3⟩
def jp(r:List Int):MY:=.tuple (r.map .int)
def uj:MY→Option (List Int)
  | .tuple ds=>(qi ds).bind fun ns=>if ns.isEmpty then none else some ns
  | _=>none
def l9:List MY→Option (List (List Int))
  | []=>some []
  | d::ds=>(uj d).bind fun r=>(l9 ds).map fun rs=>r::rs
theorem Bb{d:MY}{r:List Int}(h:uj d=some r):d=jp r∧r≠[]:=by
  unfold uj at h
  split at h
  · obtain⟨ns,h1,h2⟩:=MP h
    split at h2
    · cases h2
    · rename_i c
      cases h2
      exact⟨by rw [tS h1];rfl,fun z=>c (by rw [z];rfl)⟩
  · cases h
theorem qt:∀{ds:List MY} {rs:List (List Int)},l9 ds=some rs→ds=rs.map jp∧∀r∈rs,r≠[]
  | [],rs,h=>by cases h;exact⟨rfl,fun r hr=>by cases hr⟩
  | d::ds,rs,h=>by
    unfold l9 at h
    obtain⟨r,h1,h2⟩:=MP h
    obtain⟨rs',h3,rfl⟩:=MQ h2
    obtain⟨e1,e2⟩:=Bb h1
    obtain⟨e3,e4⟩:=qt h3
    subst e1 e3
    exact⟨rfl,fun r' hr=>(MU hr).elim (fun z=>z ▸ e2) (e4 r')⟩
theorem oY:∀{rs:List (List Int)},(∀r∈rs,r≠[])→l9 (rs.map jp)=some rs
  | [],_=>rfl
  | r::rs,h=>by
    have ih:=oY fun r' hr=>h r' (NT r hr)
    have ne:=h r ↥1
    have e:uj (jp r)=some r:=by
      show((qi (r.map .int)).bind fun ns=>if ns.isEmpty then none else some ns)=some r
      rw [qj]
      cases r with
      | nil=>exact absurd rfl ne
      | cons a t=>rfl
    show((uj (jp r)).bind fun r'=>(l9 (rs.map jp)).map fun rs'=>r'::rs')=_
    rw [e,ih];rfl
end
section
variable{X:Cx}{K:⇑0}
variable{o a:Na}{es:List Na}{fo:FE}{fs:FA}{apos cpos:Pos}
end
theorem ue{X:Cx}{ix:Nat}{nm:Str}{posn poss:Pos}{elt iter tg:Na}{ifs:List Na}{scope:NC}{pos:Pos}{wi:TI}{g:TG}{tc:TT}{te:TE}(sc0:NC)(N0:List Str)(cp:List (Nat × Str))(tgN:List Str)
    (hc:X.calm=true)(hsc:X.env.scope=sc0)(hN0:X.N=N0)(hi:PI X tg iter wi)
    (hg:∀C s0 H0 fp,PG (aH X scope cp tgN C s0 H0 fp) tg g)
    (ht:∀C s0 H0 fp,yJ (aH X scope cp tgN C s0 H0 fp) ifs tc)
    (he:∀C s0 H0 fp,PE (aH X scope cp tgN C s0 H0 fp) elt te)
    (hk:scope.kind=.function)(hown:∀y∈scope.names,y.2=.cell→scope.names.lookup y.1=some .cell)(hnames:∀y∈scope.names,y.2=.local→scope.names.lookup y.1=some .local)
    (hfr:∀y∈scope.names,y.2=.free→scope.names.lookup y.1=some .free∧sc0.names.lookup y.1=some .cell)
    (hcp:∀p∈cp,N0[p.1]?=some p.2)(hcq:∀p∈cp,sc0.names.lookup p.2=some .cell∧scope.names.lookup p.2=some .free)
    (hNd:X.N.Nodup)(hix:X.N[ix]?=some nm)(hlc:X.env.scope.names.lookup nm=some .local)(hsw:PN (.ListComp elt [⟨tg,iter,ifs,0⟩] scope pos) (some (.Name nm posn)) poss.line X.env=pure true)
    (hs:∀x,Py iter X.env x=pure x:=by intro _;rfl):
    PS X (.Assign [.Name nm posn] (.ListComp elt [⟨tg,iter,ifs,0⟩] scope pos) poss) (Ga (xn cp tgN.length wi g tc te) (zJ ix)):=by
  intro pins s σ H D0 I h
  rw [exec_Assign_Name_used _ _ _ _ hsw]
  refine Nc (QC (Nc ?_))
  unfold evalThenUse
  exact Nc (tJ sc0 N0 cp tgN hc hsc hN0 hi hg ht he hk hown hnames hfr hcp hcq hs I h (y_ hNd hix hlc))
theorem eS{X:Cx}{K:⇑0}{pos:Pos}{ix:Nat}{nm:Str}{posn poss:Pos}{elt iter tg:Na}{ifs:List Na}{scope:NC}{fi:FI}{g:FG}{ft:FT}{fe:FE}{W:List Nat}(cp:List (Nat × Str))(tgN:List Str)
    (hKx:X.K=K)(hc:X.calm=true)(hi:PI X tg iter (fI K fi))
    (hg:∀C s0 H0 fp,PG (aH X scope cp tgN C s0 H0 fp) tg (fG K g W))
    (ht:∀C s0 H0 fp,yJ (aH X scope cp tgN C s0 H0 fp) ifs (fT K ft))
    (he:∀C s0 H0 fp,PE (aH X scope cp tgN C s0 H0 fp) elt (fE K fe))
    (hk:scope.kind=.function)(hch:y9 X.env.scope scope X.N cp W=true)
    (hNd:X.N.Nodup)(hix:X.N[ix]?=some nm)(hlc:X.env.scope.names.lookup nm=some .local)(hsw:PN (.ListComp elt [⟨tg,iter,ifs,0⟩] scope pos) (some (.Name nm posn)) poss.line X.env=pure true)
    (hs:∀x,Py iter X.env x=pure x):
    PS X (.Assign [.Name nm posn] (.ListComp elt [⟨tg,iter,ifs,0⟩] scope pos) poss) (fS K (aF ix (bb cp tgN.length fi g ft fe)) [ix]):=by
  subst hKx
  obtain⟨h0,h1,h2,h3,h4,h5,h6⟩:=qZ hch
  exact(ue X.env.scope X.N cp tgN hc rfl rfl hi hg ht he hk h0 h1 h2 h3 h4 hNd hix hlc hsw hs).mono fun D σ H h=>by
    obtain⟨F,e,fl,R,hf,q⟩:=h
    unfold aF at hf
    obtain⟨⟨r,e1⟩,hh1,hf⟩:=MP hf
    obtain⟨e2,hh2,hf⟩:=MQ hf
    cases hf
    refine uI h5 h6 ⟨F,e,r,e1,R,hh1,fun F1 H1 v X1 R1 A1=>?_⟩
    obtain⟨x,R2⟩:=AV R X1 R1 A1 hh2
    exact q F1 H1 _ x R2
section
variable{X:Cx}{K:⇑0}{σ σ2:L2.St}{H0 F H F2 H2 F3:Hp}{e e2:En}
end
section
variable{X:Cx}{K:⇑0}{a b:Na}{fa fb:FE}{pos p p1 p2 p3 pos':Pos}{x:Str}{i:Nat}
end
section
variable{X:Cx}{K:⇑0}
end
section
variable{prog:Nk}{w:Ng}{A:Nn}{R:Result→MZ→Prop}
def BU(prog:Nk)(w:Ng)(A:Nn)(kx vx tg:Na)(ifs:List Na)(env:Env)(it:MX)(D:MW)(onward:MZ→Prop)(v:MX)(u:MZ):Prop:=
  Nf (Ni prog w) A (QD tg it v) (fun _ u1=>Nf (Ni prog w) A (Od tg env v) (fun _ u2=>Nf (Ni prog w) A
    (forIn ifs true fun c r=>if r=true then do let ok ←isTrue c env (Nj c env);pure (Qb ok) else pure (Qb r)) (fun ok u3=>if ok=true then Nf (Ni prog w) A (Nj kx env) (fun x u4=>Nf (Ni prog w) A (Nj vx env) (fun y u5=>Nf (Ni prog w) A (dictSet D x y) (fun _ u6=>onward u6) yc u5) yc u4) yc u3 else onward u3) yc u2) yc u1) yc u
end
def Dg(l:MW)(wi:TI)(g:TG)(tc:TT)(tk tv:TE)(σ:L2.St)(H:Hp)(N:L2.St→Hp→Prop):Prop:=
  wi σ H fun J H1=>∃W:Nat→Nat→L2.St→Hp→Prop,(∃m,W 0 m σ H1)∧∀i m σ' H',W i m σ' H'→
    (J.stop i H'∧N σ' H')∨(J.go i H'∧∃N2:L2.St→Hp→Prop,(∀σ2 H2,N2 σ2 H2→∃m',m' < m∧W (i+1) m' σ2 H2)∧
      ∀x H2,J.yld i H' x H2→g x σ' H2 fun σ2 H3=>tc σ2 H3 fun b H4=>if b=true then tk σ2 H4 fun y H5=>tv σ2 H5 fun v H6=>∃(kk:fx) (kvs:List (fx × V)),y=kV kk∧H6 l=some (.dK kvs)∧kvs.length < Nr∧N2 σ2 (bC H6 l (.dK (sy kvs kk v))) else N2 σ2 H4)
structure IG (cp:List (Nat × Str)) (nT:Nat) (wi:TI) (g:TG) (tc:TT) (wi2:TI) (g2:TG) (tc2:TT) (tk tv:TE) (σ:L2.St) (H:Hp) (Q:VK):Prop where
  go:wi σ H fun J H1=>∀l,H1 l=none→
  ∃W:Nat→Nat→L2.St→Hp→Prop,(∃m,W 0 m (gD cp nT σ) (bC H1 l (.dK [])))∧∀i m σ' H',W i m σ' H'→
    (J.stop i H'∧Q (.ref l) H')∨(J.go i H'∧∃N:L2.St→Hp→Prop,(∀σ2 H2,N σ2 H2→∃m',m' < m∧W (i+1) m' σ2 H2)∧
      ∀x H2,J.yld i H' x H2→g x σ' H2 fun σ2 H3=>tc σ2 H3 fun b H4=>if b=true then Dg l wi2 g2 tc2 tk tv σ2 H4 N else N σ2 H4)
def aK(p:Int × lD):fx × V:=(Sum.inl p.1,p.2.toV)
def aD(p:Int × lD):MY × MY:=(.int p.1,p.2.toD)
section
variable{K:⇑0}{F H F' H':Hp}{σ σ':L2.St}{e e':En}{nT:Nat}
theorem bc.putO(R:bc K F H σ e){l:MW}{o:HO}(h1:F l=none)(h2:¬cN σ e H l):bc K F (bC H l o) σ e∧∀a,cN σ e (bC H l o) a↔ cN σ e H a:=
  R.keep (aG.refl F) (fun b o q=>by
    have z:b≠l:=fun z=>by rw [z,h1] at q;cases q
    rw [aA z];exact R.sm b o q) (fun a ⟨i,h⟩=>(R.fpAt h).1) fun a o ha q=>by
    have z:a≠l:=fun z=>h2 (z ▸ ha)
    rw [aA z];exact q
theorem AU{acc:List (Int × lD)}{k:Int}{a:lD}(h:(acc.any fun p=>p.1==k)=false):sy (acc.map aK) (Sum.inl k) a.toV=(acc++[(k,a)]).map aK:=by
  have e:((acc.map aK).any fun kv=>decide (kv.1=(Sum.inl k:fx)))=false:=by
    rw [List.any_map,Rg]
    intro p hp
    have:=Rg.mp h p hp
    simp only [beq_iff_eq] at this
    simp only [Function.comp,aK,decide_eq_true_eq]
    exact fun z=>this (by simpa using z)
  unfold sy
  rw [e,if_neg ↥1,Oi]
  rfl
inductive CD (K:⇑0) (W:List Nat) (σ0:L2.St) (F1 H1:Hp) (e0:En) (l:MW) (P:Hp→En→List (Int × lD)→Prop) (σ':L2.St) (H':Hp):Prop
  | mk {F':Hp} {ei:En} {acc:List (Int × lD)} (R:bc K F' H' σ' ei) (X:dH W σ0 F1 H1 e0 σ' F' H' ei) (fl:F' l=none) (hl:H' l=some (.dK (acc.map aK))) (pl:∀p∈acc,∀F,p.2.ok K F) (hc:P F' ei acc):CD K W σ0 F1 H1 e0 l P σ' H'
end
section
variable{X:Cx}{K:⇑0}{pos:Pos}
theorem tK(k:Int):∀(m:List (Int × lD)),(m.map fun p=>(PyData.int p.1,p.2.toD)).find? (fun p=>match p.1 with | .int i=>i==k | _=>false)=(m.find? fun p=>p.1==k).map fun p=>(PyData.int p.1,p.2.toD)
  | []=>rfl
  | p::r=>by
    rw [Nx,OR,OR]
    dsimp only
    cases c:p.1==k with
    | true=>rfl
    | false=>exact tK k r
theorem tL(k:Int):∀(m:List (Int × lD)),mY (m.map fun p=>((Sum.inl p.1:fx),p.2.toV)) (Sum.inl k)=(m.find? fun p=>p.1==k).map fun p=>p.2.toV
  | []=>rfl
  | p::r=>by
    rw [Nx,OR]
    cases c:p.1==k with
    | true=>
      rw [pI (by rw [beq_iff_eq] at c;rw [c])]
      rfl
    | false=>
      rw [pH (fun z=>by rw [beq_eq_false_iff_ne] at c;exact c (Sum.inl.inj z))]
      exact tL k r
theorem Es{F:Hp}{a:lD}(h:a.ok K F):DA K F a.toD a.toV:=by
  cases a with
  | vp a p q=>exact cq.mpr ⟨a,_,rfl,h,aT.ints (ns:=[p,q]).mpr rfl⟩
  | _=>simp [lD.toD,lD.toV,DA]
end
section
variable{K:⇑0}{F H F' H' F1 H1 F2 H2:Hp}{σ σ' σ1 σ2:L2.St}{e e' e1 e2:En}{i:Nat}{W W1 W2:List Nat}
theorem Fp.drop{j:Nat}{a:MW}(h:Fp σ (e.set i none) H j a):Fp σ e H j a:=by
  by_cases z:j=i
  · subst z
    rcases h with ⟨xs,h,_⟩ | ⟨xss,_,_,h,_⟩
    · rw [Pv] at h
      split at h
      · split at h<;>cases h
      · rename_i n;exact absurd rfl n
    · rw [Pv] at h
      split at h
      · split at h<;>cases h
      · rename_i n;exact absurd rfl n
  · unfold Fp at h ⊢
    rw [NG (NF z)] at h
    exact h
theorem ol{j:Nat}{s:Sv}(h:(e.set i none)[j]?=some (some s)):e[j]?=some (some s):=by
  by_cases z:i=j
  · subst z
    rw [Pv] at h
    rw [if_pos rfl] at h
    split at h<;>cases h
  · rwa [NG z] at h
theorem cN.drop{a:MW}(h:cN σ (e.set i none) H a):cN σ e H a:=let ⟨j,q⟩:=h;⟨j,q.drop⟩
theorem bc.drop(R:bc K F H σ e)(i:Nat):bc K F H σ (e.set i none):=⟨R.sm,by rw [Pa];exact R.len,fun j x h=>R.dat j x (ol h),fun j xs h=>R.own j xs (ol h),fun j xss h=>R.nst j xss (ol h),fun j k a h1 h2=>R.fp j k a h1.drop h2.drop⟩
structure IU (K:⇑0) (i:Nat) (F H:Hp) (σ:L2.St) (e:En):Prop where
  rel:bc K F H σ (e.set i none)
  dct:∃(l:MW) (m:List (Int × lD)),e[i]?=some (some (.d (.dict (m.map aD))))∧σ[i]?=some (some (.ref l))∧F l=none∧H l=some (.dK (m.map aK))∧∀p∈m,∀F,p.2.ok K F
structure J3 (i:Nat) (W:List Nat) (σ:L2.St) (F H:Hp) (e:En) (σ':L2.St) (F' H':Hp) (e':En):Prop where
  sf:aG F F'
  dom:∀a,H' a=none→H a=none
  fr:∀a vs,F a=none→H a=some (.lst vs)→¬cN σ (e.set i none) H a→F' a=none
  lst:∀a vs,H a=some (.lst vs)→∃vs',H' a=some (.lst vs')
  tmp:∀a o,H a=some o→¬cN σ (e.set i none) H a→σ[i]?≠some (some (.ref a))→H' a=some o
  own:∀a,cN σ' (e'.set i none) H' a→cN σ (e.set i none) H a∨H a=none
  wr:∀j,j∉W→σ'[j]?=σ[j]?
  dd:σ'[i]?=σ[i]?
  fd:∀a m,F a=none→H a=some (.dK m)→¬cN σ (e.set i none) H a→σ[i]?≠some (some (.ref a))→F' a=none
end
section
variable{X:Cx}{K:⇑0}{i:Nat}{W W1 W2:List Nat}{st:Nq}{dP:List Nq}{f g:FS}{ft:FT}{pos:Pos}
inductive IJ (K:⇑0) (i:Nat) (F1:Hp) (P:En→Prop) (G:L2.St→Hp→Hp→En→Prop) (σ:L2.St) (H:Hp):Prop
  | mk {F:Hp} {e:En} (R:IU K i F H σ e) (sF:aG F1 F) (hf:P e) (q:G σ F H e):IJ K i F1 P G σ H
end
section
variable{X:Cx}{K:⇑0}{es:List Na}{k0:Nat}{tp:Pos}{a b:Na}{fs:FA}{p pos:Pos}
def mF(fs:FA):FI:=fun e=>(fs e).bind fun p=>match p.1 with
  | [r,.d (.list ys)]=>(Bm p.2 r).bind fun s=>if s.1=true then some (fF s.2.1 ys,s.2.2,p.2) else none
  | _=>none
end
def yK:Bool→⇑0→Hp→MW→List V→Prop
  | true=>gC
  | false=>dz
def IE(b:Bool)(it l:MW)(i:Nat)(h:Nh):Prop:=match b with
  | true=>h.IsListIter it l i
  | false=>h.IsTupleIter it l i
def yQ(b:Bool)(h:Nh)(l:MW)(xs:Array MX):Prop:=match b with
  | true=>h.IsList l xs
  | false=>h.IsTuple l xs
def oB(b:Bool)(l:MW):Obj:={cls:=.type (match b with | true=>"list_iterator" | false=>"tuple_iterator"),data:=.fields #[.ref l,.int 0 0]}
theorem mW{prog:Nk}{w:Ng}:∀(b:Bool) (it l:MW),Sc prog w it l (IE b it l) fun h xs=>yQ b h l xs
  | true,it,l=>sN it l
  | false,it,l=>vL it l
theorem wD{b:Bool}{it l:MW}{h:Nh}(e:h.get? it=some (oB b l)):IE b it l 0 h:=match b,e with
  | true,e=>⟨_,e,rfl,rfl⟩
  | false,e=>⟨_,e,rfl,rfl⟩
theorem yR{b:Bool}{h:Nh}{l:MW}{xs:Array MX}(o:Obj)(t:yQ b h l xs):yQ b (h.push o) l xs:=match b,t with
  | true,t=>Heap.IsList.push t o
  | false,t=>Heap.IsTuple.push t o
theorem zT{prog:Nk}{w:Ng}{A:Nn}{E:MX→MZ→Prop}{s:MZ}{l:MW}{xs:Array MX}{Q:MX→MZ→Prop}{b:Bool}(t:yQ b s.heap l xs)(h:Q (.ref ↑s) {s with heap:=s.heap.push (oB b l)}):Nf (Ni prog w) A (pyIter (.ref l)) Q E s:=match b,t,h with
  | true,t,h=>wpAny_pyIter_list t h
  | false,t,h=>QS t h
section
variable{X:Cx}{pins:List (MW × Obj)}{σ:L2.St}{H:Hp}{s:MZ}
theorem uP(I:aI X pins σ H s){c:Bool}{b l:MW}{xs:List V}(f:gS X pins H b)(q:yK c X.K H l xs):l≠b:=match c,q with
  | true,q=>lH I f q
  | false,q=>nE I f q
theorem xV(I:aI X pins σ H s){c:Bool}{l:MW}{xs:List V}(q:yK c X.K H l xs):∃its,aR xs its∧yQ c s.heap l its.toArray:=match c,q with
  | true,q=>let ⟨its,v,p,_⟩:=I.list q;⟨its,v,p.isList⟩
  | false,q=>let ⟨its,v,p,_⟩:=I.tuple q;⟨its,v,p⟩
theorem G8(I:aI X pins σ H s){c:Bool}{l:MW}{xs ys:List V}(p:yK c X.K H l xs)(q:yK c X.K H l ys):xs=ys:=match c,p,q with
  | true,p,q=>I.list_inj p q
  | false,p,q=>I.tuple_inj p q
end
def Ej(b1 b2:Bool)(K:⇑0)(l1 l2:MW):It:=
  ⟨fun i H=>∃xs ys x y,yK b1 K H l1 xs∧yK b2 K H l2 ys∧xs[i]?=some x∧ys[i]?=some y,
   fun i H v H'=>∃p x y,v=.ref p∧H p=none∧H'=bC H p (.tup [x,y])∧∀xs ys,yK b1 K H l1 xs→yK b2 K H l2 ys→xs[i]?=some x∧ys[i]?=some y,
   fun i H=>∃xs ys,yK b1 K H l1 xs∧yK b2 K H l2 ys∧(xs.length≤i∨ys.length≤i)⟩
def BD(b1 b2:Bool)(z TI TO i1 i2 l1 l2:MW)(i:Nat)(h:Nh):Prop:=IsZip h z TI TO .none∧NR h TI (.ref i1) (.ref i2)∧(∃a b,NR h TO a b)∧IE b1 i1 l1 i h∧IE b2 i2 l2 i h
theorem yC{b1 b2:Bool}{P:Nk}{w:Ng}{K:⇑0}{es:List Na}{k0:Nat}{pos:Pos}{z TI TO i1 i2:MW}(l1 l2:MW)(n1:TO≠z)(n2:i1≠z)(n3:i2≠z)(n4:TO≠i1)(n5:TO≠i2)(n6:i1≠i2)(n7:TI≠z)(n8:TI≠TO)(n9:TI≠i1)(n10:TI≠i2):
    uT P w K (.Tuple es k0 pos) (Ej b1 b2 K l1 l2) [z,TI,TO,i1,i2] z (BD b1 b2 z TI TO i1 i2 l1 l2) where
  mem:=by simp
  obj:=fun i h st b hb=>by
    obtain⟨hz,hI,⟨a,c,hO⟩,u1,u2⟩:=st
    simp only [NX,Oq,or_false] at hb
    rcases hb with rfl | rfl | rfl | rfl | rfl
    · exact⟨_,hz,fun v z=>by cases z⟩
    · exact⟨_,hI,fun v z=>by cases z⟩
    · exact⟨_,hO,fun v z=>by cases z⟩
    · exact(mW (prog:=P) (w:=w) b1 _ _).live u1
    · exact(mW (prog:=P) (w:=w) b2 _ _).live u2
  keep:=fun i h h' st k=>by
    obtain⟨hz,hI,⟨a,c,hO⟩,u1,u2⟩:=st
    exact⟨k _ ↥1 _ hz,k _ ↥1 _ hI,⟨a,c,k _ ↥1 _ hO⟩,(mW (prog:=P) (w:=w) b1 _ _).stay u1 fun o e=>k _ ↥1 o e,(mW (prog:=P) (w:=w) b2 _ _).stay u2 fun o e=>k _ ↥1 o e⟩
  item:=by
    intro X hP hw hK hc i pins s σ H E I hf st hg
    subst hP hw hK
    obtain⟨xs,ys,x,y,q1,q2,hx,hy⟩:=hg
    obtain⟨hz,hI,⟨a,b,hO⟩,u1,u2⟩:=id st
    obtain⟨its1,rv1,p1⟩:=xV I q1
    obtain⟨its2,rv2,p2⟩:=xV I q2
    obtain⟨ux,hux,rux⟩:=rv1.get hx
    obtain⟨uy,huy,ruy⟩:=rv2.get hy
    have fz:=hf z ↥1;have fO:=hf TO ↥1;have f1:=hf i1 ↥1;have f2:=hf i2 ↥1
    have D:p5 z TI TO i1 i2 l1 l2:=⟨n1,n2,n3,n4,n5,n6,uP I fz q1,uP I fO q1,uP I f1 q1,uP I f2 q1,uP I fz q2,uP I fO q2,uP I f1 q2,uP I f2 q2⟩
    refine BF (xs:=its1.toArray) (ys:=its2.toArray) (mW b1 i1 l1) (mW b2 i2 l2) D hz hI hO u1 u2 p1 p2 (by simpa using hux) (by simpa using huy) fun g gz gO g1 g2 gT gs gk=>?_
    refine⟨_,rfl,wpAny_letOwnedTupleGo_zip gz fun g' gz' ge=>?_⟩
    have lt:∀b∈[z,TI,TO,i1,i2],b < ↑s:=fun b hb=>by
      simp only [NX,Oq,or_false] at hb
      rcases hb with rfl | rfl | rfl | rfl | rfl
      · exact Nu hz
      · exact Nu hI
      · exact Nu hO
      · obtain⟨o,e,_⟩:=(mW (prog:=X.prog) (w:=X.w) b1 _ _).live u1;exact Nu e
      · obtain⟨o,e,_⟩:=(mW (prog:=X.prog) (w:=X.w) b2 _ _).live u2;exact Nu e
    have hT:H ↑s=none:=I.hok.fresh ↥8
    have vv:aR [x,y] [ux,uy]:=.cons rux (.cons ruy .nil)
    have I1:aI X pins σ (bC H ↑s (.tup [x,y])) {s with heap:=s.heap.push {cls:=.type "tuple",data:=.seq #[ux,uy]},toks:=s.toks}:=
      I.laid (t':=s.toks) (fun b u e=>Nz _ e) ↥8 ⟨(by show 2≤Nr;decide),[ux,uy],vv,lG.new _ _⟩
    have hf1:∀b∈[z,TI,TO,i1,i2],gS X pins (bC H ↑s (.tup [x,y])) b:=fun b hb=>by
      obtain⟨f0,fr⟩:=hf b hb
      exact⟨by rw [aA (NJ (lt b hb))];exact f0,fr⟩
    have nzT:↑s≠z:=QR (lt z ↥1)
    have I2:aI X pins σ (bC H ↑s (.tup [x,y])) {s with heap:=g',toks:=s.toks}:=by
      refine I1.turnedL (t':=s.toks) hf1 fun b o nb e=>?_
      have nb':b≠z∧b≠TI∧b≠TO∧b≠i1∧b≠i2:=by simpa using nb
      refine ge.extBut _ _ nb'.1 ?_
      rcases Sf e with ⟨rfl,rfl⟩ | e
      · exact gT
      · exact gk b o nb'.1 nb'.2.2.1 nb'.2.2.2.1 nb'.2.2.2.2 e
    refine⟨.ref ↑s,_,I2,rfl,⟨_,x,y,rfl,hT,rfl,fun xs' ys' w1 w2=>?_⟩,⟨gz',ge.extBut _ _ n7 (gk _ _ n7 n8 n9 n10 hI),⟨ux,uy,ge.extBut _ _ n1 gO⟩,(mW (prog:=X.prog) (w:=X.w) b1 _ _).stay g1 fun o e=>ge.extBut _ _ n2 e,(mW (prog:=X.prog) (w:=X.w) b2 _ _).stay g2 fun o e=>ge.extBut _ _ n3 e⟩,fun b hb=>(hf1 b hb).1⟩
    rw [G8 I w1 q1,G8 I w2 q2]
    exact⟨hx,hy⟩
  done:=by
    intro X hP hw hK hc i pins s σ H E I hf st hg
    subst hP hw hK
    obtain⟨xs,ys,q1,q2,hn⟩:=hg
    obtain⟨hz,hI,⟨a,b,hO⟩,u1,u2⟩:=id st
    obtain⟨its1,rv1,p1⟩:=xV I q1
    obtain⟨its2,rv2,p2⟩:=xV I q2
    have fz:=hf z ↥1;have fO:=hf TO ↥1;have f1:=hf i1 ↥1;have f2:=hf i2 ↥1
    have D:p5 z TI TO i1 i2 l1 l2:=⟨n1,n2,n3,n4,n5,n6,uP I fz q1,uP I fO q1,uP I f1 q1,uP I f2 q1,uP I fz q2,uP I fO q2,uP I f1 q2,uP I f2 q2⟩
    have e1:=rv1.length
    have e2:=rv2.length
    refine BG (xs:=its1.toArray) (ys:=its2.toArray) (I.ok.hd hc) (mW b1 i1 l1) (mW b2 i2 l2) D hz hI hO u1 u2 p1 p2 ?_ fun g gk=>⟨rfl,I.turnedL (t':=s.toks) hf fun b o nb e=>?_⟩
    · rcases hn with hn | hn
      · exact .inl ↥7
      · exact .inr ↥7
    · have nb':b≠z∧b≠TI∧b≠TO∧b≠i1∧b≠i2:=by simpa using nb
      exact gk b o nb'.1 nb'.2.2.1 nb'.2.2.2.1 nb'.2.2.2.2 e
  self:=fun A i s Q E st h=>wpAny_pyIter_zip st.1 h
theorem BE(b1 b2:Bool)(l1 l2:MW)(xs ys:Array MX):
    Meets (Builtin.«zip.__new__» ⟨[.type "zip",.ref l1,.ref l2],[]⟩) (fun _ R s=>yQ b1 s.heap l1 xs∧yQ b2 s.heap l2 ys∧
      R (.ok (.ret (.ref (↑s+4)))) {s with heap:=((((s.heap.push (oB b1 l1)).push (oB b2 l2)).push {cls:=.type "tuple",data:=.seq #[.ref ↑s,.ref (↑s+1)]}).push {cls:=.type "tuple",data:=.seq #[.none,.none]}).push {cls:=.type "zip",data:=.fields #[.none,.bool false,.bool false,.ref (↑s+2),.ref (↑s+3)]}}):=
  .of_wp fun prog w A R s h=>by
    obtain⟨hp,g,d,tk,os⟩:=s;obtain⟨t1,t2,h⟩:=h;have sz:=PySem.sub_zip
    have T1:yQ b1 (Shared.heap ⟨hp,g,d,tk,os⟩) l1 xs:=t1
    have T2:yQ b2 (Shared.heap ⟨hp.push (oB b1 l1),g,d,tk,os⟩) l2 ys:=yR _ t2
    wp_walk using zT T1,zT T2
    refine⟨_,rfl,?_⟩
    simp only [Oo]
    exact h
section
variable{prog:Nk}{w:Ng}{A:Nn}{E:MX→MZ→Prop}{s:MZ}
theorem yH{b1 b2:Bool}{l1 l2:MW}{xs ys:Array MX}{Q:MX→MZ→Prop}(t1:yQ b1 s.heap l1 xs)(t2:yQ b2 s.heap l2 ys)
    (h:∀g,BD b1 b2 (↑s+4) (↑s+2) (↑s+3) ↑s (↑s+1) l1 l2 0 g→(∀c o,s.heap.get? c=some o→g.get? c=some o)→Q (.ref (↑s+4)) {s with heap:=g}):
    Nf (Ni prog w) A (call (.type "zip") [.ref l1,.ref l2]) Q E s:=by
  refine callType_new F.called_zip ⋯ (F.typeCall_zip_2 _ _) (F.newCall_zip_2 _ _) (fun obj=>F.args_object_init_3 obj _ _) F.entry_zip_new (BE b1 b2 l1 l2 xs ys) ⟨t1,t2,?_⟩
  have at5:∀(g:Nh) (o:Obj) (a:MW),o.isFreed=false→a=g.objs.size→(g.push o).get? a=some o:=fun g o a hf e=>by rw [e];exact Oj _ hf
  have g5:=at5 ((((s.heap.push (oB b1 l1)).push (oB b2 l2)).push {cls:=.type "tuple",data:=.seq #[.ref ↑s,.ref (↑s+1)]}).push {cls:=.type "tuple",data:=.seq #[.none,.none]}) {cls:=.type "zip",data:=.fields #[.none,.bool false,.bool false,.ref (↑s+2),.ref (↑s+3)]} (↑s+4) rfl (by simp only [Oo])
  have g4:=at5 (((s.heap.push (oB b1 l1)).push (oB b2 l2)).push {cls:=.type "tuple",data:=.seq #[.ref ↑s,.ref (↑s+1)]}) {cls:=.type "tuple",data:=.seq #[.none,.none]} (↑s+3) rfl (by simp only [Oo])
  have g3:=at5 ((s.heap.push (oB b1 l1)).push (oB b2 l2)) {cls:=.type "tuple",data:=.seq #[.ref ↑s,.ref (↑s+1)]} (↑s+2) rfl (by simp only [Oo])
  have g2:=at5 (s.heap.push (oB b1 l1)) (oB b2 l2) (↑s+1) rfl (by simp only [Oo])
  have g1:=at5 s.heap (oB b1 l1) ↑s rfl rfl
  have up:∀{g:Nh} {a:MW} {u:Obj} (o:Obj),g.get? a=some u→(g.push o).get? a=some u:=fun o e=>Nz o e
  refine⟨⟨_,g5,rfl⟩,h _ ⟨g5,up _ (up _ g3),⟨_,_,up _ g4⟩,wD (up _ (up _ (up _ (up _ g1)))),wD (up _ (up _ (up _ g2)))⟩ fun c o x=>up _ (up _ (up _ (up _ (up _ x))))⟩
end
def G7(b1 b2:Bool)(K:⇑0)(ta:TA):TI:=fun σ H R=>ta σ H fun vs H1=>∃a b,vs=[.ref a,.ref b]∧(∃xs,yK b1 K H1 a xs)∧(∃ys,yK b2 K H1 b ys)∧R (Ej b1 b2 K a b) H1
theorem wQ{b1 b2:Bool}{X:Cx}{K:⇑0}{es:List Na}{k0:Nat}{tp:Pos}{a b:Na}{ta:TA}{p pos:Pos}(hK:X.K=K)(hg:Gl X "zip")(hm:X.mg "zip"=none)(ha:PA X [a,b] ta)(hs:Nl [a,b] X.env=[(false,Nj a X.env),(false,Nj b X.env)]:=by rfl)(hs2:Nl [b] X.env=[(false,Nj b X.env)]:=by rfl):
    PI X (.Tuple es k0 tp) (.Call (.Name "zip" p) [a,b] [] pos) (G7 b1 b2 K ta):=by
  intro pins s σ H R I h
  subst hK
  refine Call_ (gr I hg hm yX (Po (cM (ha pos pins s σ H _ I h) fun us s1 ⟨vs,H1,I1,r1,q1⟩=>?_) (by rw [hs,hs2]) (by rw [hs2];rfl)))
  obtain⟨a,b,e,⟨xs,qx⟩,⟨ys,qy⟩,q⟩:=q1
  subst e
  cases r1 with
  | cons r rr=>
    cases rr with
    | cons r' rr=>
      cases rr
      cases r
      cases r'
      obtain⟨i1,v1,p1⟩:=xV I1 qx
      obtain⟨i2,v2,p2⟩:=xV I1 qy
      refine yH p1 p2 fun g st hk=>wpAny_pyIter_zip st.1 ?_
      have I2:aI X pins σ H1 {s1 with heap:=g,toks:=s1.toks}:=I1.kept (t':=s1.toks) fun b o e=>hk b o e
      have nn:∀i j:Nat,i≠j→(↑s1+i:Nat)≠↑s1+j:=fun i j h=>by lia
      refine⟨↑s1+4,[↑s1+4,↑s1+2,↑s1+3,↑s1,↑s1+1],_,_,H1,rfl,I2,yC a b (nn 3 4 ⋯) (nn 0 4 ⋯) (nn 1 4 ⋯) (nn 3 0 ⋯) (nn 3 1 ⋯) (nn 0 1 ⋯) (nn 2 4 ⋯) (nn 2 3 ⋯) (nn 2 0 ⋯) (nn 2 1 ⋯),st,fun c hc=>?_,q⟩
      have le:↑s1≤c:=by
        simp only [NX,Oq,or_false] at hc
        rcases hc with rfl | rfl | rfl | rfl | rfl
        · exact QI _ 4
        · exact QI _ 2
        · exact QI _ 3
        · exact Ny _
        · exact QI _ 1
      have f:=I1.fpOk (H':=H1) le (I1.hok.fresh le)
      exact f
section
variable{X:Cx}{K:⇑0}{es:List Na}{k0:Nat}{tp:Pos}{a b:Na}{fs:FA}{p pos:Pos}
theorem k9(hK:X.K=K)(hg:Gl X "zip")(hm:X.mg "zip"=none)(ha:PA X [a,b] (fA K fs))(hs:Nl [a,b] X.env=[(false,Nj a X.env),(false,Nj b X.env)])(hs2:Nl [b] X.env=[(false,Nj b X.env)]):PI X (.Tuple es k0 tp) (.Call (.Name "zip" p) [a,b] [] pos) (fI K (mF fs)):=
    (wQ (b1:=true) (b2:=true) (es:=es) (k0:=k0) (tp:=tp) hK hg hm ha hs hs2).mono fun σ H R hh=>by
  obtain⟨F,e,items,own,e',R0,hf,q⟩:=hh
  unfold mF at hf
  obtain⟨⟨rs,e1⟩,h1,hf⟩:=MP hf
  match rs,h1,hf with
  | [r,.d (.list ys)],h1,hf=>
  obtain⟨⟨b,xs,ow⟩,h2,hf⟩:=MP hf
  dsimp only at hf
  split at hf
  case isFalse=>cases hf
  case isTrue hb=>
  subst hb
  cases hf
  refine⟨F,e,_,_,R0,h1,fun F1 H1 vs X1 R1 A1=>?_⟩
  obtain⟨v,u,rfl,a1,a2⟩:=jL A1
  obtain⟨F2,p1,R2,s2,f2,rfl,sc,kp⟩:=ly R1 a1 h2
  obtain⟨p2,us,rfl,t2,d2⟩:=d9.mp (DA.mono s2 (show DA K F1 (.list ys) u from a2))
  obtain⟨ws,_,c⟩:=sc.at (aG.refl _) R2.sm (R2.held kp) fun _ h=>h
  exact⟨p1,p2,rfl,⟨ws,c⟩,⟨us,R2.sm.seq t2⟩,q _ F2 H1 (X1.frz s2 f2) R2 kp (by
    have:s_ K σ (Ej true true K p1 p2) (fF xs ys) (own++[]) F2:=tT (own1:=own) (own2:=[]) (P:=gC K) (Q:=gC K) sc (.lst t2 d2) (fun _ _ h=>h) (fun _ _ h=>h) (fun i H vs us x y h1 h2 h3 h4=>⟨vs,us,x,y,h1,h2,h3,h4⟩) (fun i H vs us h1 h2 h3=>⟨vs,us,h1,h2,h3⟩) fun i H v H' h=>h
    rwa [Qh] at this)⟩
theorem uh(hK:X.K=K)(hg:Gl X "zip")(hm:X.mg "zip"=none)(ha:PA X [a,b] (fA K fs))(hs:Nl [a,b] X.env=[(false,Nj a X.env),(false,Nj b X.env)])(hs2:Nl [b] X.env=[(false,Nj b X.env)]):PI X (.Tuple es k0 tp) (.Call (.Name "zip" p) [a,b] [] pos) (fI K (tR fs)):=
    (wQ (b1:=false) (b2:=false) (es:=es) (k0:=k0) (tp:=tp) hK hg hm ha hs hs2).mono fun σ H R hh=>by
  obtain⟨F,e,items,own,e',R0,hf,q⟩:=hh
  unfold tR at hf
  obtain⟨⟨rs,e1⟩,h1,hf⟩:=MP hf
  match rs,h1,hf with
  | [.d (.tuple xs),.d (.tuple ys)],h1,hf=>
  cases hf
  refine⟨F,e,_,e1,R0,h1,fun F1 H1 vs X1 R1 A1=>?_⟩
  obtain⟨v,u,rfl,a1,a2⟩:=jL A1
  obtain⟨p1,vs,rfl,s1,d1⟩:=cq.mp (show DA K F1 (.tuple xs) v from a1)
  obtain⟨p2,us,rfl,s2,d2⟩:=cq.mp (show DA K F1 (.tuple ys) u from a2)
  exact⟨p1,p2,rfl,⟨vs,R1.sm.tup s1⟩,⟨us,R1.sm.tup s2⟩,q _ F1 H1 X1 R1 (fun z hz=>by cases hz) (tT (own1:=[]) (own2:=[]) (P:=dz K) (Q:=dz K) (.tup s1 d1) (.tup s2 d2) (fun _ _ h=>h) (fun _ _ h=>h) (fun i H vs us x y h1 h2 h3 h4=>⟨vs,us,x,y,h1,h2,h3,h4⟩) (fun i H vs us h1 h2 h3=>⟨vs,us,h1,h2,h3⟩) fun i H v H' h=>h)⟩
end
section
variable(P:Nk)(w:Ng)
end
section
variable{P:Nk}{w:Ng}{H H':Hp}{h h':Nh}{a:MW}{o:HO}
end
section
variable{P:Nk}{w:Ng}{H:Hp}{h h':Nh}{x e:MW}{o':HO}
end
section
variable{fs fs' ex ex':List MW}{H H1 H2:Hp}{h h1 h2 h':Nh}{a x e:MW}{o:HO}
end
section
variable{X:Cx}{pins:List (MW × Obj)}{σ:List (Option V)}{H H':Hp}{s:MZ}{h':Nh}
end
section
variable{X:Cx}
variable{a b:Na}{ta tb:TE}{pos:Pos}
variable{tA tB':TT}{dP:List Na}
end
section
variable{X:Cx}{pins:List (MW × Obj)}{σ:St}{H:Hp}{s:MZ}{a:MW}{xs ys:List V}
end
section
variable{X:Cx}{pins:List (MW × Obj)}{σ:St}{H:Hp}{s:MZ}{E:MX→MZ→Prop}
end
section
variable{X:Cx}{st:Nq}{dP:List Nq}{t u:TS}{e:Na}{te:TE}{pos:Pos}
end
section
variable{X:Cx}{pos:Pos}
end
section
variable{X:Cx}{pos:Pos}
end
section
variable{X:Cx}{tg:Na}
end
section
variable{X:Cx}{a b c:Na}{ta tb tc:TE}{pos:Pos}
end
section
variable{X:Cx}{a b c:Na}{ta tb tc:TE}{pos:Pos}
end
section
variable{prog:Nk}{w:Ng}{A:Nn}{E:MX→MZ→Prop}{s:MZ}{K:⇑0}{x dx C f:MW}{mA:Str→Option MX}{name:Str}{v:MX}
end
section
variable{P:Nk}{w:Ng}{H H':Hp}{h h':Nh}{a C dx:MW}{fs fs':List (Str × V)}
end
section
variable{X:Cx}{pins:List (MW × Obj)}{σ:St}{H:Hp}{s:MZ}{a C dx:MW}{fs:List (Str × V)}{f:Str}{v:V}{A:Nn}{E:MX→MZ→Prop}
end
section
variable{X:Cx}{o e value:Na}{f:Str}{pos pos' tpos:Pos}{ta tv:TE}
end
section
variable{X:Cx}{pins:List (MW × Obj)}{σ:St}{H:Hp}{s:MZ}{A:Nn}{E:MX→MZ→Prop}{Q:MX→MZ→Prop}{c:MX}{b:Bool}
end
section
variable{X:Cx}{e:Na}{es:List Na}{te:TE}{t:TA}{pos:Pos}
end
section
variable{X:Cx}{pins:List (MW × Obj)}{σ:St}{H:Hp}{s s':MZ}
end
section
variable{X:Cx}{CX:uR}{k:Nat}{f C:MW}{fd:Nt}{ps:List Str}{sp:Sp}{dvs:List V}{ds:List MX}{E:XK}{x m:Str}{p pos apos:Pos}{e o:Na}{es:List Na}{ta:TE}{t:TA}
end
section
variable{X:Cx}{CX:uR}{k:Nat}{f C:MW}{fd:Nt}{ps ks:List Str}{sp:Sp}{E:XK}{x m:Str}{p pos apos kpos:Pos}{e o:Na}{es:List Na}{kws:List Oe}{te ta:TE}{t tk:TA}{nm:Option Str}
variable{g:List MX→List MX→List MX}{gV:List V→List V→List V}
end
section
variable{X:Cx}{x:Str}{p pos:Pos}{e:Na}{es:List Na}{t:TA}{id T:String}{r:List V→Hp→VK→Prop}
end
section
variable{κ:Type}[DecidableEq κ]
theorem xE.getD{o:Option V}{u:Option MX}{d:V}{d':MX}(r:xE o u)(rd:bv d d'):bv (o.getD d) (u.getD d'):=by
  cases o with
  | none=>cases u with
    | none=>exact rd
    | some _=>exact(show False from r).elim
  | some _=>cases u with
    | none=>exact(show False from r).elim
    | some _=>exact r
end
section
variable{P:Nk}{w:Ng}{H:Hp}{h:Nh}{a:MW}
end
section
variable{X:Cx}{pins:List (MW × Obj)}{σ:St}{H:Hp}{s:MZ}{a:MW}{y v:V}{u r:MX}{o:Option V}{A:Nn}{E:MX→MZ→Prop}
end
section
variable{X:Cx}{pins:List (MW × Obj)}{σ:St}{H:Hp}{s:MZ}{a:MW}{kvs:List (fx × V)}{k:fx}{u:MX}{A:Nn}{E:MX→MZ→Prop}
end
section
variable{X:Cx}{o i e value:Na}{pos pos' tpos:Pos}{td ty tv:TE}
end
section
variable{X:Cx}{pos:Pos}
end
structure M2 (X:Cx) (o:Na) (m:Str) (apos:Pos) (e f:Na) (cpos:Pos):Prop where
  base:Qn o m X.env (Nj o X.env)=Nj o X.env
  few:((NO cpos (Nl [e,f] X.env)).all (fun x=> !x.1)&&(backToKw cpos (Qo [] X.env)).all (fun x=>x.1.isSome)
    &&decide (([e,f]:List Na).length+([]:List Oe).length+(if ([]:List Oe).isEmpty then 0 else 1) < 30))=true
  line:(apos.endLine==cpos.line)=true
  trees:NO cpos (Nl [e,f] X.env)=[(false,Nj e X.env),(false,Nj f X.env)]
def JJ(H:Hp)(a:MW):Prop:=(∃kvs,Rd H a (.dK kvs))∨∃kvs,Rd H a (.dT kvs)
theorem EF{X:Cx}{pins:List (MW × Obj)}{σ:St}{H:Hp}{s:MZ}{a:MW}(I:aI X pins σ H s)(d:JJ H a):
    s.TypeIs (.ref a) "dict"∧(∀b,Value.ref a=.ref b→∃ob,s.heap.get? b=some ob∧ob.dict=none)∧(a==OI)=false:=by
  rcases d with ⟨kvs,e⟩ | ⟨kvs,e⟩
  · obtain⟨_,hd,vs,_,dd⟩:=zm I.hok e
    refine⟨dd.typeIs,fun b q=>?_,hd⟩
    cases q
    obtain⟨ob,_,_,h1,h2,_⟩:=dd
    exact⟨ob,h1,h2.2.1⟩
  · obtain⟨_,hd,xs,_,dd⟩:=DP I.hok e
    refine⟨dd.typeIs,fun b q=>?_,hd⟩
    cases q
    obtain⟨ob,_,_,h1,h2,_⟩:=dd
    exact⟨ob,h1,h2.2.1⟩
section
variable{X:Cx}{pins:List (MW × Obj)}{σ:St}{H:Hp}{s:MZ}{a:MW}{y d:V}{u r:MX}{o:Option V}{A:Nn}{E:MX→MZ→Prop}
theorem EA{Q:MX→MZ→Prop}(hu:A.units+1 < cLine)(I:aI X pins σ H s)(g:yM H a y o)(ry:bv y u)(rd:bv d r)(h:∀w' s',aI X pins σ H s'→bv (o.getD d) w'→Q w' s'):
    Nf (Ni X.prog X.w) A (call (.builtin "dict.get") [.ref a,u,r]) Q E s:=by
  rcases g with ⟨kvs,k,e,ey,l⟩ | ⟨kvs,k,b,e,ey,eb,l⟩
  · subst ey
    obtain⟨z,hd,vs,rel,dd⟩:=zm I.hok e
    refine call_meetsIn Sn dd.typeIs PySem.F.entry_dict_get (PySem.F.args_dict_get_3 _ _ _) (meets_dict_get_default (ci X.prog X.w) a (zV ry) hd r) ⟨_,dd.mapOf,h _ _ (I.tok _) ?_⟩
    rw [l]
    exact(rel.val k).getD rd
  · subst ey
    cases (show u=Value.ref b from ry)
    obtain⟨z,hd,xs,rel,dd⟩:=DP I.hok e
    refine call_meetsIn Sn dd.typeIs PySem.F.entry_dict_get (PySem.F.args_dict_get_3 _ _ _) (meetsH_dict_get_default (tupleKind (ci X.prog X.w)) a b hd r) ⟨tupleKind_room_in1 hu,k,xs,zW I.hok eb,dd,h _ _ (I.tok _) ?_⟩
    rw [l]
    exact(rel.val k).getD rd
end
def Gb(td ty tx:TE):TE:=fun σ H Q=>td σ H fun x H1=>∃a,x=.ref a∧JJ H1 a∧ty σ H1 fun y H2=>tx σ H2 fun z H3=>∃o,yM H3 a y o∧Q (o.getD z) H3
section
variable{X:Cx}{o e f:Na}{apos cpos:Pos}{td ty tx:TE}
theorem Ay(hu:X.A.units+1 < cLine)(ho:PE X o td)(he:PE X e ty)(hf:PE X f tx)(m:M2 X o "get" apos e f cpos):PE X (.Call (.Attribute o "get" apos) [e,f] [] cpos) (Gb td ty tx):=by
  intro pins s σ H Q I h
  refine wpAny_Call_method m.base m.few m.line PySem.F.plainAttrs_dict Sn PySem.F.type_dict_get (cM (ho pins s σ H _ I h) fun u s1 ⟨x,H1,I1,rx,a,ex,d,q1⟩=>?_)
  subst ex
  obtain rfl:u=Value.ref a:=rx
  obtain⟨t1,t2,_⟩:=EF I1 d
  refine⟨t1,t2,?_⟩
  rw [m.trees]
  refine Calls.callWith_builtin rfl (Calls.evalArgs_plain (QU (cM (he pins s1 σ H1 _ I1 q1) fun iv s2 ⟨y,H2,I2,ry,q2⟩=>
    QU (cM (hf pins s2 σ H2 _ I2 q2) fun fv s3 ⟨z,H3,I3,rz,ov,g,q3⟩=>Calls.spliced_nil ?_))))
  exact EA hu I3 g ry rz fun w' s4 I4 rw'=>⟨_,H3,I4,rw',q3⟩
end
section
variable{X:Cx}{pins:List (MW × Obj)}{σ:St}{H:Hp}{s:MZ}{a:MW}{kvs:List (fx × V)}{A:Nn}{E:MX→MZ→Prop}
end
section
variable{X:Cx}{pins:List (MW × Obj)}{σ:St}{H:Hp}{s:MZ}{a:MW}{y:V}{u:MX}{A:Nn}{E:MX→MZ→Prop}
end
end L2
namespace Att
open PySem PySem.W PySem.Calls PyProof.Rows
section
variable{prog:Nk}{w:Ng}{A:Nn}{E:MX→MZ→Prop}{s:MZ}{K:Frag}
end
end Att
namespace L2
open PySem PySem.Spec PyProof.Rows
section
variable{P:Nk}{w:Ng}{K:⇑0}{mg:Str→Option MX}{base:Nh}
end
section
variable{X:Cx}
end
section
variable{κ:Type}[DecidableEq κ]
end
section
variable{prog:Nk}{w:Ng}{A:Nn}{R:Result→MZ→Prop}
theorem pQ(kx vx tg iter:Na)(ifs:List Na)(scope:NC)(pos:Pos)(it:MX)(D:MW)(env:Env):
    compTurn (.DictComp kx vx [⟨tg,iter,ifs,0⟩] scope pos) 0 it (.ref D) env=(do
      Pk iter.pos
      match ←OJ it with
      | none=>pure (.done .next)
      | some v=>
        QD tg it v
        Od tg env v
        let mut ok:=true
        for c in ifs do
          if ok then ok ←isTrue c env (Nj c env)
        if ok then
          (do
            let kv ←Nj kx env
            let vv ←NY [kv] (Nj vx env)
            Pk {kx.pos with endLine:=vx.pos.endLine,endCol:=vx.pos.endCol}
            NY [kv,vv] (dictSet D kv vv))
        again (.compLoop (.DictComp kx vx [⟨tg,iter,ifs,0⟩] scope pos) 0 it (.ref D) env)):=by rfl
theorem pP{kx vx tg iter:Na}{ifs:List Na}{scope:NC}{pos:Pos}{it:MX}{D:MW}{env:Env}(J:Nat→MZ→Prop)
    (turn:∀n u,J n u→Nf (Ni prog w) A (OJ it) (fun r u1=>(r=none→R (.ok .next) u1)∧∀v,r=some v→BU prog w A kx vx tg ifs env it D (fun u2=>∃m,m < n∧J m u2) v u1) yc u){n0:Nat}{u0:MZ}(gR:J n0 u0):
    codeAny (Ni prog w) A (.compLoop (.DictComp kx vx [⟨tg,iter,ifs,0⟩] scope pos) 0 it (.ref D) env) R u0:=by
  refine codeAny_loop rfl J (fun n u ju=>?_) n0 gR
  show Nf _ A ((compTurn (.DictComp kx vx [⟨tg,iter,ifs,0⟩] scope pos) 0 it (.ref D) env).onRaise _) _ _ u;refine wpAny_noted ?_;rw [pQ]
  refine Nc (QC (Nc (NW (turn n u ju) (fun r u1 k1=>?_) fun _ _ z=>z.elim)))
  cases r with
  | none=>exact Nm (k1.1 rfl)
  | some v=>
    refine Nc (NW (k1.2 v rfl) (fun _ u2 k2=>Nc (NW k2 (fun _ u3 k3=>Nc (NW k3 (fun ok u4 k4=>?_) fun _ _ z=>z.elim)) fun _ _ z=>z.elim)) fun _ _ z=>z.elim)
    cases ok with
    | false=>rw [if_neg Pn] at k4;exact Nm ⟨rfl,k4⟩
    | true=>
      rw [if_pos rfl] at k4
      exact Nc (Nc (NW k4 (fun kv u5 k5=>Nc (Pm (NW k5 (fun vv u6 k6=>Nc (QC (Pm (NW k6 (fun _ u7 k7=>Nm ⟨rfl,k7⟩) fun _ _ z=>z.elim)))) fun _ _ z=>z.elim))) fun _ _ z=>z.elim))
end
structure xt (cp:List (Nat × Str)) (nT:Nat) (wi:TI) (g:TG) (tk tv:TE) (σ:L2.St) (H:Hp) (Q:VK):Prop where
  go:wi σ H fun J H1=>∀l,H1 l=none→
  ∃W:Nat→Nat→L2.St→Hp→Prop,(∃m,W 0 m (gD cp nT σ) (bC H1 l (.dK [])))∧∀i m σ' H',W i m σ' H'→
    (J.stop i H'∧Q (.ref l) H')∨(J.go i H'∧∃N:L2.St→Hp→Prop,(∀σ2 H2,N σ2 H2→∃m',m' < m∧W (i+1) m' σ2 H2)∧
      ∀x H2,J.yld i H' x H2→g x σ' H2 fun σ2 H4=>tk σ2 H4 fun y H5=>tv σ2 H5 fun v H6=>∃(kk:fx) (kvs:List (fx × V)),y=kV kk∧H6 l=some (.dK kvs)∧kvs.length < Nr∧N σ2 (bC H6 l (.dK (sy kvs kk v))))
theorem yl{X:Cx}{kx vx iter tg:Na}{scope:NC}{pos:Pos}{wi:TI}{g:TG}{tk tv:TE}(sc0:NC)(N0:List Str)(cp:List (Nat × Str))(tgN:List Str)
    (hc:X.calm=true)(hsc:X.env.scope=sc0)(hN0:X.N=N0)(hi:PI X tg iter wi)
    (hg:∀C s0 H0 fp,PG (aH X scope cp tgN C s0 H0 fp) tg g)
    (hkx:∀C s0 H0 fp,PE (aH X scope cp tgN C s0 H0 fp) kx tk)
    (hvx:∀C s0 H0 fp,PE (aH X scope cp tgN C s0 H0 fp) vx tv)
    (hk:scope.kind=.function)(hown:∀y∈scope.names,y.2=.cell→scope.names.lookup y.1=some .cell)(hnames:∀y∈scope.names,y.2=.local→scope.names.lookup y.1=some .local)
    (hfr:∀y∈scope.names,y.2=.free→scope.names.lookup y.1=some .free∧sc0.names.lookup y.1=some .cell)
    (hcp:∀p∈cp,N0[p.1]?=some p.2)(hcq:∀p∈cp,sc0.names.lookup p.2=some .cell∧scope.names.lookup p.2=some .free)
    (hs:∀x,Py iter X.env x=pure x:=by intro _;rfl):
    PE X (.DictComp kx vx [⟨tg,iter,[],0⟩] scope pos) (xt cp tgN.length wi g tk tv):=by
  intro pins s σ H Q I h
  have hkind:∀x,X.env.kindOf x=sc0.names.lookup x:=fun x=>by unfold Env.kindOf;rw [hsc]
  have hfree:∀y∈scope.names,y.2=.free→∃c,X.env.cells.lookup y.1=some c:=fun y hy e=>I.ok.has y.1 (.inl (by rw [hkind];exact(hfr y hy e).2))
  rw [arm_eval_DictComp]
  refine wpAny_comprehension_free (use:=none) rfl hs (nK hfree) hk hnames (NW (hi pins s σ H _ I h.go) (fun xv s₁ h₁=>NW h₁ (fun itv s₂ h₂=>?_) fun _ _ e=>e) fun _ _ e=>e)
  obtain⟨it,fp,tn,J,H2,rfl,I2,T,st2,f2,hq⟩:=h₂
  refine Ow ?_
  have hlF:H2 ↑s₂=none:=I2.hok.fresh ↥8
  have I3:aI X pins σ (bC H2 ↑s₂ (.dK [])) {s₂ with heap:=s₂.heap.push {cls:=.type "dict",data:=.dict #[]}}:=I2.laid (a:=↑s₂) (o:=.dK []) (t':=s₂.toks) (fun _ _ q=>Nz _ q) ↥8 (zl s₂.heap I2.big)
  obtain⟨W,⟨m0,w0⟩,turn⟩:=hq _ hlF
  have f3:∀b∈fp,gS X pins (bC H2 ↑s₂ (.dK [])) b:=fun b hb=>by
    obtain⟨f0,fr⟩:=f2 b hb
    obtain⟨o,ho,_⟩:=T.obj _ _ st2 b hb
    exact⟨by rw [aA (NJ (Nu ho))];exact f0,fr⟩
  have st3:tn 0 (s₂.heap.push {cls:=.type "dict",data:=.dict #[]}):=T.keep _ _ _ st2 fun b _ o e=>Nz _ e
  generalize hD:↑s₂=D at*
  generalize hs3:({s₂ with heap:=s₂.heap.push {cls:=.type "dict",data:=.dict #[]}}:MZ)=s₃ at*
  have hst3:tn 0 s₃.heap:=by rw [←hs3];exact st3
  refine wN (fun h₁ hns₁ old hownC apC=>?_)
  generalize hC:↑s₃=C at*
  have nC:∀b o,s₃.heap.get? b=some o→b≠C:=fun b o e=>by rw [←hC];exact NJ (Nu e)
  obtain⟨ok',I4⟩:=qd (cp:=cp) (tgN:=tgN) hsc hN0 hk hown hfr hcp hcq I3 f3 (fun b hb=>let ⟨o,e,_⟩:=T.obj _ _ hst3 b hb;⟨o,e⟩) hC hns₁ old hownC apC
  have hst4:tn 0 h₁:=T.keep _ _ _ hst3 fun b _ o e=>old b o e
  have loop:codeAny (Ni X.prog X.w) X.A (.compLoop (.DictComp kx vx [⟨tg,iter,[],0⟩] scope pos) 0 (.ref it) (.ref D) (compEnvC scope (NK (C+1) scope.names (ic X.env scope.names [])) C X.env))
      (compPost (Ni X.prog X.w) X.A X.xe none (EP X pins σ Q) (.ref D) C) {s₃ with heap:=h₁}:=by
    refine pP (fun n s'=>∃i σ' H',aI (aH X scope cp tgN C s₃ (bC H2 D (.dK [])) fp) [] σ' H' s'∧tn i s'.heap∧(∀b∈fp,H' b=none)∧W i n σ' H') ?_ (n0:=m0) ⟨0,_,_,I4,hst4,fun b hb=>(f3 b hb).1,w0⟩
    rintro n s5 ⟨i,σ5,H5,I5,st5,fr5,w5⟩
    have stat:∀{H':Hp},(∀b∈fp,H' b=none)→∀b∈fp,gS (aH X scope cp tgN C s₃ (bC H2 D (.dK [])) fp) [] H' b:=fun hn b hb=>
      ⟨hn b hb,(ok'.exf b hb).1,ok'.exfs b hb,.inl hb,(ok'.exf b hb).2,fun p hp=>by simp [aH] at hp⟩
    rcases turn i n σ5 H5 w5 with ⟨stop,qn⟩ | ⟨go,N,hN,step⟩
    · refine cM (T.done (aH X scope cp tgN C s₃ (bC H2 D (.dK [])) fp) rfl rfl rfl hc i [] s5 σ5 H5 (fun _ _=>False) I5 (stat fr5) st5 stop) fun r s6 ⟨hr,I6⟩=>?_
      subst hr
      refine⟨fun _=>?_,fun v z=>by cases z⟩
      obtain⟨m,hn,_⟩:=I6.loc
      exact⟨m,hn,fun h' sb=>⟨.ref D,H5,qe I3 f3 nC I6 h' sb,rfl,qn⟩⟩
    · refine cM (T.item (aH X scope cp tgN C s₃ (bC H2 D (.dK [])) fp) rfl rfl rfl hc i [] s5 σ5 H5 (fun _ _=>False) I5 (stat fr5) st5 go) fun r s6 ⟨u,hr,h6⟩=>?_
      subst hr
      refine⟨fun z=>(by cases z),fun v z=>?_⟩
      cases z
      refine cM h6 fun _ s7 ⟨x,H7,I7,r7,y7,st7,fr7⟩=>?_
      have I7':=I7.pinned (stat fr7) (T.obj _ _ st7)
      have again:∀{σ8:L2.St} {H8:Hp} {s8:MZ},aI (aH X scope cp tgN C s₃ (bC H2 D (.dK [])) fp) ([]++l5 fp s7.heap) σ8 H8 s8→N σ8 H8→∃m,m < n∧∃i σ' H',aI (aH X scope cp tgN C s₃ (bC H2 D (.dK [])) fp) [] σ' H' s8∧tn i s8.heap∧(∀b∈fp,H' b=none)∧W i m σ' H':=fun{σ8 H8 s8} I8 n8=>by
        obtain⟨m',hm,w8⟩:=hN σ8 H8 n8
        refine⟨m',hm,i+1,σ8,H8,I8.unpinned,T.keep _ _ _ st7 fun b hb o e=>(I8.pin (b,o) (OD _ (OD _ (eN hb e)))).1,fun b hb=>?_,w8⟩
        obtain⟨o,e,d⟩:=T.obj _ _ st7 b hb
        exact(I8.pin (b,o) (OD _ (OD _ (eN hb e)))).2.1
      refine cM (hg C s₃ (bC H2 D (.dK [])) fp _ s7 σ5 H7 x u _ I7' r7 (step x H7 y7)) fun _ s8 ⟨σ8,H8,I8,q8⟩=>?_
      refine wpAny_tests_nil (EG ?_)
      refine cM (hkx C s₃ (bC H2 D (.dK [])) fp _ s8 σ8 H8 _ I8 q8) fun kv s10 ⟨xk,H10,I10,r10,q10⟩=>?_
      refine cM (hvx C s₃ (bC H2 D (.dK [])) fp _ s10 σ8 H10 _ I10 q10) fun vv s11 ⟨xv,H11,I11,r11,kk,kvs,ek,hl,hz,n11⟩=>?_
      subst ek
      obtain⟨z,hd,vs,rel,dd⟩:=GW I11.hok hl
      have hlen:(sy kvs kk xv).length≤Nr:=by have:=tU kvs kk xv;lia
      refine wpAny_dictSet_pairs (hsz:=by rw [←rel.length];exact z) (zV r10) dd fun h' dd' hs'=>again ?_ n11
      have hex:∃q,h'.get? D=some q:=let ⟨q,_,_,hq,_⟩:=dd';⟨q,hq⟩
      exact BW I11 (by rw [hl];exact True.intro) hs' hex (EC hlen hd (rel.put kk r11) dd')
  exact codeAny_compStart_dict loop (T.self X.A 0 _ _ _ hst4 loop)
abbrev yN:=Int × Int × Int
def pD(p:yN):MY × MY:=(.int p.1,.tuple [.int p.2.1,.int p.2.2])
def JW:Rv→Option (Int × Int)
  | .d (.tuple [.int p,.int q])=>some (p,q)
  | _=>none
def DO(g:FG)(ik:Nat)(fv:FE):List MY→En→List yN→Option (List yN × En)
  | [],e,acc=>some (acc,e)
  | x::r,e,acc=>(g x e).bind fun e1=>(t9 ik e1).bind fun k=>(fv e1).bind fun z=>(JW z.1).bind fun a=>if acc.length < 1000000∧(acc.any fun p=>p.1==k)=false then DO g ik fv r z.2 (acc++[(k,a)]) else none
def eH(cp:List (Nat × Str))(nT:Nat)(fi:FI)(g:FG)(ik:Nat)(fv:FE):FE:=fun e=>(fi e).bind fun p=>if (p.2.1.all fun q=> !(cp.any fun c=>c.1==q.1))=true then(DO g ik fv p.1 (oq cp nT p.2.2) []).bind fun z=>if j5 cp z.2 p.2.2=true then some (.d (.dict (z.1.map pD)),gE (kX cp) z.2 p.2.2) else none else none
section
variable{K:⇑0}{F H F' H':Hp}{σ σ':L2.St}{e e':En}{cp:List (Nat × Str)}{nT:Nat}
def GP(m:List (Int × lD))(acc:List yN):Prop:=m.map aD=acc.map pD
inductive JI (K:⇑0) (W:List Nat) (σ0:L2.St) (F1 H1:Hp) (e0:En) (l:MW) (P:Hp→En→List yN→Prop) (σ':L2.St) (H':Hp):Prop
  | mk {F':Hp} {ei:En} {acc:List yN} {m:List (Int × lD)} (R:bc K F' H' σ' ei) (X:dH W σ0 F1 H1 e0 σ' F' H' ei) (fl:F' l=none) (hl:H' l=some (.dK (m.map aK))) (ok:∀p∈m,p.2.ok K F') (ha:GP m acc) (hc:P F' ei acc):JI K W σ0 F1 H1 e0 l P σ' H'
theorem v0{k:Int}:∀{m:List (Int × lD)} {acc:List yN},GP m acc→(m.any fun p=>p.1==k)=(acc.any fun p=>p.1==k)
  | [],[],_=>rfl
  | [],_::_,h=>by simp [GP] at h
  | _::_,[],h=>by simp [GP] at h
  | p::m,q::acc,h=>by
    simp only [GP,Nx,So,aD,pD,Prod.mk.injEq,PyData.int.injEq] at h
    rw [Rj,Rj,h.1.1,v0 (m:=m) (acc:=acc) h.2]
theorem vV{Q:VK}{fi:FI}{g:FG}{W:List Nat}{ik:Nat}{fv:FE}(hn:(cp.map (·.1)).Nodup)(hW:∀j∈W,cp.length≤j)(h:fE K (eH cp nT fi g ik fv) σ H Q):
    xt cp nT (fI K fi) (fG K g W) (Di ik) (fE K fv) σ H Q:=by
  obtain⟨F0,e0,z,e',R0,hf,q⟩:=h
  unfold eH at hf
  obtain⟨⟨items,own,e1⟩,h1,hf⟩:=MP hf
  dsimp only at hf
  split at hf
  case isFalse=>cases hf
  case isTrue hO=>
  obtain⟨⟨out,eo⟩,h2,hf⟩:=MP hf
  dsimp only at hf
  split at hf
  case isFalse=>cases hf
  case isTrue hB=>
  cases hf
  refine⟨⟨F0,e0,items,own,e1,R0,h1,fun J F1 H1 X1 R1 kp ok=>?_⟩⟩
  intro l hl
  obtain⟨Ri,sub⟩:=R1.inn (nT:=nT) hn
  have hFl:F1 l=none:=R1.freeF hl
  let Iv:Nat→L2.St→Hp→Prop:=fun i=>JI K W (gD cp nT σ) F1 H1 (oq cp nT e1) l fun _ ei acc=>DO g ik fv (items.drop i) ei acc=some (out,eo)
  have notown:∀p∈own,∀a,σ[p.1]?=some (some (.ref a))→¬cN (gD cp nT σ) (oq cp nT e1) H1 a:=by
    rintro p hp a ha ⟨k,zf⟩
    obtain⟨xs,c1,c2⟩:=zf.resolve_right fun⟨xss,_,_,z,_⟩=>iP k xss z
    obtain⟨i,s,d1,d2⟩:=iO c1
    have e2:=lu d1 c2
    have:p.1=i:=R1.inj p.1 i p.2 xs a (kp p hp) d2 ha e2
    have hh:=OQ.mp hO p hp
    simp only [Bool.not_eq_true',Rg,beq_iff_eq] at hh
    exact hh (i,s) (MV d1) this.symm
  have nod:∀{F H:Hp} {σ:L2.St} {e:En} {m:List (fx × V)},bc K F H σ e→H l=some (.dK m)→¬cN σ e H l:=fun R h=>R.notOwn h (fun _ z=>nomatch z)
  have ri:=Ri.putO (o:=.dK []) hFl (fun z=>(Ri.ownH l z) hl)
  refine⟨fun i m σ' H'=>m=items.length - i∧i≤items.length∧Iv i σ' H',⟨items.length,by simp,Qr _,.mk (m:=[]) (acc:=[]) ri.1 (dH.refl.putT hl ri.2) hFl ay ↥1 rfl h2⟩,?_⟩
  rintro i m σ' H' ⟨rfl,hi,⟨R',X',fl,hl',ok',ha',hc⟩⟩
  rename_i F' ei acc am
  have held:xC K σ F' H' own:=fun p hp=>by
    obtain⟨a,us,c1,c2,c3,c4⟩:=R1.own p.1 p.2 (kp p hp)
    exact⟨a,us,c1,X'.tmp a _ c3 (notown p hp a c1),c4.mono X'.sf⟩
  obtain⟨go,stop,yld⟩:=ok F' H' X'.sf R'.sm held
  by_cases hlt:i < items.length
  · have hd:items.drop i=items[i]::items.drop (i+1):=Sl hlt
    rw [hd] at hc
    unfold DO at hc
    obtain⟨e2,c2,hc⟩:=MP hc
    obtain⟨kk,c8,hc⟩:=MP hc
    obtain⟨⟨r,e5⟩,c5,hc⟩:=MP hc
    obtain⟨⟨a,b⟩,c6,hc⟩:=MP hc
    split at hc
    case isFalse=>cases hc
    case isTrue hlen=>
    refine .inr ⟨go i hlt,Iv (i+1),fun σ2 H2 r=>⟨items.length - (i+1),by lia,rfl,hlt,r⟩,fun x H2 hy=>?_⟩
    obtain⟨F2,sH,sF2,sm2,fz,hx⟩:=yld i items[i] x H2 (NL hlt) hy
    obtain⟨R2,X2⟩:=R'.step sH sF2 sm2 fz
    refine⟨F2,ei,items[i],e2,R2,hx,c2,fun σ3 X3 R3=>?_⟩
    have hlH2:H2 l=some (.dK (am.map aK)):=sH _ _ hl'
    have fl2:F2 l=none:=fz l fl (by rw [hl'];simp)
    have kv:σ3[ik]?=some (some (.int kk)):=by
      unfold t9 at c8
      split at c8
      · rename_i heq
        cases c8
        obtain⟨v,g1,g2⟩:=R3.dat ik _ heq
        rw [g1,cm.mp g2]
      · cases c8
    have E3:dH W (gD cp nT σ) F1 H1 (oq cp nT e1) σ3 F2 H2 e2:=(X'.trans X2.s).trans X3
    refine⟨_,kv,F2,e2,r,e5,R3,c5,fun F5 H5 v X5 R5 A5=>?_⟩
    have hlH5:H5 l=some (.dK (am.map aK)):=X5.tmp l _ hlH2 (nod R3 hlH2)
    have fl5:F5 l=none:=X5.fd l _ fl2 hlH2 (nod R3 hlH2)
    have sl:Nr=16777216:=Om
    have ll:am.length=acc.length:=by
      have:=congrArg List.length ha'
      simpa using this
    have rr:r=.d (.tuple [.int a,.int b]):=by
      dsimp only at c6
      revert c6
      unfold JW
      split
      · intro c6;cases c6;rfl
      · intro c6;cases c6
    subst rr
    obtain⟨pa,xs,rfl,s1,s2⟩:=cq.mp (show DA K F5 (.tuple [.int a,.int b]) v from A5)
    have s2':=aT.ints (ns:=[a,b]).mp s2
    subst s2'
    have hany:(am.any fun p=>p.1==kk)=false:=by rw [v0 ha'];exact hlen.2
    refine⟨Sum.inl kk,_,rfl,hlH5,by rw [Nw];lia,?_⟩
    have pk:=AU (a:=.vp pa a b) hany
    rw [show V.ref pa=(lD.vp pa a b).toV from rfl,pk]
    have rc:=R5.putO (o:=.dK ((am++[(kk,lD.vp pa a b)]).map aK)) fl5 (nod R5 hlH5)
    refine .mk rc.1 ((E3.trans X5.s).putT hl rc.2) fl5 ay (fun p hp=>?_) ?_ hc
    · rcases MS hp with hp | hp
      · exact(ok' p hp).mono (sF2.trans X5.sf)
      · rw [RE.mp hp];exact s1
    · show(am++[(kk,lD.vp pa a b)]).map aD=(acc++[(kk,a,b)]).map pD
      rw [Oi,Oi,ha']
      rfl
  · have hd:items.drop i=[]:=Re ↥0
    rw [hd] at hc
    cases hc
    refine .inl ⟨stop i ↥0,?_⟩
    obtain⟨R9,X9,o9⟩:=pz R1 sub iP X'.sf X'.dom X'.fr X'.lst X'.tmp X'.fd R' (fun i k xs g1 g2=>X'.wr k fun z=>by
      obtain⟨s,g⟩:=eu g2
      have:=(MR g).1
      have:=hW k z
      lia) fun i k xs g1 g2=>by
        obtain⟨s,g⟩:=eu g2
        unfold j5 at hB
        have hb:=OQ.mp hB _ (MV g)
        simp only [g1,g2,Rx,vt,Bool.not_true,Bool.false_or] at hb
        exact wC.mp hb
    obtain⟨Ra,sa⟩:=R9.freeze fl hl' (nod R9 hl')
    have hHl:H l=none:=X1.dom l hl
    refine q _ H' (.ref l) ((X1.trans X9).frz sa fun a ha hn=>?_) Ra ?_
    · have z:a≠l:=fun z=>hn (by rw [z];exact hHl)
      rw [aA z];exact ha
    · simp only [cP,DA]
      exact⟨l,am,rfl,ay,ha'.symm,fun p hp=>(ok' p hp).mono sa⟩
end
section
variable{X:Cx}{K:⇑0}{pos:Pos}
theorem uf{iter tg vx:Na}{xk:Str}{pk:Pos}{scope:NC}{fi:FI}{g:FG}{W:List Nat}{ik:Nat}{fv:FE}(cp:List (Nat × Str))(tgN:List Str)(hK:X.K=K)
    (hc:X.calm=true)(hi:PI X tg iter (fI K fi))
    (hg:∀C s0 H0 fp,PG (aH X scope cp tgN C s0 H0 fp) tg (fG K g W))
    (hkx:∀C s0 H0 fp,PE (aH X scope cp tgN C s0 H0 fp) (.Name xk pk) (Di ik))
    (hvx:∀C s0 H0 fp,PE (aH X scope cp tgN C s0 H0 fp) vx (fE K fv))
    (hk:scope.kind=.function)(hch:y9 X.env.scope scope X.N cp W=true)(hs:∀x,Py iter X.env x=pure x):
    PE X (.DictComp (.Name xk pk) vx [⟨tg,iter,[],0⟩] scope pos) (fE K (eH cp tgN.length fi g ik fv)):=by
  subst hK
  obtain⟨h0,h1,h2,h3,h4,h5,h6⟩:=qZ hch
  exact(yl X.env.scope X.N cp tgN hc rfl rfl hi hg hkx hvx hk h0 h1 h2 h3 h4 hs).mono fun _ _ _ h=>vV h5 h6 h
def mq(fo fk fd:FE):FE:=fun e=>(fo e).bind fun p=>(fk p.2).bind fun q=>(fd q.2).bind fun r=>match p.1,q.1,r.1 with
  | .d (.dict kvs),.d (.int k),.d z=>some (.d (((kvs.find? fun p=>match p.1 with | .int i=>i==k | _=>false).map fun p=>p.2).getD z),r.2)
  | _,_,_=>none
theorem wU{o x f:Na}{fo fk fd:FE}{apos:Pos}{k:Nat}(hr:dI k X.A)(hK:X.K=K)(ho:PE X o (fE K fo))(hk:PE X x (fE K fk))(hd:PE X f (fE K fd))
    (h1:Qn o "get" X.env (Nj o X.env)=Nj o X.env)(h2:((NO pos (Nl [x,f] X.env)).all (fun x=> !x.1)&&(backToKw pos (Qo [] X.env)).all (fun x=>x.1.isSome)&&decide (([x,f]:List Na).length+([]:List Oe).length+(if ([]:List Oe).isEmpty then 0 else 1) < 30))=true)
    (h3:(apos.endLine==pos.line)=true)(h4:NO pos (Nl [x,f] X.env)=[(false,Nj x X.env),(false,Nj f X.env)]):
    PE X (.Call (.Attribute o "get" apos) [x,f] [] pos) (fE K (mq fo fk fd)):=(Ay (by have:=hr.units;lia) ho hk hd ⟨h1,h2,h3,h4⟩).mono fun σ H Q h=>by
  obtain⟨F,e,z,e',R,hf,q⟩:=h
  unfold mq at hf
  obtain⟨⟨r1,e1⟩,c1,hf⟩:=MP hf
  obtain⟨⟨r2,e2⟩,c2,hf⟩:=MP hf
  obtain⟨⟨r3,e3⟩,c3,hf⟩:=MP hf
  dsimp only at hf
  split at hf
  case h_2=>cases hf
  rename_i kvs kk zd _ _
  cases hf
  refine⟨F,e,_,e1,R,c1,fun F1 H1 v1 X1 R1 A1=>?_⟩
  have A1':DA K F1 (.dict kvs) v1:=A1
  simp only [DA] at A1'
  obtain⟨a,m,rfl,hF,rfl,ok⟩:=A1'
  refine⟨a,rfl,.inl ⟨_,.inl (R1.sm _ _ hF)⟩,F1,e1,_,e2,R1,c2,fun F2 H2 v2 X2 R2 A2=>?_⟩
  have B2:v2=.int kk:=cm.mp (show DA K F2 (.int kk) v2 from A2)
  subst B2
  refine⟨F2,e2,_,_,R2,c3,fun F3 H3 v3 X3 R3 A3=>?_⟩
  have g:=yM.k (k:=Sum.inl kk) (R3.sm _ _ (X3.sf _ _ (X2.sf _ _ hF)))
  refine⟨_,g,q F3 H3 _ ((X1.trans X2).trans X3) R3 ?_⟩
  have key:∀w:Option (MY × MY),w=(m.find? fun p=>p.1==kk).map (fun p=>(PyData.int p.1,p.2.toD))→cP K σ H F3 H3 e' (.d ((w.map fun p=>p.2).getD zd)) ((mY (m.map fun p=>((Sum.inl p.1:fx),p.2.toV)) (Sum.inl kk)).getD v3):=by
    rintro w rfl
    rw [tL]
    cases hm:m.find? fun p=>p.1==kk with
    | none=>exact A3
    | some pm=>exact Es (((ok pm (RJ hm)).mono X2.sf).mono X3.sf)
  exact key _ (tK kk m)
end
def sm(f:Nat→Int):Nat→Int
  | 0=>0
  | n+1=>sm f n+f n
theorem iA{f g:Nat→Int}:∀{n:Nat},(∀j,j < n→f j=g j)→sm f n=sm g n
  | 0,_=>rfl
  | n+1,h=>by rw [sm,sm,iA (n:=n) fun j hj=>h j ↥0,h n ↥0]
theorem ph{f g:Nat→Int}{x y:Int}:∀{n:Nat},sm (fun j=>x*f j+y*g j) n=x*sm f n+y*sm g n
  | 0=>by simp [sm]
  | n+1=>by rw [sm,sm,sm,ph (n:=n)];grind
theorem sP{f:Nat→Int}{n:Nat}(h:∀j,j < n→f j=0):sm f n=0:=by
  induction n with
  | zero=>rfl
  | succ n ih=>rw [sm,ih fun j hj=>h j ↥0,h n ↥0];rfl
theorem qG{f:Nat→Int}{p:Nat}:∀{n:Nat},p < n→sm f n=f p+sm (fun j=>if j=p then 0 else f j) n
  | 0,h=>by lia
  | n+1,h=>by
    rw [sm,sm]
    by_cases e:n=p
    · subst e
      rw [if_pos rfl,iA (f:=fun j=>if j=n then 0 else f j) (g:=f) fun j hj=>if_neg ↥0]
      lia
    · rw [if_neg e,qG (n:=n) (p:=p) ↥0];lia
theorem vN{f:Nat→Int}{p n:Nat}(hp:p < n)(h:∀j,j < n→j≠p→f j=0):sm f n=f p:=by
  rw [qG hp,sP fun j hj=>by by_cases e:j=p<;>simp [e];exact h j hj e];lia
def sg:Nat→Int
  | 0=>1
  | n+1=> - sg n
def sk(j a:Nat):Nat:=if a < j then a else a+1
def det:Nat→(Nat→Nat→Int)→Int
  | 0,_=>1
  | k+1,c=>sm (fun j=>sg j*c j 0*det k (fun a i=>c (sk j a) (i+1))) (k+1)
def pu(c:Nat→Nat→Int)(p:Nat)(v:Nat→Int):Nat→Nat→Int:=fun a=>if a=p then v else c a
theorem sx{c:Nat→Nat→Int}{p:Nat}:pu c p (c p)=c:=by
  funext a;unfold pu;split
  · rename_i h;rw [h]
  · rfl
theorem sv{c:Nat→Nat→Int}{p q:Nat}{u v:Nat→Int}(h:p≠q):pu (pu c p u) q v=pu (pu c q v) p u:=by
  funext a;unfold pu;split
  · rename_i e;rw [if_neg ↥0]
  · rfl
theorem oR{c:Nat→Nat→Int}{p j:Nat}{v:Nat→Int}(h:j≠p):(fun a i=>pu c p v (sk j a) (i+1))=pu (fun a i=>c (sk j a) (i+1)) (if p < j then p else p - 1) (fun i=>v (i+1)):=by
  funext a i
  unfold pu sk
  by_cases h1:a < j<;>by_cases h2:p < j<;>simp only [h1,h2,if_true,if_false]
  · by_cases e:a=p<;>simp [e]
  · rw [if_neg ↥0,if_neg ↥0]
  · rw [if_neg ↥0,if_neg ↥0]
  · by_cases e:a+1=p
    · rw [if_pos e,if_pos ↥0]
    · rw [if_neg e,if_neg ↥0]
theorem l8{c:Nat→Nat→Int}{p:Nat}{v:Nat→Int}:(fun a i=>pu c p v (sk p a) (i+1))=(fun a i=>c (sk p a) (i+1)):=by
  funext a i
  have:sk p a≠p:=by unfold sk;split<;>lia
  unfold pu;rw [if_neg this]
theorem jz{x y:Int}{u v:Nat→Int}:∀{k p:Nat} {c:Nat→Nat→Int},p < k→det k (pu c p (fun i=>x*u i+y*v i))=x*det k (pu c p u)+y*det k (pu c p v)
  | 0,p,c,h=>by lia
  | k+1,p,c,h=>by
    rw [det,det,det,←ph]
    refine iA fun j hj=>?_
    by_cases e:j=p
    · subst e
      rw [l8,l8,l8]
      simp only [pu,if_true]
      grind
    · rw [oR e,oR e,oR e]
      have:=jz (k:=k) (x:=x) (y:=y) (u:=fun i=>u (i+1)) (v:=fun i=>v (i+1)) (p:=if p < j then p else p - 1) (c:=fun a i=>c (sk j a) (i+1)) (by split<;>lia)
      rw [this]
      simp only [pu,if_neg e]
      grind
theorem rq:∀{k p:Nat} {c:Nat→Nat→Int},p+1 < k→c p=c (p+1)→det k c=0
  | 0,p,c,h,_=>by lia
  | k+1,p,c,h,e=>by
    rw [det,qG (p:=p) ↥0,qG (p:=p+1) ↥0]
    rw [sP (n:=k+1)]
    · rw [if_neg ↥0]
      have q:(fun a i=>c (sk p a) (i+1))=(fun a i=>c (sk (p+1) a) (i+1)):=by
        funext a i
        by_cases z:a=p
        · subst z
          simp only [sk,OW,if_false,Nat.lt_succ_self,if_true]
          rw [e]
        · have:sk p a=sk (p+1) a:=by unfold sk;split<;>split<;>lia
          rw [this]
      rw [q,e,sg]
      grind
    · intro j hj
      by_cases z1:j=p+1
      · simp [z1]
      · by_cases z2:j=p
        · simp [z2]
        · simp only [if_neg z1,if_neg z2]
          rw [rq (k:=k) (p:=if p < j then p else p - 1) (by split<;>lia)]
          · simp
          · funext i
            have a1:sk j (if p < j then p else p - 1)=p:=by unfold sk;grind
            have a2:sk j ((if p < j then p else p - 1)+1)=p+1:=by unfold sk;grind
            rw [a1,a2,e]
theorem zh{k p:Nat}{c:Nat→Nat→Int}{u v:Nat→Int}(h:p+1 < k):det k (pu (pu c p u) (p+1) v)= - det k (pu (pu c p v) (p+1) u):=by
  let F (u v:Nat→Int):=det k (pu (pu c p u) (p+1) v)
  have z:∀u,F u u=0:=fun u=>rq h (by funext i;simp [pu])
  have l1:∀u v w,F (fun i=>1*u i+1*v i) w=1*F u w+1*F v w:=fun u v w=>by
    show det k (pu (pu c p _) (p+1) w)=_
    rw [sv ↥0,jz ↥0,sv ↥0,sv (p:=p+1) ↥0]
  have l2:∀u v w,F w (fun i=>1*u i+1*v i)=1*F w u+1*F w v:=fun u v w=>by
    show det k (pu (pu c p w) (p+1) _)=_
    rw [jz ↥0]
  have a:=z (fun i=>1*u i+1*v i)
  rw [l1,l2,l2,z u,z v] at a
  show F u v= - F v u
  lia
theorem rA:∀{g k p:Nat} {c:Nat→Nat→Int},p+1+g < k→c p=c (p+1+g)→det k c=0
  | 0,k,p,c,h,e=>rq ↥0 e
  | g+1,k,p,c,h,e=>by
    have q:c=pu (pu c (p+1+g) (c (p+1+g))) (p+1+g+1) (c (p+1+g+1)):=by
      rw [sx,sx]
    rw [q,zh ↥0]
    rw [rA (g:=g) (p:=p) ↥0]
    · rfl
    · unfold pu
      rw [if_neg ↥0,if_neg ↥0,if_neg ↥0,if_pos rfl]
      exact e
theorem EB{k p q:Nat}{c:Nat→Nat→Int}(hp:p < k)(hq:q < k)(h:p≠q)(e:c p=c q):det k c=0:=by
  rcases Nat.lt_or_gt_of_ne h with z | z
  · exact rA (g:=q - p - 1) (p:=p) ↥0 (by rw [e];congr 1;lia)
  · exact rA (g:=p - q - 1) (p:=q) ↥0 (by rw [←e];congr 1;lia)
theorem wj{k p:Nat}{c:Nat→Nat→Int}{t:Nat→Int}{w:Nat→Nat→Int}(hp:p < k):∀n,det k (pu c p (fun i=>sm (fun a=>t a*w a i) n))=sm (fun a=>t a*det k (pu c p (w a))) n
  | 0=>by
    have:=jz (x:=0) (y:=0) (u:=fun _=>0) (v:=fun _=>0) (c:=c) hp
    simp only [sm] at this ⊢
    simpa using this
  | n+1=>by
    have:=jz (x:=1) (y:=t n) (u:=fun i=>sm (fun a=>t a*w a i) n) (v:=w n) (c:=c) hp
    rw [sm,←wj hp n]
    simp only [Int.one_mul] at this
    exact this
theorem uX{k p:Nat}{c:Nat→Nat→Int}{v:Nat→Int}{s:Int}{t:Nat→Int}(hp:p < k)(h:∀i,s*v i=sm (fun a=>t a*c a i) k):s*det k (pu c p v)=t p*det k c:=by
  have a:=jz (x:=s) (y:=0) (u:=v) (v:=v) (c:=c) hp
  have b:(fun i=>s*v i+0*v i)=(fun i=>sm (fun a=>t a*c a i) k):=by funext i;rw [←h i];lia
  rw [b,wj hp] at a
  rw [vN hp fun j hj e=>?_,sx] at a
  · rw [a];lia
  · rw [EB (p:=p) (q:=j) hp hj (fun z=>e z.symm) (by simp [pu,e]),Int.mul_zero]
def wu:Nat→Nat
  | 0=>1
  | n+1=>(n+1)*wu n
theorem vM{f:Nat→Int}{B:Nat}:∀{n:Nat},(∀j,j < n→(f j).natAbs≤B)→(sm f n).natAbs≤n*B
  | 0,_=>by simp [sm]
  | n+1,h=>by
    have h1:=vM (n:=n) fun j hj=>h j ↥0
    have h2:=h n ↥0
    rw [sm,Nat.add_mul,Nat.one_mul]
    have:=Int.natAbs_add_le (sm f n) (f n)
    lia
theorem Bk:∀j,(sg j).natAbs=1
  | 0=>rfl
  | j+1=>by rw [sg,Int.natAbs_neg,Bk j]
theorem rm{B:Nat}:∀{k:Nat} {c:Nat→Nat→Int},(∀a i,(c a i).natAbs≤B)→(det k c).natAbs≤wu k*B ^ k
  | 0,_,_=>by simp [det,wu]
  | k+1,c,h=>by
    rw [det,wu,Nat.pow_succ]
    have:(k+1)*wu k*(B ^ k*B)=(k+1)*(B*(wu k*B ^ k)):=by grind
    rw [this]
    refine vM fun j hj=>?_
    rw [Qq,Qq,Bk,Nat.one_mul]
    exact Nat.mul_le_mul (h j 0) (rm fun a i=>h _ _)
def sq(f:Nat→Rat):Nat→Rat
  | 0=>0
  | n+1=>sq f n+f n
theorem bB{f g:Nat→Rat}:∀{n:Nat},(∀j,j < n→f j=g j)→sq f n=sq g n
  | 0,_=>rfl
  | n+1,h=>by rw [sq,sq,bB (n:=n) fun j hj=>h j ↥0,h n ↥0]
theorem mj{f g:Nat→Rat}{x y:Rat}:∀{n:Nat},sq (fun j=>x*f j+y*g j) n=x*sq f n+y*sq g n
  | 0=>by simp [sq];grind
  | n+1=>by rw [sq,sq,sq,mj (n:=n)];grind
theorem lx{f:Nat→Rat}{p:Nat}:∀{n:Nat},p < n→sq f n=f p+sq (fun j=>if j=p then 0 else f j) n
  | 0,h=>by lia
  | n+1,h=>by
    rw [sq,sq]
    by_cases e:n=p
    · subst e
      rw [if_pos rfl,bB (f:=fun j=>if j=n then 0 else f j) (g:=f) fun j hj=>if_neg ↥0]
      grind
    · rw [if_neg e,lx (n:=n) (p:=p) ↥0];grind
theorem sQ{f:Nat→Rat}{n:Nat}(h:∀j,j < n→f j=0):sq f n=0:=by
  induction n with
  | zero=>rfl
  | succ n ih=>rw [sq,ih fun j hj=>h j ↥0,h n ↥0];grind
theorem F_{f:Nat→Rat}{p n:Nat}(hp:p < n)(h:∀j,j < n→j≠p→f j=0):sq f n=f p:=by
  rw [lx hp,sQ fun j hj=>by by_cases e:j=p<;>simp [e];exact h j hj e];grind
theorem qI{f:Nat→Rat}{n:Nat}(h:∀j,j < n→0≤f j):0≤sq f n:=by
  induction n with
  | zero=>exact OG
  | succ n ih=>rw [sq];have:=ih fun j hj=>h j ↥0;have:=h n ↥0;grind
theorem F9{f:Nat→Rat}{n:Nat}(h:sq f n < 0):∃j,j < n∧f j < 0:=by
  apply Qd
  intro c
  have:0≤sq f n:=qI fun j hj=>by
    have:=fun z=>c ⟨j,hj,z⟩
    grind
  grind
structure Tb where
  T:Nat→Nat→Int
  d:Int
  out:Nat→Nat
  win:Nat→Nat
def piv(s:Tb)(r c:Nat):Tb where
  T:=fun i j=>if i=r then(if j=c then s.d else s.T r j) else if j=c then - s.T i c else(s.T i j*s.T r c - s.T i c*s.T r j) / s.d
  d:=s.T r c
  out:=fun j=>if j=c then s.win r else s.out j
  win:=fun k=>if k=r then s.out c else s.win k
section
variable(n m:Nat)(C:Nat→Nat→Int)
def nA(x:Nat→Rat):Prop:=∀i,i≤m→sq (fun j=>(C j i:Rat)*x j) n+x (n+i)=(C (n+m+1) i:Rat)
structure Iv (s:Tb):Prop where
  dp:0 < s.d
  cl:∀j,j≤n→∀i,s.d*C (s.out j) i=sm (fun k=>s.T k j*C (s.win k) i) (m+1)
  dt:det (m+1) (fun k=>C (s.win k))=s.d
  fe:∀i,i < m→0≤s.T i n
  wm:s.win m=n+m
  on:s.out n=n+m+1
  oi:∀j,j < n→∀j',j' < n→s.out j=s.out j'→j=j'
  wi:∀k,k≤m→∀k',k'≤m→s.win k=s.win k'→k=k'
  dj:∀j,j < n→∀k,k≤m→s.out j≠s.win k
  cv:∀v,v≤n+m→(∃j,j < n∧s.out j=v)∨(∃k,k≤m∧s.win k=v)
  og:∀j,j < n→s.out j≤n+m
  wg:∀k,k≤m→s.win k≤n+m
  eq:∀x,nA n m C x↔ ∀k,k≤m→(s.d:Rat)*x (s.win k)+sq (fun j=>(s.T k j:Rat)*x (s.out j)) n=(s.T k n:Rat)
end
section
variable{n m:Nat}{C:Nat→Nat→Int}{s:Tb}(I:Iv n m C s){r c:Nat}(hr:r < m)(hc:c < n)(hp:0 < s.T r c)
include I hr hc hp
theorem Iv.win':(fun k=>C ((piv s r c).win k))=pu (fun k=>C (s.win k)) r (C (s.out c)):=by
  funext k;unfold piv pu;by_cases e:k=r<;>simp [e]
theorem Iv.dt':det (m+1) (fun k=>C ((piv s r c).win k))=s.T r c:=by
  rw [I.win' hr hc hp]
  have a:=uX (k:=m+1) (p:=r) (c:=fun k=>C (s.win k)) (v:=C (s.out c)) (s:=s.d) (t:=fun k=>s.T k c) ↥0 (I.cl c ↥0)
  rw [I.dt] at a
  have:=I.dp
  rw [Pc] at a
  exact QL ↥0 a
theorem Iv.big{j:Nat}(hj:j≤n)(i:Nat):(s.d*s.T r c)*C (s.out j) i=sm (fun k=>(if k=r then s.d*s.T r j else s.T k j*s.T r c - s.T k c*s.T r j)*C ((piv s r c).win k) i) (m+1):=by
  have a:=I.cl j hj i
  have b:=I.cl c ↥0 i
  rw [qG (p:=r) ↥0] at a b ⊢
  rw [if_pos rfl]
  have w:C ((piv s r c).win r) i=C (s.out c) i:=by simp [piv]
  have e:sm (fun k=>if k=r then 0 else(if k=r then s.d*s.T r j else s.T k j*s.T r c - s.T k c*s.T r j)*C ((piv s r c).win k) i) (m+1)=s.T r c*sm (fun k=>if k=r then 0 else s.T k j*C (s.win k) i) (m+1)+(- s.T r j)*sm (fun k=>if k=r then 0 else s.T k c*C (s.win k) i) (m+1):=by
    rw [←ph]
    refine iA fun k hk=>?_
    by_cases z:k=r
    · simp [z]
    · simp only [if_neg z,piv];grind
  rw [e,w]
  generalize sm (fun k=>if k=r then 0 else s.T k j*C (s.win k) i) (m+1)=S1 at*
  generalize sm (fun k=>if k=r then 0 else s.T k c*C (s.win k) i) (m+1)=S2 at*
  grind
theorem Iv.exact{j k:Nat}(hj:j≤n)(hk:k≤m)(hkr:k≠r):s.T k j*s.T r c - s.T k c*s.T r j=s.d*det (m+1) (pu (fun k=>C ((piv s r c).win k)) k (C (s.out j))):=by
  have a:=uX (k:=m+1) (p:=k) (c:=fun k=>C ((piv s r c).win k)) (v:=C (s.out j)) (s:=s.d*s.T r c) (t:=fun k=>if k=r then s.d*s.T r j else s.T k j*s.T r c - s.T k c*s.T r j) ↥0 (I.big hr hc hp hj)
  rw [I.dt' hr hc hp,if_neg hkr] at a
  refine(QL (a:=s.T r c) ↥0 ?_).symm
  rw [←a];grind
theorem Iv.div{j k:Nat}(hj:j≤n)(hk:k≤m)(hkr:k≠r)(hjc:j≠c):s.d*(piv s r c).T k j=s.T k j*s.T r c - s.T k c*s.T r j:=by
  have a:=I.exact hr hc hp hj hk hkr
  have:=I.dp
  simp only [piv,if_neg hkr,if_neg hjc]
  rw [a,Int.mul_ediv_cancel_left _ ↥0]
theorem Iv.piv(hq:∀i,i < m→0 < s.T i c→s.T r n*s.T i c≤s.T i n*s.T r c):Iv n m C (piv s r c):=by
  have dp:=I.dp
  have hnc:n≠c:=by lia
  refine⟨hp,?_,I.dt' hr hc hp,?_,?_,?_,?_,?_,?_,?_,?_,?_,?_⟩
  · intro j hj i
    by_cases e:j=c
    · subst e
      have b:=I.cl j hj i
      have o:(L2.piv s r j).out j=s.win r:=by simp [L2.piv]
      have d':(L2.piv s r j).d=s.T r j:=rfl
      rw [o,d']
      rw [qG (p:=r) ↥0] at b ⊢
      have w:C ((L2.piv s r j).win r) i=C (s.out j) i:=by simp [L2.piv]
      have t:(L2.piv s r j).T r j=s.d:=by simp [L2.piv]
      have e:sm (fun k=>if k=r then 0 else(L2.piv s r j).T k j*C ((L2.piv s r j).win k) i) (m+1)=(-1)*sm (fun k=>if k=r then 0 else s.T k j*C (s.win k) i) (m+1)+0*sm (fun k=>if k=r then 0 else s.T k j*C (s.win k) i) (m+1):=by
        rw [←ph]
        refine iA fun k hk=>?_
        by_cases z:k=r
        · simp [z]
        · simp only [if_neg z,L2.piv,if_true];grind
      rw [e,w,t]
      generalize sm (fun k=>if k=r then 0 else s.T k j*C (s.win k) i) (m+1)=S at*
      grind
    · have a:=I.big hr hc hp hj i
      have o:(L2.piv s r c).out j=s.out j:=by simp [L2.piv,e]
      have d':(L2.piv s r c).d=s.T r c:=rfl
      rw [o,d']
      have b:sm (fun k=>(if k=r then s.d*s.T r j else s.T k j*s.T r c - s.T k c*s.T r j)*C ((L2.piv s r c).win k) i) (m+1)=s.d*sm (fun k=>(L2.piv s r c).T k j*C ((L2.piv s r c).win k) i) (m+1)+0*sm (fun k=>(L2.piv s r c).T k j*C ((L2.piv s r c).win k) i) (m+1):=by
        rw [←ph]
        refine iA fun k hk=>?_
        by_cases z:k=r
        · subst z
          have:(L2.piv s k c).T k j=s.T k j:=by simp [L2.piv,e]
          rw [this,if_pos rfl];grind
        · rw [if_neg z,←I.div hr hc hp hj ↥0 z e];grind
      rw [b] at a
      refine Int.eq_of_mul_eq_mul_left (a:=s.d) ↥0 ?_
      rw [←PD,a];lia
  · intro i hi
    by_cases e:i=r
    · subst e
      have:(L2.piv s i c).T i n=s.T i n:=by simp [L2.piv,hnc]
      rw [this];exact I.fe i hi
    · have a:=I.div hr hc hp (Ny n) (k:=i) ↥0 e hnc
      have f1:=I.fe i hi
      have f2:=I.fe r hr
      have g:0≤s.d*(L2.piv s r c).T i n:=by
        rw [a]
        by_cases z:0 < s.T i c
        · have:=hq i hi z
          have e2:s.T i c*s.T r n=s.T r n*s.T i c:=Pc _ _
          lia
        · have h1:0≤s.T i n*s.T r c:=PH f1 ↥0
          have h2:0≤(- s.T i c)*s.T r n:=PH ↥0 f2
          have e2:(- s.T i c)*s.T r n= - (s.T i c*s.T r n):=Int.neg_mul _ _
          lia
      exact Int.nonneg_of_mul_nonneg_right (a:=s.d) (by rw [Pc] at g;first | exact g | (rw [Pc];exact g)) ↥0
  · show(if m=r then s.out c else s.win m)=n+m
    rw [if_neg ↥0];exact I.wm
  · show(if n=c then s.win r else s.out n)=n+m+1
    rw [if_neg hnc];exact I.on
  · intro j hj j' hj' e
    simp only [L2.piv] at e
    by_cases z:j=c<;>by_cases z':j'=c<;>simp only [z,z',if_true,if_false] at e
    · lia
    · exact absurd e.symm (I.dj j' hj' r ↥0)
    · exact absurd e (I.dj j hj r ↥0)
    · exact I.oi j hj j' hj' e
  · intro k hk k' hk' e
    simp only [L2.piv] at e
    by_cases z:k=r<;>by_cases z':k'=r<;>simp only [z,z',if_true,if_false] at e
    · lia
    · exact absurd e (I.dj c hc k' hk')
    · exact absurd e.symm (I.dj c hc k hk)
    · exact I.wi k hk k' hk' e
  · intro j hj k hk e
    simp only [L2.piv] at e
    by_cases z:j=c<;>by_cases z':k=r<;>simp only [z,z',if_true,if_false] at e
    · exact I.dj c hc r ↥0 e.symm
    · exact z' (I.wi r ↥0 k hk e).symm
    · exact z (I.oi j hj c hc e)
    · exact I.dj j hj k hk e
  · intro v hv
    rcases I.cv v hv with ⟨j,hj,e⟩ | ⟨k,hk,e⟩
    · by_cases z:j=c
      · exact .inr ⟨r,by lia,by simp [L2.piv,←e,z]⟩
      · exact .inl ⟨j,hj,by simp [L2.piv,z,e]⟩
    · by_cases z:k=r
      · exact .inl ⟨c,hc,by simp [L2.piv,←e,z]⟩
      · exact .inr ⟨k,hk,by simp [L2.piv,z,e]⟩
  · intro j hj
    simp only [L2.piv];split
    · exact I.wg r ↥0
    · exact I.og j hj
  · intro k hk
    simp only [L2.piv];split
    · exact I.og c hc
    · exact I.wg k hk
  · intro x
    rw [I.eq x]
    have dn:(s.d:Rat)≠0:=by
      intro z
      have:s.d=0:=by exact_mod_cast z
      lia
    have pn:(s.T r c:Rat)≠0:=by
      intro z
      have:s.T r c=0:=by exact_mod_cast z
      lia
    have wr:(L2.piv s r c).win r=s.out c:=by simp [L2.piv]
    have oc:(L2.piv s r c).out c=s.win r:=by simp [L2.piv]
    have dd:(L2.piv s r c).d=s.T r c:=rfl
    have er:((L2.piv s r c).d:Rat)*x ((L2.piv s r c).win r)+sq (fun j=>((L2.piv s r c).T r j:Rat)*x ((L2.piv s r c).out j)) n - ((L2.piv s r c).T r n:Rat)=(s.d:Rat)*x (s.win r)+sq (fun j=>(s.T r j:Rat)*x (s.out j)) n - (s.T r n:Rat):=by
      rw [lx hc,lx (f:=fun j=>(s.T r j:Rat)*x (s.out j)) hc,wr,oc,dd]
      have t1:(L2.piv s r c).T r c=s.d:=by simp [L2.piv]
      have t2:(L2.piv s r c).T r n=s.T r n:=by simp [L2.piv,hnc]
      rw [t1,t2,bB (f:=fun j=>if j=c then 0 else((L2.piv s r c).T r j:Rat)*x ((L2.piv s r c).out j)) (g:=fun j=>if j=c then 0 else(s.T r j:Rat)*x (s.out j)) fun j hj=>?_]
      · grind
      · by_cases z:j=c<;>simp [L2.piv,z]
    have ek:∀k,k≤m→k≠r→(s.d:Rat)*(((L2.piv s r c).d:Rat)*x ((L2.piv s r c).win k)+sq (fun j=>((L2.piv s r c).T k j:Rat)*x ((L2.piv s r c).out j)) n - ((L2.piv s r c).T k n:Rat))=(s.T r c:Rat)*((s.d:Rat)*x (s.win k)+sq (fun j=>(s.T k j:Rat)*x (s.out j)) n - (s.T k n:Rat)) - (s.T k c:Rat)*((s.d:Rat)*x (s.win r)+sq (fun j=>(s.T r j:Rat)*x (s.out j)) n - (s.T r n:Rat)):=by
      intro k hk z
      have wk:(L2.piv s r c).win k=s.win k:=by simp [L2.piv,z]
      have tk:∀j,j≤n→j≠c→(s.d:Rat)*((L2.piv s r c).T k j:Rat)=(s.T k j:Rat)*(s.T r c:Rat) - (s.T k c:Rat)*(s.T r j:Rat):=fun j hj e=>by exact_mod_cast I.div hr hc hp hj hk z e
      have tc:(L2.piv s r c).T k c= - s.T k c:=by simp [L2.piv,z]
      have tc':((L2.piv s r c).T k c:Rat)= - (s.T k c:Rat):=by rw [tc];exact_mod_cast rfl
      rw [lx hc,lx (f:=fun j=>(s.T k j:Rat)*x (s.out j)) hc,lx (f:=fun j=>(s.T r j:Rat)*x (s.out j)) hc,wk,oc,dd,tc']
      have e:=tk n (Ny n) hnc
      have b:(s.d:Rat)*sq (fun j=>if j=c then 0 else((L2.piv s r c).T k j:Rat)*x ((L2.piv s r c).out j)) n+0*sq (fun j=>if j=c then 0 else((L2.piv s r c).T k j:Rat)*x ((L2.piv s r c).out j)) n=(s.T r c:Rat)*sq (fun j=>if j=c then 0 else(s.T k j:Rat)*x (s.out j)) n+(- (s.T k c:Rat))*sq (fun j=>if j=c then 0 else(s.T r j:Rat)*x (s.out j)) n:=by
        rw [←mj,←mj]
        refine bB fun j hj=>?_
        by_cases y:j=c
        · simp [y]
        · have o:(L2.piv s r c).out j=s.out j:=by simp [L2.piv,y]
          have:=tk j ↥0 y
          simp only [if_neg y,o]
          grind
      generalize sq (fun j=>if j=c then 0 else((L2.piv s r c).T k j:Rat)*x ((L2.piv s r c).out j)) n=S1 at*
      generalize sq (fun j=>if j=c then 0 else(s.T k j:Rat)*x (s.out j)) n=S2 at*
      generalize sq (fun j=>if j=c then 0 else(s.T r j:Rat)*x (s.out j)) n=S3 at*
      grind
    constructor
    · intro h k hk
      by_cases z:k=r
      · subst z
        have:=h k hk
        grind
      · have a:=ek k hk z
        have h1:=h k hk
        have h2:=h r ↥0
        grind
    · intro h k hk
      have h2:=h r ↥0
      by_cases z:k=r
      · subst z;grind
      · have a:=ek k hk z
        have h1:=h k hk
        grind
end
theorem dh{a:Int}(h:0 < a):(0:Rat) < (a:Rat):=by exact_mod_cast h
theorem sI{a:Int}(h:a < 0):(a:Rat) < 0:=by exact_mod_cast h
section
variable(n m:Nat)
structure Iu (s:Tb) (c:Nat):Prop where
  hc:c < n
  neg:s.T m c < 0
  first:∀j,j < n→s.T m j < 0→s.out c≤s.out j
structure IP (s:Tb) (c r:Nat):Prop where
  hr:r < m
  pos:0 < s.T r c
  rat:∀i,i < m→0 < s.T i c→s.T r n*s.T i c≤s.T i n*s.T r c
  first:∀i,i < m→0 < s.T i c→s.T r n*s.T i c=s.T i n*s.T r c→s.win r≤s.win i
structure nB (C:Nat→Nat→Int) (st:Nat→Tb) (cs rs:Nat→Nat) (K:Nat):Prop where
  iv:∀k,k≤K→Iv n m C (st k)
  en:∀k,k < K→Iu n m (st k) (cs k)
  le:∀k,k < K→IP n m (st k) (cs k) (rs k)
  nx:∀k,k < K→st (k+1)=piv (st k) (rs k) (cs k)
def j4(s:Tb)(v:Nat):Prop:=∃k,k≤m∧s.win k=v
end
section
variable{n m:Nat}{C:Nat→Nat→Int}
def qQ(n m:Nat)(C:Nat→Nat→Int)(s:Tb)(x:Nat→Rat):Prop:=nA n m C x∧∀j,j < n→x (s.out j)=0
theorem qQ.at{s:Tb}(I:Iv n m C s){x:Nat→Rat}(h:qQ n m C s x){k:Nat}(hk:k≤m):(s.d:Rat)*x (s.win k)=(s.T k n:Rat):=by
  have:=(I.eq x).mp h.1 k hk
  rw [sQ fun j hj=>by rw [h.2 j hj];grind] at this
  grind
theorem lJ{s:Tb}(I:Iv n m C s):∃x,qQ n m C s x:=by
  classical
  let x:Nat→Rat:=fun v=>if h:∃k,k≤m∧s.win k=v then(s.T (Sr h) n:Rat) / (s.d:Rat) else 0
  have o:∀j,j < n→x (s.out j)=0:=fun j hj=>by
    show(if h:∃k,k≤m∧s.win k=s.out j then _ else _)=_
    rw [dif_neg]
    rintro⟨k,hk,e⟩
    exact I.dj j hj k hk e.symm
  have w:∀k,k≤m→x (s.win k)=(s.T k n:Rat) / (s.d:Rat):=fun k hk=>by
    have h:∃k',k'≤m∧s.win k'=s.win k:=⟨k,hk,rfl⟩
    show(if h:∃k',k'≤m∧s.win k'=s.win k then _ else _)=_
    rw [dif_pos h]
    have:=Ss h
    rw [I.wi _ this.1 k hk this.2]
  refine⟨x,(I.eq x).mpr fun k hk=>?_,o⟩
  rw [w k hk,sQ fun j hj=>by rw [o j hj];grind]
  have:=dh I.dp
  grind
theorem Iv.not{s:Tb}(I:Iv n m C s){v:Nat}(hv:v≤n+m):¬j4 m s v→∃j,j < n∧s.out j=v:=fun h=>(I.cv v hv).elim id fun z=>absurd z h
theorem Iv.nbas{s:Tb}(I:Iv n m C s){j:Nat}(hj:j < n):¬j4 m s (s.out j):=fun⟨k,hk,e⟩=>I.dj j hj k hk e.symm
theorem qQ.same{s s':Tb}(I:Iv n m C s)(I':Iv n m C s')(hb:∀v,j4 m s v↔ j4 m s' v){x:Nat→Rat}(h:qQ n m C s x):qQ n m C s' x:=by
  refine⟨h.1,fun j hj=>?_⟩
  obtain⟨j',hj',e⟩:=I.not (I'.og j hj) (fun z=>I'.nbas hj ((hb _).mp z))
  rw [←e];exact h.2 j' hj'
variable{st:Nat→Tb}{cs rs:Nat→Nat}{K:Nat}(W:nB n m C st cs rs K)
include W
theorem nB.bas_in{k:Nat}(hk:k < K){v:Nat}(h0:¬j4 m (st k) v)(h1:j4 m (st (k+1)) v):(st k).out (cs k)=v:=by
  obtain⟨l,hl,e⟩:=h1
  rw [W.nx k hk] at e
  simp only [piv] at e
  by_cases z:l=rs k
  · rw [if_pos z] at e;exact e
  · rw [if_neg z] at e;exact absurd ⟨l,hl,e⟩ h0
theorem nB.bas_out{k:Nat}(hk:k < K){v:Nat}(h0:j4 m (st k) v)(h1:¬j4 m (st (k+1)) v):(st k).win (rs k)=v:=by
  obtain⟨l,hl,e⟩:=h0
  by_cases z:l=rs k
  · rw [←z];exact e
  · refine absurd ⟨l,hl,?_⟩ h1
    rw [W.nx k hk];simp only [piv,if_neg z];exact e
theorem nB.enters:∀{b a:Nat},a≤b→b≤K→∀{v:Nat},¬j4 m (st a) v→j4 m (st b) v→∃k,a≤k∧k < b∧(st k).out (cs k)=v
  | 0,a,h,hb,v,h0,h1=>by
    have:a=0:=by lia
    subst this;exact absurd h1 h0
  | b+1,a,h,hb,v,h0,h1=>by
    by_cases z:a=b+1
    · subst z;exact absurd h1 h0
    · by_cases y:j4 m (st b) v
      · obtain⟨k,k1,k2,k3⟩:=nB.enters (b:=b) (a:=a) ↥0 ↥0 h0 y
        exact⟨k,k1,by lia,k3⟩
      · exact⟨b,by lia,by lia,W.bas_in ↥0 y h1⟩
theorem nB.leaves:∀{b a:Nat},a≤b→b≤K→∀{v:Nat},j4 m (st a) v→¬j4 m (st b) v→∃k,a≤k∧k < b∧(st k).win (rs k)=v
  | 0,a,h,hb,v,h0,h1=>by
    have:a=0:=by lia
    subst this;exact absurd h0 h1
  | b+1,a,h,hb,v,h0,h1=>by
    by_cases z:a=b+1
    · subst z;exact absurd h0 h1
    · by_cases y:j4 m (st b) v
      · exact⟨b,by lia,by lia,W.bas_out ↥0 y h1⟩
      · obtain⟨k,k1,k2,k3⟩:=nB.leaves (b:=b) (a:=a) ↥0 ↥0 h0 y
        exact⟨k,k1,by lia,k3⟩
theorem nB.gain{k:Nat}(hk:k < K):((st k).T m n:Rat) / ((st k).d:Rat)≤((st (k+1)).T m n:Rat) / ((st (k+1)).d:Rat)∧(((st k).T m n:Rat) / ((st k).d:Rat)=((st (k+1)).T m n:Rat) / ((st (k+1)).d:Rat)→(st k).T (rs k) n=0):=by
  have I:=W.iv k ↥0
  have E:=W.en k hk
  have L:=W.le k hk
  have hc:=E.hc
  have hr:=L.hr
  have a:=I.div L.hr E.hc L.pos (j:=n) (k:=m) (Ny n) (Ny m) ↥0 ↥0
  rw [←W.nx k hk] at a
  have a':((st k).d:Rat)*((st (k+1)).T m n:Rat)=((st k).T m n:Rat)*((st k).T (rs k) (cs k):Rat) - ((st k).T m (cs k):Rat)*((st k).T (rs k) n:Rat):=by exact_mod_cast a
  have d':(st (k+1)).d=(st k).T (rs k) (cs k):=by rw [W.nx k hk];rfl
  rw [d']
  have p1:=dh I.dp
  have p2:=dh L.pos
  have p3:=sI E.neg
  have p4:(0:Rat)≤((st k).T (rs k) n:Rat):=by exact_mod_cast I.fe (rs k) L.hr
  have z:((st k).T (rs k) n:Rat)=0→(st k).T (rs k) n=0:=fun h=>by exact_mod_cast h
  generalize ((st k).T (rs k) n:Rat)=R at*
  generalize ((st k).T m (cs k):Rat)=c at*
  generalize ((st k).T (rs k) (cs k):Rat)=P at*
  generalize ((st (k+1)).T m n:Rat)=M' at*
  generalize ((st k).T m n:Rat)=M at*
  generalize ((st k).d:Rat)=D at*
  have pp:=Qv p1 p2
  have key:D*P*(M' / P - M / D)=(- c)*R:=by grind
  refine⟨?_,fun e=>?_⟩
  · have h1:0≤(- c)*R:=Pw (by grind) p4
    apply Qd
    intro w
    have w':0 < M / D - M' / P:=by grind
    have:=Qv pp w'
    grind
  · apply z
    have h0:(- c)*R=0:=by rw [←key,e];grind
    grind
theorem nB.mono:∀{b a:Nat},a≤b→b≤K→((st a).T m n:Rat) / ((st a).d:Rat)≤((st b).T m n:Rat) / ((st b).d:Rat)
  | 0,a,h,hb=>by
    have:a=0:=by lia
    subst this;exact OG
  | b+1,a,h,hb=>by
    by_cases z:a=b+1
    · subst z;exact OG
    · have h1:=nB.mono (b:=b) (a:=a) ↥0 ↥0
      have h2:=(W.gain (k:=b) ↥0).1
      exact Qe h1 h2
theorem nB.bs:∀{b a:Nat},a≤b→b≤K→(∀k,a≤k→k < b→(st k).T (rs k) n=0)→∀{x:Nat→Rat},qQ n m C (st a) x→qQ n m C (st b) x
  | 0,a,h,hb,hz,x,q=>by
    have:a=0:=by lia
    subst this;exact q
  | b+1,a,h,hb,hz,x,q=>by
    by_cases z:a=b+1
    · subst z;exact q
    · have q':=nB.bs (b:=b) (a:=a) ↥0 ↥0 (fun k h1 h2=>hz k h1 ↥0) q
      refine⟨q'.1,fun j hj=>?_⟩
      rw [W.nx b ↥0]
      simp only [piv]
      split
      · have L:=W.le b ↥0
        have:=q'.at (W.iv b ↥0) (k:=rs b) (by have:=L.hr;lia)
        rw [hz b ↥0 ↥0] at this
        have p:=dh (W.iv b ↥0).dp
        simp only [QM] at this
        grind
      · exact q'.2 j hj
theorem nB.bland{i j:Nat}(hij:i < j)(hj:j≤K)(hb:∀v,j4 m (st i) v↔ j4 m (st j) v):False:=by
  classical
  have Ii:=W.iv i ↥0
  have Ij:=W.iv j hj
  obtain⟨x,hx⟩:=lJ Ii
  have hxj:=hx.same Ii Ij hb
  have pi:=dh Ii.dp
  have pj:=dh Ij.dp
  have zi:((st i).T m n:Rat) / ((st i).d:Rat)=((st j).T m n:Rat) / ((st j).d:Rat):=by
    have h1:=hx.at Ii (Ny m)
    have h2:=hxj.at Ij (Ny m)
    rw [Ii.wm] at h1;rw [Ij.wm] at h2
    grind
  have zero:∀k,i≤k→k < j→(st k).T (rs k) n=0:=fun k h1 h2=>by
    refine(W.gain (k:=k) ↥0).2 ?_
    have a:=W.mono (b:=k) (a:=i) h1 ↥0
    have b:=(W.gain (k:=k) ↥0).1
    have c:=W.mono (b:=j) (a:=k+1) ↥0 hj
    grind
  have bs:∀k,i≤k→k≤j→qQ n m C (st k) x:=fun k h1 h2=>W.bs h1 ↥0 (fun l a b=>zero l a ↥0) hx
  have lea:∀v,(∃a,i≤a∧a≤j∧j4 m (st a) v)→(∃b,i≤b∧b≤j∧¬j4 m (st b) v)→∃k,i≤k∧k < j∧(st k).win (rs k)=v:=by
    rintro v ⟨a,a1,a2,a3⟩ ⟨b,b1,b2,b3⟩
    by_cases z:j4 m (st j) v
    · obtain⟨k,k1,k2,k3⟩:=W.leaves (a:=i) (b:=b) b1 ↥0 ((hb v).mpr z) b3
      exact⟨k,k1,by lia,k3⟩
    · obtain⟨k,k1,k2,k3⟩:=W.leaves (a:=a) (b:=j) a2 hj a3 z
      exact⟨k,by lia,k2,k3⟩
  have ent:∀v,(∃a,i≤a∧a≤j∧j4 m (st a) v)→(∃b,i≤b∧b≤j∧¬j4 m (st b) v)→∃k,i≤k∧k < j∧(st k).out (cs k)=v:=by
    rintro v ⟨a,a1,a2,a3⟩ ⟨b,b1,b2,b3⟩
    by_cases z:j4 m (st j) v
    · obtain⟨k,k1,k2,k3⟩:=W.enters (a:=b) (b:=j) b2 hj b3 z
      exact⟨k,by lia,k2,k3⟩
    · obtain⟨k,k1,k2,k3⟩:=W.enters (a:=i) (b:=a) a1 ↥0 (fun y=>z ((hb v).mp y)) a3
      exact⟨k,k1,by lia,k3⟩
  have out1:∀k,k < K→¬j4 m (st (k+1)) ((st k).win (rs k)):=fun k hk=>by
    have E:=W.en k hk
    have:=(W.iv (k+1) ↥0).nbas E.hc
    rw [W.nx k hk] at this ⊢
    simpa [piv] using this
  have in1:∀k,k < K→j4 m (st (k+1)) ((st k).out (cs k)):=fun k hk=>by
    have L:=W.le k hk
    exact⟨rs k,by have:=L.hr;lia,by rw [W.nx k hk];simp [piv]⟩
  obtain⟨t,⟨p,p1,p2,p3⟩,tmax⟩:∃t,(∃k,i≤k∧k < j∧(st k).win (rs k)=t)∧∀v,(∃k,i≤k∧k < j∧(st k).win (rs k)=v)→v≤t:=by
    have gen:∀b,∀t0,(∃k,i≤k∧k < j∧(st k).win (rs k)=t0)→n+m≤t0+b→∃t,(∃k,i≤k∧k < j∧(st k).win (rs k)=t)∧∀v,(∃k,i≤k∧k < j∧(st k).win (rs k)=v)→v≤t:=by
      intro b
      induction b with
      | zero=>
        intro t0 h0 hb0
        refine⟨t0,h0,fun v ⟨k,k1,k2,k3⟩=>?_⟩
        have:=(W.iv k ↥0).wg (rs k) (by have:=(W.le k ↥0).hr;lia)
        lia
      | succ b ih=>
        intro t0 h0 hb0
        by_cases z:∀v,(∃k,i≤k∧k < j∧(st k).win (rs k)=v)→v≤t0
        · exact⟨t0,h0,z⟩
        · have⟨v,hv⟩:=Classical.not_forall.mp z
          have⟨hv1,hv2⟩:=Classical.not_imp.mp hv
          exact ih v hv1 ↥0
    exact gen (n+m) _ ⟨i,Ny i,hij,rfl⟩ ↥0
  have Ip:=W.iv p ↥0
  have Ep:=W.en p ↥0
  have Lp:=W.le p ↥0
  have tb:j4 m (st p) t:=⟨rs p,by have:=Lp.hr;lia,p3⟩
  have tn:¬j4 m (st (p+1)) t:=by rw [←p3];exact out1 p ↥0
  obtain⟨q,q1,q2,q3⟩:=ent t ⟨p,p1,by lia,tb⟩ ⟨p+1,by lia,by lia,tn⟩
  have Iq:=W.iv q ↥0
  have Eq:=W.en q ↥0
  let h:Nat→Rat:=fun v=>x v+(if v=(st p).out (cs p) then((st p).d:Rat) else if hk:∃k,k≤m∧(st p).win k=v then - ((st p).T (Sr hk) (cs p):Rat) else 0)
  have hs:h ((st p).out (cs p))=x ((st p).out (cs p))+((st p).d:Rat):=by simp [h]
  have hw:∀k,k≤m→h ((st p).win k)=x ((st p).win k) - ((st p).T k (cs p):Rat):=fun k hk=>by
    have e1:(st p).win k≠(st p).out (cs p):=fun z=>Ip.dj (cs p) Ep.hc k hk z.symm
    have e2:∃k',k'≤m∧(st p).win k'=(st p).win k:=⟨k,hk,rfl⟩
    have:=Ss e2
    have e3:=Ip.wi _ this.1 k hk this.2
    simp only [h,if_neg e1,dif_pos e2,e3]
    grind
  have ho:∀l,l < n→l≠cs p→h ((st p).out l)=x ((st p).out l):=fun l hl z=>by
    have e1:(st p).out l≠(st p).out (cs p):=fun e=>z (Ip.oi l hl (cs p) Ep.hc e)
    have e2:¬∃k,k≤m∧(st p).win k=(st p).out l:=Ip.nbas hl
    simp only [h,if_neg e1,dif_neg e2]
    grind
  have xo:nA n m C x:=hx.1
  have horig:nA n m C h:=by
    rw [Ip.eq h]
    intro k hk
    have a:=(Ip.eq x).mp xo k hk
    rw [lx Ep.hc] at a ⊢
    rw [bB (f:=fun l=>if l=cs p then 0 else((st p).T k l:Rat)*h ((st p).out l)) (g:=fun l=>if l=cs p then 0 else((st p).T k l:Rat)*x ((st p).out l)) fun l hl=>?_,hw k hk,hs]
    · grind
    · by_cases z:l=cs p
      · simp [z]
      · simp only [if_neg z,ho l hl z]
  have a1:=(Iq.eq x).mp xo m (Ny m)
  have a2:=(Iq.eq h).mp horig m (Ny m)
  have hN:h (n+m)=x (n+m) - ((st p).T m (cs p):Rat):=by
    have:=hw m (Ny m)
    rwa [Ip.wm] at this
  have dq:=dh Iq.dp
  have cp:=sI Ep.neg
  have neg:sq (fun l=>1*(((st q).T m l:Rat)*h ((st q).out l))+(-1)*(((st q).T m l:Rat)*x ((st q).out l))) n < 0:=by
    rw [mj]
    rw [Iq.wm,hN] at a2
    rw [Iq.wm] at a1
    have:=Qv dq (show(0:Rat) < - ((st p).T m (cs p):Rat) by grind)
    grind
  obtain⟨l,hl,hneg⟩:=F9 neg
  have dp:=dh Ip.dp
  have vq:¬j4 m (st q) ((st q).out l):=Iq.nbas hl
  have xq:x ((st q).out l)=0:=(bs q q1 ↥0).2 l hl
  have tq:t≤(st q).out l∨¬((st q).T m l < 0):=by
    by_cases z:(st q).T m l < 0
    · left;rw [←q3];exact Eq.first l hl z
    · exact .inr z
  have vle:(st q).out l≤n+m:=Iq.og l hl
  rcases Ip.cv _ vle with ⟨l',hl',e⟩ | ⟨k,hk,e⟩
  · by_cases z:l'=cs p
    · -- the one that enters at p
      subst z
      have hv:h ((st q).out l)=x ((st q).out l)+((st p).d:Rat):=by rw [←e];exact hs
      rw [hv] at hneg
      have tneg:(st q).T m l < 0:=by
        apply Qd
        intro w
        have w':(0:Rat)≤((st q).T m l:Rat):=by exact_mod_cast Int.not_lt.mp w
        have:=Pw w' (Qw dp)
        grind
      have t1:t≤(st q).out l:=tq.resolve_right fun w=>w tneg
      have nb:¬j4 m (st p) ((st q).out l):=by rw [←e];exact Ip.nbas Ep.hc
      have ib:j4 m (st (p+1)) ((st q).out l):=by rw [←e];exact in1 p ↥0
      have t2:=tmax _ (lea _ ⟨p+1,by lia,by lia,ib⟩ ⟨p,p1,by lia,nb⟩)
      have:(st q).out l=t:=by lia
      rw [this] at nb
      exact nb tb
    · have:=ho l' hl' z
      rw [e] at this
      rw [this] at hneg
      grind
  · have hv:h ((st q).out l)=x ((st q).out l) - ((st p).T k (cs p):Rat):=by rw [←e];exact hw k hk
    rw [hv] at hneg
    have bp:j4 m (st p) ((st q).out l):=⟨k,hk,e⟩
    have t2:=tmax _ (lea _ ⟨p,p1,by lia,bp⟩ ⟨q,q1,by lia,vq⟩)
    have pr:0 < ((st q).T m l:Rat)*((st p).T k (cs p):Rat):=by grind
    by_cases w:(st q).T m l < 0
    · have t1:t≤(st q).out l:=tq.resolve_right fun z=>z w
      have et:(st q).out l=t:=by lia
      have ek:k=rs p:=Ip.wi k hk (rs p) (by have:=Lp.hr;lia) (by rw [e,et,p3])
      subst ek
      have w':=sI w
      have:=Qv (show(0:Rat) < - ((st q).T m l:Rat) by grind) (dh Lp.pos)
      grind
    · have w0:(st q).T m l≠0:=fun z=>by
        rw [z] at pr
        simp only [QM] at pr
        grind
      have w1:(0:Rat) < ((st q).T m l:Rat):=dh ↥0
      have kpos:0 < (st p).T k (cs p):=by
        apply Qd
        intro y
        have y':(0:Rat)≤((- (st p).T k (cs p):Int):Rat):=by exact_mod_cast (show 0≤ - (st p).T k (cs p) by lia)
        have:=Pw (Qw w1) y'
        rw [Rat.intCast_neg] at this
        grind
      have hkm:k < m:=by
        have:k≠m:=fun z=>by
          subst z
          have:=Ep.neg
          lia
        lia
      have xk:=(bs p p1 ↥0).at Ip hk
      rw [e,xq] at xk
      have tk0:(st p).T k n=0:=by
        have:((st p).T k n:Rat)=0:=by grind
        exact_mod_cast this
      have f:=Lp.first k hkm kpos (by rw [zero p p1 p2,tk0];simp)
      rw [p3,e] at f
      have et:(st q).out l=t:=by lia
      have:l=cs q:=Iq.oi l hl (cs q) Eq.hc (by rw [et,q3])
      rw [this] at w
      exact w Eq.neg
end
theorem oA(p:Nat→Bool):∀L:List Nat,L.length=(L.filter p).length+(L.filter fun a=> ! p a).length
  | []=>rfl
  | a::L=>by
    have:=oA p L
    cases h:p a<;>simp [h]<;>lia
open Classical in
theorem nO(S:Nat→Nat→Prop):∀(N:Nat) (L:List Nat),L.Pairwise (fun a b=>¬∀v,v < N→(S a v↔ S b v))→L.length≤2 ^ N
  | 0,[],_=>by simp
  | 0,[_],_=>by simp
  | 0,a::b::L,h=>by
    rw [List.pairwise_cons] at h
    exact absurd (fun v hv=>by lia) (h.1 b ↥1)
  | N+1,L,h=>by
    have h1:=nO S N (L.filter fun a=>decide (S a N)) ((h.filter _).imp_of_mem fun{a b} ha hb q z=>q fun v hv=>by
      by_cases e:v=N
      · subst e
        have:=(PL.mp ha).2
        have:=(PL.mp hb).2
        simp_all
      · exact z v ↥0)
    have h2:=nO S N (L.filter fun a=> ! decide (S a N)) ((h.filter _).imp_of_mem fun{a b} ha hb q z=>q fun v hv=>by
      by_cases e:v=N
      · subst e
        have:=(PL.mp ha).2
        have:=(PL.mp hb).2
        simp_all
      · exact z v ↥0)
    have h3:=oA (fun a=>decide (S a N)) L
    rw [Nat.pow_succ]
    lia
section
variable{n m:Nat}{C:Nat→Nat→Int}
theorem nB.short{st:Nat→Tb}{cs rs:Nat→Nat}{K:Nat}(W:nB n m C st cs rs K):K < 2 ^ (n+m+1):=by
  have:=nO (fun k v=>j4 m (st k) v) (n+m+1) (Nb (K+1)) (by
    refine Su.imp_of_mem ?_
    intro a b ha hb hab z
    have hb':=NB.mp hb
    refine W.bland hab ↥0 fun v=>?_
    by_cases e:v < n+m+1
    · exact z v e
    · refine⟨fun⟨k,hk,q⟩=>?_,fun⟨k,hk,q⟩=>?_⟩
      · have:=(W.iv a ↥0).wg k hk;lia
      · have:=(W.iv b ↥0).wg k hk;lia)
  rw [PF] at this
  lia
theorem nB.more{st:Nat→Tb}{cs rs:Nat→Nat}{K c r:Nat}(W:nB n m C st cs rs K)(E:Iu n m (st K) c)(L:IP n m (st K) c r):∃st' cs' rs',nB n m C st' cs' rs' (K+1)∧st' 0=st 0∧st' (K+1)=piv (st K) r c:=by
  refine⟨fun k=>if k=K+1 then piv (st K) r c else st k,fun k=>if k=K then c else cs k,fun k=>if k=K then r else rs k,⟨fun k hk=>?_,fun k hk=>?_,fun k hk=>?_,fun k hk=>?_⟩,?_,by simp⟩
  · split
    · exact(W.iv K (Ny K)).piv L.hr E.hc L.pos L.rat
    · exact W.iv k ↥0
  · rw [if_neg ↥0]
    by_cases e:k=K
    · subst e;simpa using E
    · rw [if_neg e];exact W.en k ↥0
  · rw [if_neg ↥0]
    by_cases e:k=K
    · subst e;simpa using L
    · rw [if_neg e,if_neg e];exact W.le k ↥0
  · rw [if_neg (show k≠K+1 by lia)]
    by_cases e:k=K
    · subst e;simp
    · rw [if_neg ↥0,if_neg e,if_neg e];exact W.nx k ↥0
  · simp
theorem nB.one{s:Tb}(I:Iv n m C s):nB n m C (fun _=>s) (fun _=>0) (fun _=>0) 0:=⟨fun _ _=>I,fun _ h=>by lia,fun _ h=>by lia,fun _ h=>by lia⟩
theorem Iv.det{s:Tb}(I:Iv n m C s){j k:Nat}(hj:j≤n)(hk:k≤m):s.T k j=L2.det (m+1) (pu (fun k=>C (s.win k)) k (C (s.out j))):=by
  have a:=uX (k:=m+1) (p:=k) (c:=fun k=>C (s.win k)) (v:=C (s.out j)) (s:=s.d) (t:=fun k=>s.T k j) ↥0 (I.cl j hj)
  rw [I.dt] at a
  have:=I.dp
  refine(Int.eq_of_mul_eq_mul_left (a:=s.d) ↥0 ?_).symm
  rw [a,Pc]
theorem Iv.small{s:Tb}(I:Iv n m C s){B:Nat}(hB:∀a i,(C a i).natAbs≤B):s.d.natAbs≤wu (m+1)*B ^ (m+1)∧∀j,j≤n→∀k,k≤m→(s.T k j).natAbs≤wu (m+1)*B ^ (m+1):=by
  refine⟨?_,fun j hj k hk=>?_⟩
  · rw [←I.dt];exact rm fun a i=>hB _ _
  · rw [I.det hj hk]
    refine rm fun a i=>?_
    unfold pu;split<;>exact hB _ _
def pC(n m:Nat)(C:Nat→Nat→Int):Tb where
  T:=fun i j=>if j=n then C (n+m+1) i else C j i
  d:=1
  out:=fun j=>if j=n then n+m+1 else j
  win:=fun k=>n+k
theorem Kh(he:∀k,k≤m→∀i,C (n+k) i=if i=k then 1 else 0)(hz:∀a i,m < i→C a i=0)(hb:∀i,i < m→0≤C (n+m+1) i):Iv n m C (pC n m C):=by
  have hid:∀(k:Nat) (c:Nat→Nat→Int),(∀a,a < k→∀i,c a i=if i=a then 1 else 0)→L2.det k c=1:=by
    intro k
    induction k with
    | zero=>intro c _;rfl
    | succ k ih=>
      intro c h
      rw [L2.det,vN (p:=0) ↥0]
      · rw [h 0 ↥0 0,ih]
        · rfl
        · intro a ha i
          rw [show sk 0 a=a+1 by simp [sk],h (a+1) ↥0]
          simp
      · intro j hj e
        rw [h j hj 0,if_neg ↥0];simp
  refine⟨Rl,?_,?_,?_,rfl,?_,?_,?_,?_,?_,?_,?_,?_⟩
  · intro j hj i
    have key:∀(u:Nat→Int),(∀i,m < i→u i=0)→(1:Int)*u i=sm (fun k=>u k*C (n+k) i) (m+1):=by
      intro u hu
      by_cases e:i≤m
      · rw [vN (p:=i) ↥0 fun k hk z=>?_]
        · rw [he i e i,if_pos rfl];lia
        · rw [he k ↥0 i,if_neg (fun y=>z y.symm)];simp
      · rw [hu i ↥0,sP fun k hk=>?_]
        · rfl
        · rw [he k ↥0 i,if_neg ↥0];simp
    simp only [pC]
    by_cases e:j=n
    · simp only [if_pos e];exact key _ fun i hi=>hz _ i hi
    · simp only [if_neg e];exact key _ fun i hi=>hz _ i hi
  · exact hid (m+1) _ fun a ha i=>he a ↥0 i
  · intro i hi;simp only [pC,if_true];exact hb i hi
  · simp [pC]
  · intro j hj j' hj' e;simp only [pC] at e;rw [if_neg ↥0,if_neg ↥0] at e;exact e
  · intro k hk k' hk' e;simp only [pC] at e;lia
  · intro j hj k hk e;simp only [pC] at e;rw [if_neg ↥0] at e;lia
  · intro v hv
    by_cases e:v < n
    · exact .inl ⟨v,e,by simp only [pC];rw [if_neg ↥0]⟩
    · exact .inr ⟨v - n,by lia,by simp only [pC];lia⟩
  · intro j hj;simp only [pC];rw [if_neg ↥0];lia
  · intro k hk;simp only [pC];lia
  · intro x
    refine⟨fun h k hk=>?_,fun h k hk=>?_⟩
    · have:=h k hk
      simp only [pC,if_true]
      rw [bB (g:=fun j=>(C j k:Rat)*x j) fun j hj=>by rw [if_neg ↥0,if_neg ↥0]]
      simp only [RK]
      grind
    · have:=h k hk
      simp only [pC,if_true] at this
      rw [bB (g:=fun j=>(C j k:Rat)*x j) fun j hj=>by rw [if_neg ↥0,if_neg ↥0]] at this
      simp only [RK] at this
      grind
theorem Iv.top{s:Tb}(I:Iv n m C s)(h:∀j,j < n→0≤s.T m j){x:Nat→Rat}(o:nA n m C x)(hx:∀v,v < n+m→0≤x v):x (n+m)≤(s.T m n:Rat) / (s.d:Rat):=by
  have a:=(I.eq x).mp o m (Ny m)
  rw [I.wm] at a
  have p:=dh I.dp
  have q:0≤sq (fun j=>(s.T m j:Rat)*x (s.out j)) n:=qI fun j hj=>Pw (by exact_mod_cast h j hj) (hx _ (by
    have:=I.og j hj
    have:=I.dj j hj m (Ny m)
    rw [I.wm] at this
    lia))
  apply Qd
  intro c
  have c':0 < x (n+m) - (s.T m n:Rat) / (s.d:Rat):=by grind
  have:=Qv p c'
  have e:(s.d:Rat)*(x (n+m) - (s.T m n:Rat) / (s.d:Rat))=(s.d:Rat)*x (n+m) - (s.T m n:Rat):=by
    have:(s.d:Rat)≠0:=by grind
    generalize (s.d:Rat)=D at*
    generalize (s.T m n:Rat)=M at*
    generalize x (n+m)=X at*
    grind
  grind
theorem Iv.leave{s:Tb}(I:Iv n m C s){c:Nat}(hc:c < n)(hn:s.T m c < 0){B:Rat}(hB:∀x,nA n m C x→(∀v,v < n+m→0≤x v)→x (n+m)≤B):∃i,i < m∧0 < s.T i c:=by
  apply Qd
  intro no
  have no':∀i,i < m→s.T i c≤0:=fun i hi=>Int.not_lt.mp fun z=>no ⟨i,hi,z⟩
  obtain⟨x,hx⟩:=lJ I
  have dp:=dh I.dp
  have cn:=sI hn
  classical
  have ray:∀u:Rat,0≤u→(x (n+m)+u*(- (s.T m c:Rat)))≤B:=by
    intro u hu
    let h:Nat→Rat:=fun v=>x v+(if v=s.out c then u*(s.d:Rat) else if hk:∃k,k≤m∧s.win k=v then - (u*(s.T (Sr hk) c:Rat)) else 0)
    have hs:h (s.out c)=x (s.out c)+u*(s.d:Rat):=by simp [h]
    have hw:∀k,k≤m→h (s.win k)=x (s.win k) - u*(s.T k c:Rat):=fun k hk=>by
      have e1:s.win k≠s.out c:=fun z=>I.dj c hc k hk z.symm
      have e2:∃k',k'≤m∧s.win k'=s.win k:=⟨k,hk,rfl⟩
      have:=Ss e2
      have e3:=I.wi _ this.1 k hk this.2
      simp only [h,if_neg e1,dif_pos e2,e3]
      grind
    have ho:∀l,l < n→l≠c→h (s.out l)=x (s.out l):=fun l hl z=>by
      have e1:s.out l≠s.out c:=fun e=>z (I.oi l hl c hc e)
      have e2:¬∃k,k≤m∧s.win k=s.out l:=I.nbas hl
      simp only [h,if_neg e1,dif_neg e2]
      grind
    have horig:nA n m C h:=by
      rw [I.eq h]
      intro k hk
      have a:=(I.eq x).mp hx.1 k hk
      rw [lx hc] at a ⊢
      rw [bB (f:=fun l=>if l=c then 0 else(s.T k l:Rat)*h (s.out l)) (g:=fun l=>if l=c then 0 else(s.T k l:Rat)*x (s.out l)) fun l hl=>?_,hw k hk,hs]
      · grind
      · by_cases z:l=c
        · simp [z]
        · simp only [if_neg z,ho l hl z]
    have r:=hB h horig fun v hv=>by
      rcases I.cv v ↥0 with ⟨j,hj,e⟩ | ⟨k,hk,e⟩
      · subst e
        by_cases z:j=c
        · subst z
          rw [hs,hx.2 j hj]
          have:=Pw hu (Qw dp)
          grind
        · rw [ho j hj z,hx.2 j hj];exact OG
      · subst e
        rw [hw k hk]
        have hkm:k < m:=by
          have:k≠m:=fun z=>by subst z;rw [I.wm] at hv;lia
          lia
        have e1:=hx.at I hk
        have f:(0:Rat)≤(s.T k n:Rat):=by exact_mod_cast I.fe k hkm
        have x0:0≤x (s.win k):=by
          apply Qd
          intro w
          have:=Qv dp (show 0 < - x (s.win k) by grind)
          grind
        have t0:(0:Rat)≤ - (s.T k c:Rat):=by
          have:(s.T k c:Rat)≤0:=by exact_mod_cast no' k hkm
          grind
        have:=Pw hu t0
        grind
    have:=hw m (Ny m)
    rw [I.wm] at this
    rw [this] at r
    grind
  have k:=ray ((B - x (n+m)+1) / (- (s.T m c:Rat))) (by
    have b0:=ray 0 OG
    rw [Rat.div_def]
    refine Pw (by grind) ?_
    have:(0:Rat) < (- (s.T m c:Rat))⁻¹:=Rat.inv_pos.mpr (by grind)
    grind)
  have:(B - x (n+m)+1) / (- (s.T m c:Rat))*(- (s.T m c:Rat))=B - x (n+m)+1:=by grind
  grind
end
open PySem PySem.Spec PyProof.Rows PySem.W
section
variable{prog:Nk}{w:Ng}{A:Nn}{R:Result→MZ→Prop}
theorem wO:(toString "min"++toString ".loop":String)="min.loop":=by decide
structure GF (I l S:MW) (vs:List MX) (rs:List (List Int)) (j:Nat) (arr:Array MX) (c:Nat) (h:Nh):Prop where
  it:h.IsListIter I l j
  ls:h.IsList l vs.toArray
  ro:∀(i:Nat) (r:List Int),rs[i]?=some r→∃v,vs[i]?=some v∧xF h v r
  sc:h.get? S=some {cls:=.type "list",dict:=none,data:=.seq arr c,slots:=#[]}
def IR(vs:List MX)(rs:List (List Int))(j:Nat)(arr:Array MX):Prop:=
  (j=0∧arr=#[])∨∃(b:Nat) (v:MX),b < j∧vs[b]?=some v∧arr=#[v,v]∧∀i,i < j→HT.lexLt (rs.getD i []) (rs.getD b [])=false
theorem dN:∀(r t:List Int),HT.lexLt r t=decide (r < t)
  | [],[]=>by simp [HT.lexLt]
  | [],_::_=>by simp [HT.lexLt]
  | _::_,[]=>by simp [HT.lexLt]
  | a::r,b::t=>by
    unfold HT.lexLt
    by_cases c:a=b
    · rw [if_pos c,dN r t];subst c;simp [Sx]
    · rw [if_neg c];simp [Sx,c]
theorem Hh{I l S:MW}{vs:List MX}{rs:List (List Int)}(hh:A.in1.handled=none)(hu:A.in1.units < cLine)(hIl:l≠I)(hSI:S≠I)(hSl:S≠l)(hvr:vs.length=rs.length)(hpos:0 < rs.length)
    {s0:MZ}(hrS:∀(i:Nat) (v:MX),vs[i]?=some v→v≠.ref S∧v≠.ref I):
    ∀(k j:Nat) (s:MZ) (arr:Array MX) (c:Nat),j+k=rs.length→GF I l S vs rs j arr c s.heap→IR vs rs j arr→
    (∀(b:Nat) (v:MX) (h':Nh) (tk:Nat),b < rs.length→vs[b]?=some v→(∀i,i < rs.length→HT.lexLt (rs.getD i []) (rs.getD b [])=false)→(∀b o,b≠I→b≠S→s.heap.get? b=some o→h'.get? b=some o)→R (.ok (.ret v)) {s with heap:=h',toks:=tk})→
    codeAny (Ni prog w) A (.builtin "min.loop" ⟨[.ref I,.none,.ref S],[]⟩) R s:=by
  have W:=Walks.list (prog:=prog) (w:=w) (A:=A.in1) hh I l hIl vs.toArray
  have hsz:vs.toArray.size=rs.length:=by simp [hvr]
  intro k
  induction k with
  | zero=>
    intro j s arr c hk M B q
    refine codeAny_builtin F.entry_min_loop ?_
    rw [Around.under_plainId QN _]
    refine Nc (m:=seqItems? (.ref S)) (Pu M.sc rfl ?_)
    rcases B with ⟨rfl,_⟩ | ⟨b,v,b1,b2,rfl,b3⟩
    · lia
    refine Nc (m:=tryCatch (OJ (.ref I)) _) (wpAny_tryCatch (W.done s _ _ ⟨by rw [hsz,←hk];exact M.it,M.ls⟩ fun h' tk kp=>?_))
    have sc':=kp S _ (by simp [hSI]) M.sc
    refine Nc (m:=updateSeq S (fun _=>#[])) (wpAny_updateSeq sc' rfl (Nc (Qu (Nm ?_))))
    exact q b v _ tk ↥0 b2 (fun i hi=>b3 i ↥0) fun x o x1 x2 e=>(Ql _ _ (NF x2)).trans (kp x o (by simp [x1]) e)
  | succ k ih=>
    intro j s arr c hk M B q
    have hj:j < rs.length:=by lia
    refine codeAny_builtin F.entry_min_loop ?_
    rw [Around.under_plainId QN _]
    refine Nc (m:=seqItems? (.ref S)) (Pu M.sc rfl ?_)
    refine Nc (m:=tryCatch (OJ (.ref I)) _) (wpAny_tryCatch (W.item j s _ _ (by rw [hsz];exact hj) ⟨M.it,M.ls⟩ fun v h' tk hv st' kp=>?_))
    have hv':vs[j]?=some v:=by simpa using hv
    have sc':=kp S _ (by simp [hSI]) M.sc
    have ro':∀(i:Nat) (r:List Int),rs[i]?=some r→∃v,vs[i]?=some v∧xF h' v r:=fun i r hr=>by
      obtain⟨u,u1,u2⟩:=M.ro i r hr
      obtain⟨a,o,xs,n,rfl,e2,e3⟩:=u2
      exact⟨_,u1,a,o,xs,n,rfl,kp a o (by simp;intro z;exact(hrS i _ u1).2 (by rw [z])) e2,e3⟩
    have wr:∀(arr':Array MX),∃c',GF I l S vs rs (j+1) arr' c' (h'.update S (Qk fun _=>arr')):=fun arr'=>by
      refine⟨_,st'.1.at fun o e=>(Ql _ _ hSI).trans e,st'.2.at fun o e=>(Ql _ _ hSl).trans e,fun i r hr=>?_,RY _ sc' rfl⟩
      obtain⟨u,u1,u2⟩:=ro' i r hr
      obtain⟨a,o,xs,n,rfl,e2,e3⟩:=u2
      exact⟨_,u1,a,o,xs,n,rfl,(Ql _ _ (fun z=>(hrS i _ u1).1 (by rw [z]))).trans e2,e3⟩
    have wq:∀(arr':Array MX),∀(b:Nat) (v:MX) (h2:Nh) (tk2:Nat),b < rs.length→vs[b]?=some v→(∀i,i < rs.length→HT.lexLt (rs.getD i []) (rs.getD b [])=false)→(∀b o,b≠I→b≠S→(h'.update S (Qk fun _=>arr')).get? b=some o→h2.get? b=some o)→R (.ok (.ret v)) {s with heap:=h2,toks:=tk2}:=fun arr' b v h2 tk2 b1 b2 b3 b4=>
      q b v h2 tk2 b1 b2 b3 fun x o x1 x2 e=>b4 x o x1 x2 ((Ql _ _ (NF x2)).trans (kp x o (by simp [x1]) e))
    rcases B with ⟨rfl,rfl⟩ | ⟨b,u,b1,b2,rfl,b3⟩
    · -- the first item
      refine Nc (m:=updateSeq S (fun _=>#[v,v])) (wpAny_updateSeq sc' rfl ?_)
      rw [wO]
      exact Nm ⟨plainId_quiet QN _,ih 1 _ _ _ ↥0 (wr _).choose_spec (.inr ⟨0,v,by lia,hv',rfl,fun i hi=>by
        have:i=0:=by lia
        subst this
        rw [dN];exact decide_eq_false (RL _)⟩) (wq _)⟩
    · obtain⟨rj,ej⟩:∃r,rs[j]?=some r:=⟨_,NL hj⟩
      obtain⟨rb,eb⟩:∃r,rs[b]?=some r:=⟨_,NL ↥0⟩
      obtain⟨vj,y1,aj,oj,xj,nj,rfl,y2,y3,y4,y5⟩:=ro' j rj ej
      obtain⟨vb,z1,ab,ob,xb,nb,rfl,z2,z3,z4,z5⟩:=ro' b rb eb
      rw [hv'] at y1;cases y1
      rw [b2] at z1;cases z1
      have gj:rs.getD j []=rj:=by simp [Pf,ej]
      have gb:rs.getD b []=rb:=by simp [Pf,eb]
      show Nf _ A.in1 (tryCatch (NY [.ref aj,.ref aj] (richCompare .Lt (.ref aj) (.ref ab) >>= _)) _ >>= _) _ _ _
      refine Nc (wpAny_tryCatch (Pm (Nc (?_:Nf _ _ (NU .Lt (.ref aj) (.ref ab)) _ _ _))))
      refine HT.lt_tupInts (items:=xj.toArray) (items2:=xb.toArray) ⟨oj,y2,y3,nj,y4⟩ ⟨ob,z2,z3,nb,z4⟩ y5 z5 hu ?_
      refine Nc (Pm (QA ?_))
      refine Nc (Qu (Nm ?_))
      cases hb:HT.lexLt rj rb with
      | true=>
        simp only [if_true]
        refine Nc (m:=updateSeq S _) (wpAny_updateSeq sc' rfl (Nc (Qu ?_)))
        rw [wO]
        refine Nm ⟨plainId_quiet QN _,ih (j+1) _ _ _ ↥0 (wr _).choose_spec (.inr ⟨j,_,by lia,hv',rfl,fun i hi=>?_⟩) (wq _)⟩
        rw [gj]
        by_cases e:i=j
        · subst e;rw [gj,dN];exact decide_eq_false (RL _)
        · have h1:=b3 i ↥0
          rw [gb,dN] at h1
          rw [dN] at hb ⊢
          simp only [decide_eq_false_iff_not,decide_eq_true_eq,List.not_lt] at*
          exact List.le_trans (List.le_of_lt hb) h1
      | false=>
        simp only [Ry,if_false]
        refine Nc (Qu ?_)
        rw [wO]
        refine Nm ⟨plainId_quiet QN _,ih (j+1) _ _ c ↥0 ⟨st'.1,st'.2,ro',sc'⟩ (.inr ⟨b,_,by lia,b2,rfl,fun i hi=>?_⟩) fun b v h2 tk2 c1 c2 c3 c4=>q b v h2 tk2 c1 c2 c3 fun x o x1 x2 e=>c4 x o x1 x2 (kp x o (by simp [x1]) e)⟩
        by_cases e:i=j
        · subst e;rw [gj,gb];exact hb
        · exact b3 i ↥0
theorem xK{E:MX→MZ→Prop}{s:MZ}{l:MW}{vs:List MX}{rs:List (List Int)}{Q:MX→MZ→Prop}(hh:A.handled=none)(hu:A.in1.units < cLine)(hl:s.heap.IsList l vs.toArray)(hvr:vs.length=rs.length)(hpos:0 < rs.length)
    (hro:∀(i:Nat) (r:List Int),rs[i]?=some r→∃v,vs[i]?=some v∧xF s.heap v r)
    (h:∀(b:Nat) (v:MX) (h':Nh) (tk:Nat),b < rs.length→vs[b]?=some v→(∀i,i < rs.length→HT.lexLt (rs.getD i []) (rs.getD b [])=false)→(∀b o,s.heap.get? b=some o→h'.get? b=some o)→Q v {s with heap:=h',toks:=tk}):
    Nf (Ni prog w) A (call (.builtin "min") [.ref l]) Q E s:=by
  refine call_function_tree F.kind_min F.plain_min F.entry_min (F.args_min1 _) ?_
  refine Nc (m:=SN "min" ["key","default"] 0 ⟨[],[]⟩) (wpAny_of_eq (show SN "min" ["key","default"] 0 ⟨[],[]⟩=pure [none,none] from rfl) (Nc (Nm (Nc (wpAny_pyIter_list hl (Nc (Ow ?_)))))))
  rw [wO]
  have hlt:l < ↑s:=by obtain⟨_,e,_⟩:=hl;exact Nu e
  have kp:∀b o,s.heap.get? b=some o→((s.heap.push {cls:=.type "list_iterator",data:=.fields #[.ref l,.int 0 0]}).push {cls:=.type "list",data:=.seq #[]}).get? b=some o:=fun b o e=>Nz _ (Nz _ e)
  have z1:(s.heap.push {cls:=.type "list_iterator",data:=.fields #[.ref l,.int 0 0]}).objs.size=↑s+1:=Oo ..
  have tup:∀(i:Nat) (v:MX),vs[i]?=some v→∃a,v=.ref a∧a < ↑s:=fun i v hv=>by
    have hi:=(MR hv).1
    obtain⟨u,u1,a,o,xs,n,rfl,e2,_⟩:=hro i rs[i] (NL ↥0)
    rw [hv] at u1;cases u1
    exact⟨a,rfl,Nu e2⟩
  refine Nm ⟨plainId_quiet QN _,Hh (I:=↑s) (l:=l) (S:=(s.heap.push {cls:=.type "list_iterator",data:=.fields #[.ref l,.int 0 0]}).objs.size) (vs:=vs) (rs:=rs) hh hu (NJ hlt) (by rw [z1];exact Nat.succ_ne_self _) (by rw [z1];exact QR (RI hlt)) hvr hpos (s0:=s) (fun i v hv=>?_) rs.length 0 _ #[] 0 ↥0 ⟨?_,hl.at fun o e=>kp l o e,fun i r hr=>?_,Oj _ rfl⟩ (.inl ⟨rfl,rfl⟩) fun b v h' tk b1 b2 b3 b4=>h b v h' tk b1 b2 b3 fun x o e=>b4 x o (NJ (Nu e)) (by rw [z1];exact NJ (RI (Nu e))) (kp x o e)⟩
  · obtain⟨a,rfl,ha⟩:=tup i v hv
    refine⟨fun z=>?_,fun z=>?_⟩
    · injection z with z;rw [z1] at z;exact NJ (RI ha) z
    · injection z with z;exact NJ ha z
  · exact⟨_,Nz _ (Oj _ rfl),rfl,rfl⟩
  · obtain⟨v,v1,v2⟩:=hro i r hr
    exact⟨v,v1,v2.kept kp⟩
end
section
variable{X:Cx}{K:⇑0}
def D8(K:⇑0):List V→Hp→VK→Prop:=fun xs H Q=>∃(l:MW) (us:List V) (rs:List (List Int)),xs=[.ref l]∧gC K H l us∧GJ K H us rs∧0 < rs.length∧∀(b:Nat) (v:V),us[b]?=some v→b < rs.length→(∀i,i < rs.length→HT.lexLt (rs.getD i []) (rs.getD b [])=false)→Q v H
theorem xJ{k:Nat}(hc:X.calm=true)(hr:dI k X.A):fZ X (.builtin "min") (D8 X.K):=by
  intro pins s σ H xs us0 Q I r h
  obtain⟨a,us,rs,rfl,hs,⟨ul,hrr⟩,hpos,q⟩:=h
  obtain⟨u,rfl,ru⟩:=se r
  cases ru
  obtain⟨its,rv,p0,hz⟩:=I.list hs
  have hl:=rv.length
  refine xK (I.ok.hd hc) (G3 hr) p0.isList ↥0 hpos (fun i r e=>?_) fun b v h' tk b1 b2 b3 kp=>?_
  · obtain⟨p,h1,h2⟩:=hrr i r e
    obtain⟨v,h3,h4⟩:=rv.get h1
    obtain⟨xs,rx,⟨o,h5,h6,n,h7⟩,_⟩:=I.tuple h2
    exact⟨v,h3,p,o,xs,n,h4,h5,h6,h7,vm rx⟩
  · obtain⟨v',h3,h4⟩:=rv.get (i:=b) (x:=us[b]'↥0) (NL ↥0)
    rw [b2] at h3;cases h3
    exact⟨_,H,I.kept kp,h4,q b _ (NL ↥0) b1 b3⟩
def nW:En→Rv→Option Rv:=fun e x=>match eX e x with
  | some (true,ds)=>(l9 ds).bind fun rs=>(rs.find? fun r=>rs.all fun t=> !(HT.lexLt t r)).map fun r=>.d (jp r)
  | _=>none
theorem Cc{r t:List Int}(h1:HT.lexLt r t=false)(h2:HT.lexLt t r=false):r=t:=by
  rw [dN] at h1 h2
  simp only [decide_eq_false_iff_not,List.not_lt] at h1 h2
  exact List.le_antisymm h2 h1
theorem EW:fH K (D8 K) (g1 nW):=iH fun σ H0 F H e x z v Q R A hg q=>by
  unfold nW at hg
  split at hg
  case h_2=>cases hg
  case h_1 ds h1=>
  obtain⟨rs,h2,hg⟩:=MP hg
  obtain⟨r,h3,hg⟩:=MQ hg
  cases hg
  obtain⟨l,ws,rfl,d1,s1⟩:=dw R A h1
  obtain⟨e1,e2⟩:=qt h2
  subst e1
  have hw:ws.length=rs.length:=by rw [←d1.len,Nw]
  have hmem:=RJ h3
  have hmin:=List.find?_some h3
  refine⟨l,ws,rs,rfl,s1,⟨hw,fun i r hr=>?_⟩,List.length_pos_of_mem hmem,fun b v hv hb hall=>?_⟩
  · obtain⟨v,v1,v2⟩:=d1.get (i:=i) (d:=jp r) (by rw [NH,hr];rfl)
    obtain⟨p,xs,rfl,t1,t2⟩:=cq.mp v2
    rw [aT.ints.mp t2] at t1
    exact⟨p,v1,R.sm.tup t1⟩
  · obtain⟨v',v1,v2⟩:=d1.get (i:=b) (d:=jp (rs[b])) (by rw [NH,NL hb];rfl)
    rw [hv] at v1;cases v1
    have hg:rs.getD b []=rs[b]:=by simp [Pf,hb]
    have:rs[b]=r:=by
      refine Cc ?_ ?_
      · have:=OQ.mp hmin rs[b] (Rh hb)
        simpa using this
      · obtain⟨i,hi⟩:=Sk hmem
        have hi2:=(MR hi).1
        have:=hall i hi2
        rw [hg] at this
        simpa [Pf,hi] using this
    rw [this] at v2
    exact q F H _ (e_.refl _ _ _ _) R v2
theorem Et{k:Nat}(hc:X.calm=true)(hK:X.K=K)(hr:dI k X.A):pK X K "min" (g1 nW):=⟨.inl ⟨_,_,hK ▸ xJ hc hr,EW,PyProof.Rows.boot_min⟩⟩
def uL(f:FE):FT:=fun e=>(f e).bind fun p=>(eX p.2 p.1).map fun z=>(!z.2.isEmpty,p.2)
theorem FK{e:Na}{fa:FE}(hK:X.K=K)(h:PE X e (fE K fa))(he:∀whole,isTrue e X.env whole=(do let v ←whole;Pk e.pos;NY [v] (truthy v))):PT X e (fT K (uL fa)):=by
  subst hK
  refine fun pins s σ H Q I q=>AS h he pins s σ H Q I ?_
  obtain⟨F,e0,b,e',R,hf,k⟩:=q
  unfold uL at hf
  obtain⟨⟨r,e1⟩,c1,hf⟩:=MP hf
  obtain⟨⟨z,xs⟩,c2,hf⟩:=MQ hf
  cases hf
  refine⟨F,e0,r,_,R,c1,fun F1 H1 v X1 R1 A1=>?_⟩
  obtain⟨p,vs,rfl,d1,s1⟩:=dw R1 A1 c2
  have hl:=d1.len
  have ee:xs.isEmpty=vs.isEmpty:=by cases xs<;>cases vs<;>simp_all
  refine⟨!xs.isEmpty,?_,k F1 H1 X1 R1⟩
  show(∃xs',gC X.K H1 p xs'∧_)∨(∃xs',dz X.K H1 p xs'∧_)∨_
  cases z with
  | true=>exact .inl ⟨vs,s1,by rw [ee]⟩
  | false=>exact .inr (.inl ⟨vs,s1,by rw [ee]⟩)
end
section
variable{X:Cx}{K:⇑0}{x y:Str}{p p2 pos:Pos}{i j:Nat}{a c:Na}
def Au(e:En)(j:Nat):Option (List MY):=match e[j]? with
  | some (some (.l xs))=>some xs
  | _=>none
theorem Av{e:En}{j:Nat}{xs:List MY}(h:Au e j=some xs):e[j]?=some (some (.l xs)):=by
  unfold Au at h
  split at h
  · rename_i q;cases h;exact q
  · cases h
def sL(i j:Nat):FS:=fun e=>(jk e i).bind fun xss=>(Au e j).bind fun ys=>if xss.length < 1000000 then some (.nx ((e.set j none).set i (some (.n (xss++[ys]))))) else none
theorem AZ{apos cpos:Pos}(hK:X.K=K)(hij:i≠j)(hN:X.N[i]?=some x)(hv:yO X.env.scope x)(hd:(x==("__debug__":Str))=false)(hcd:(x==("__classdict__":Str))=false)
    (hN2:X.N[j]?=some y)(hv2:yO X.env.scope y)(hd2:(y==("__debug__":Str))=false)(hcd2:(y==("__classdict__":Str))=false)(hst:QG (.Name y p2)=false)
    (hbase:Qn (.Name x p) "append" X.env (Nj (.Name x p) X.env)=Nj (.Name x p) X.env)
    (hfew:((NO cpos (Nl [.Name y p2] X.env)).all (fun x=> !x.1)&&(backToKw cpos (Qo [] X.env)).all (fun x=>x.1.isSome)
      &&decide ([(.Name y p2:Na)].length+([]:List Oe).length+(if ([]:List Oe).isEmpty then 0 else 1) < 30))=true)
    (hline:(apos.endLine==cpos.line)=true)(hs:Nl [.Name y p2] X.env=(false,Nj (.Name y p2) X.env)::Nl [] X.env)(hplain:(NO cpos (Nl [] X.env)).any (·.1)=false)
    (hsw:PN (.Call (.Attribute (.Name x p) "append" apos) [.Name y p2] [] cpos) none pos.line X.env=pure false):
    PS X (.Expr (.Call (.Attribute (.Name x p) "append" apos) [.Name y p2] [] cpos) pos) (fS K (sL i j) []):=by
  subst hK
  refine(wR (D2 PySem.F.plainAttrs_list Sa PySem.F.type_list_append lZ (iR hN hv hd hcd) (CK (iR hN2 hv2 hd2 hcd2) si hst) hbase hfew hline hs hplain) hsw).mono fun D σ H h=>?_
  obtain⟨F,e,fl,R,hf,q⟩:=h
  unfold sL at hf
  obtain⟨xss,h0,hf⟩:=MP hf
  obtain⟨ys,h1,hf⟩:=MP hf
  split at hf
  case isFalse=>cases hf
  case isTrue hlen=>
  cases hf
  have g0:=fW h0
  have g1:=Av h1
  obtain⟨l,bs,c1,c2,c3,c4,c5,c6,c7⟩:=R.nst i xss g0
  obtain⟨t,us,t1,t2,t3,t4⟩:=R.own j ys g1
  have ft:Fp σ e H j t:=.inl ⟨ys,g1,t1⟩
  have fi:∀z,z=l∨z∈bs→Fp σ e H i z:=fun z h=>.inr ⟨xss,l,bs,g0,c1,c3,h⟩
  have tl:t≠l:=fun z=>hij (R.fp i j t (fi t (.inl z)) ft)
  have tb:t∉bs:=fun z=>hij (R.fp i j t (fi t (.inr z)) ft)
  have sl:Nr=16777216:=Om
  have R0:=R.drop j
  have g0':(e.set j none)[i]?=some (some (.n xss)):=by rw [NG (NF hij)];exact g0
  have nt:¬cN σ (e.set j none) H t:=fun⟨k,hk⟩=>by
    have:=R.fp k j t hk.drop ft
    subst this
    rcases hk with ⟨xs,q1,_⟩ | ⟨_,_,_,q1,_⟩<;>
    · rw [Pv] at q1
      split at q1
      · split at q1<;>cases q1
      · exact absurd rfl ‹¬k=k›
  refine⟨_,c1,.inl ⟨rfl,_,.inl (.inl c3)⟩,_,t1,⟨l,_,_,rfl,rfl,c3,by rw [Nw,c4];lia,?_⟩⟩
  have em:bs.map V.ref++[V.ref t]=(bs++[t]).map V.ref:=by simp
  rw [em]
  obtain⟨R2,o2,s2⟩:=R0.putN (yss:=xss++[ys]) (bs:=bs++[t]) (H':=bC H l (.lst ((bs++[t]).map V.ref))) g0' c1 c2 ay (by simp [c4]) (by
      rw [List.nodup_append]
      exact⟨c5,by simp,fun x hx y hy=>by simp at hy;subst hy;exact fun z=>tb (z ▸ hx)⟩) (by simp [c6,NF tl]) (fun k b zs q1 q2=>by
      rw [List.getElem?_append] at q1 q2
      rw [c4] at q1
      by_cases hk:k < xss.length
      · rw [if_pos hk] at q1 q2
        obtain⟨d1,us',d2,d3⟩:=c7 k b zs q1 q2
        have zb:b≠l:=fun z=>c6 (z ▸ MV q1)
        exact⟨d1,us',by rw [aA zb];exact d2,d3⟩
      · rw [if_neg hk] at q1 q2
        have hk0:k - xss.length=0:=by
          have:=(MR q1).1
          simp at this;lia
        rw [hk0] at q1 q2
        simp at q1 q2
        subst q1 q2
        exact⟨t2,us,by rw [aA tl];exact t3,t4⟩)
    (fun b hb=>by
      rcases MS hb with hb | hb
      · exact .inl (.inr ⟨xss,l,bs,g0',c1,c3,.inr hb⟩)
      · simp at hb;subst hb;exact .inr nt)
    (fun z q=>by
      by_cases e0:z=l
      · rw [e0,ay] at q;cases q
      · rw [aA e0] at q;exact q)
    (fun z o q n1 _=>by rw [aA n1];exact q) (fun z vs q=>by
      by_cases e0:z=l
      · rw [e0];exact⟨_,ay⟩
      · rw [aA e0];exact⟨vs,q⟩)
  refine q F _ σ ⟨aG.refl _,fun z q=>?_,fun _ _ h _ _=>h,fun z vs h=>?_,fun z o h n=>?_,fun z h=>?_,fun _ _=>rfl,fun _ _ h _ _=>h⟩ R2
  · by_cases e0:z=l
    · rw [e0,ay] at q;cases q
    · rw [aA e0] at q;exact q
  · by_cases e0:z=l
    · rw [e0];exact⟨_,ay⟩
    · rw [aA e0];exact⟨vs,h⟩
  · have e0:z≠l:=fun e0=>n ⟨i,fi z (.inl e0)⟩
    rw [aA e0];exact h
  · rcases o2 z h with w | w
    · exact .inl w.drop
    · rcases MS w with w | w
      · exact .inl ⟨i,fi z (.inr w)⟩
      · simp at w;subst w;exact .inl ⟨j,ft⟩
theorem qq{t:MW}:∀{bs:List MW} {n:Nat},bs.Nodup→t∉bs→(bs.set n t).Nodup
  | [],_,_,_=>by simp
  | b::bs,0,h,ht=>by
    rw [OY] at h
    simp only [List.set_cons_zero,OY]
    exact⟨fun z=>ht (NT _ z),h.2⟩
  | b::bs,n+1,h,ht=>by
    rw [OY] at h
    simp only [List.set_cons_succ,OY]
    refine⟨fun z=>?_,qq h.2 fun z=>ht (NT _ z)⟩
    rcases RM z with z | z
    · exact h.1 z
    · exact ht (by rw [z];exact Pj ..)
def um(i:Nat)(fv fp:FE):FS:=fun e=>(fv e).bind fun r=>match r.1 with
  | .l ys=>(jk r.2 i).bind fun _=>(fp r.2).bind fun p=>(cg p.1).bind fun k=>(jk p.2 i).bind fun xss=>(m_ xss.length k).map fun kn=>.nx (p.2.set i (some (.n (xss.set kn ys))))
  | _=>none
theorem C_{fv fp:FE}{ps:Pos}(hK:X.K=K)(he:PE X c (fE K fv))(hN:X.N[i]?=some x)(hv:yO X.env.scope x)(hd:(x==("__debug__":Str))=false)(hcd:(x==("__classdict__":Str))=false)(hp:PE X a (fE K fp))
    (ha:∀v,Od (.Subscript (.Name x p) a ps) X.env v=(do
      let ov ←NY [v] (Nj (.Name x p) X.env)
      let iv ←NY [v,ov] (Nj a X.env)
      Pk ps
      NY [v,ov,iv] (setItem ov iv v)
      release [v,ov,iv] []))
    (hs:PQ [.Subscript (.Name x p) a ps] c pos.line X.env=pure false)(hw:PU [.Subscript (.Name x p) a ps] c X.env=pure none)
    (h1:(Ol [.Subscript (.Name x p) a ps] X.env).map (·.2)=[Od (.Subscript (.Name x p) a ps) X.env]):PS X (.Assign [.Subscript (.Name x p) a ps] c pos) (fS K (um i fv fp) []):=(su he (vH (iR hN hv hd hcd) hp pe ha) hs hw h1).mono fun D σ H h=>by
  obtain⟨F,e,fl,R,hf,q⟩:=h
  unfold um at hf
  obtain⟨⟨r,e1⟩,g1,hf⟩:=MP hf
  match r,g1,hf with
  | .l ys,g1,hf=>
  obtain⟨xs0,g3,hf⟩:=MP hf
  obtain⟨⟨rp,e2⟩,g4,hf⟩:=MP hf
  obtain⟨k,g5,hf⟩:=MP hf
  obtain⟨xss,g6,hf⟩:=MP hf
  obtain⟨kn,g7,hf⟩:=MQ hf
  cases hf
  refine⟨F,e,_,e1,R,g1,fun F1 H1 v X1 R1 A1=>?_⟩
  obtain⟨l,bs0,a1,_⟩:=R1.nst i xs0 (fW g3)
  refine⟨_,a1,F1,e1,rp,e2,R1,g4,fun F2 H2 w X2 R2 A2=>?_⟩
  have X12:=X1.trans X2
  have A1':=A1.ext X2
  have g6':=fW g6
  obtain⟨l',bs,c1,c2,c3,c4,c5,c6,c7⟩:=R2.nst i xss g6'
  rw [a1] at c1;cases c1
  obtain⟨t,us,rfl,t1,t2,t3,t4,t5⟩:=A1'
  have fi:∀z,z=l∨z∈bs→Fp σ e2 H2 i z:=fun z h=>.inr ⟨xss,l,bs,g6',a1,c3,h⟩
  have tl:t≠l:=fun z=>t5 ⟨i,fi t (.inl z)⟩
  have tb:t∉bs:=fun z=>t5 ⟨i,fi t (.inr z)⟩
  refine⟨l,bs.map V.ref,k,kn,rfl,bz A2 g5,c3,by rw [Nw,c4];exact g7,?_⟩
  have em:(bs.map V.ref).set kn (V.ref t)=(bs.set kn t).map V.ref:=by simp [List.map_set]
  rw [em]
  have old:∀b∈bs.set kn t,b=t∨b∈bs:=fun b hb=>by
    rcases RM hb with h | h
    · exact .inr h
    · exact .inl h
  obtain⟨R3,o3,s3⟩:=R2.putN (yss:=xss.set kn ys) (bs:=bs.set kn t) (H':=bC H2 l (.lst ((bs.set kn t).map V.ref))) g6' a1 c2 ay (by simp [c4]) (qq c5 tb) (fun z=>by
      rcases old l z with z | z
      · exact tl z.symm
      · exact c6 z) (fun m b zs q1 q2=>by
      rw [Pv] at q1 q2
      by_cases em:kn=m
      · subst em
        rw [if_pos rfl] at q1 q2
        split at q1
        · split at q2
          · cases q1;cases q2
            exact⟨t2,us,by rw [aA tl];exact t3,t4⟩
          · cases q2
        · cases q1
      · rw [if_neg em] at q1 q2
        obtain⟨d1,us',d2,d3⟩:=c7 m b zs q1 q2
        have zb:b≠l:=fun z=>c6 (z ▸ MV q1)
        exact⟨d1,us',by rw [aA zb];exact d2,d3⟩)
    (fun b hb=>by
      rcases old b hb with h | h
      · subst h;exact .inr t5
      · exact .inl (fi b (.inr h)))
    (fun z q=>by
      by_cases e0:z=l
      · rw [e0,ay] at q;cases q
      · rw [aA e0] at q;exact q)
    (fun z o q n1 _=>by rw [aA n1];exact q) (fun z vs q=>by
      by_cases e0:z=l
      · rw [e0];exact⟨_,ay⟩
      · rw [aA e0];exact⟨vs,q⟩)
  refine q F2 _ σ ⟨X12.sf,fun z q=>X12.dom z ?_,X12.fr,fun z vs h=>?_,fun z o h n=>?_,fun z h=>?_,fun _ _=>rfl,X12.fd⟩ R3
  · by_cases e0:z=l
    · rw [e0,ay] at q;cases q
    · rw [aA e0] at q;exact q
  · obtain⟨vs',h'⟩:=X12.lst z vs h
    by_cases e0:z=l
    · rw [e0];exact⟨_,ay⟩
    · rw [aA e0];exact⟨vs',h'⟩
  · have e0:z≠l:=fun e0=>by
      rcases X12.ow z ⟨i,fi z (.inl e0)⟩ with w | w
      · exact n w
      · rw [h] at w;cases w
    rw [aA e0];exact X12.tmp z o h n
  · rcases o3 z h with w | w
    · exact X12.ow z w
    · rcases old z w with w | w
      · subst w;exact .inr t1
      · exact X12.ow z ⟨i,fi z (.inr w)⟩
def sU(f:FE):FE:=fun e=>(f e).bind fun p=>match p.1 with
  | .l xs=>some (.d (.list xs),p.2)
  | _=>none
theorem D4{fa:FE}(h:PE X a (fE K fa)):PE X a (fE K (sU fa)):=h.mono fun σ H Q h=>by
  obtain⟨F,e,z,e',R,hf,q⟩:=h
  unfold sU at hf
  obtain⟨⟨r,e1⟩,h1,hf⟩:=MP hf
  match r,h1,hf with
  | .l xs,h1,hf=>
  cases hf
  refine⟨F,e,_,_,R,h1,fun F1 H1 v X1 R1 A1=>?_⟩
  obtain⟨F2,R2,s2,d2,f2⟩:=cP.frozen R1 A1
  exact q F2 H1 v (X1.frz s2 f2) R2 d2
def qB(i j:Nat)(fa fb:FE):FS:=fun e=>(fa e).bind fun p=>(fb p.2).bind fun q=>match p.1,q.1 with
  | .l xs,.l ys=>some (.nx ((q.2.set i (some (.l xs))).set j (some (.l ys))))
  | _,_=>none
theorem Da{fa fb:FE}{b:Na}{px py pt:Pos}{kt k2 pt2}(hc:X.calm=true)(hN:X.N.Nodup)(hi:X.N[i]?=some x)(hj:X.N[j]?=some y)(hij:i≠j)
    (hx:X.env.scope.names.lookup x=some .local)(hy:X.env.scope.names.lookup y=some .local)(ha:PE X a (fE K fa))(hb:PE X b (fE K fb))(ha':QG a=false)(hb':QG b=false)
    (hw:PU [.Tuple [.Name x px,.Name y py] kt pt] (.Tuple [a,b] k2 pt2) X.env=pure (some [x,y]))
    (hs:PQ [.Tuple [.Name x px,.Name y py] kt pt] (.Tuple [a,b] k2 pt2) pos.line X.env=pure false):
    PS X (.Assign [.Tuple [.Name x px,.Name y py] kt pt] (.Tuple [a,b] k2 pt2) pos) (fS K (qB i j fa fb) [i,j]):=(AM hc hN hi hj hij hx hy (CK ha (CK hb si hb') ha') hw hs).mono fun D σ H h=>by
  obtain⟨F,e,fl,R,hf,q⟩:=h
  unfold qB at hf
  obtain⟨⟨r1,e1⟩,h1,hf⟩:=MP hf
  obtain⟨⟨r2,e2⟩,h2,hf⟩:=MP hf
  match r1,r2,h1,h2,hf with
  | .l xs,.l ys,h1,h2,hf=>
    cases hf
    refine⟨F,e,_,e1,R,h1,fun F1 H1 v X1 R1 A1=>⟨F1,e1,_,e2,R1,h2,fun F2 H2 u X2 R2 A2=>?_⟩⟩
    have X12:=X1.trans X2
    have A1':=A1.ext X2
    obtain⟨l0,vs0,ev,_,_,b3,_,_⟩:=A1
    obtain⟨l1,vs1,rfl,c1,c2,c3,c4,c5⟩:=A1'
    cases ev
    obtain⟨l2,vs2,rfl,d1,d2,d3,d4,d5⟩:=A2
    have ne:l2≠l0:=fun z=>by rw [z,b3] at d1;cases d1
    obtain⟨R3,o3⟩:=R2.setL i c2 c3 c4 c5
    obtain⟨R4,o4⟩:=R3.setL j d2 d3 d4 (fun z=>(o3 l2 z).elim d5 ne)
    refine⟨_,_,rfl,q F2 H2 _ ⟨X12.sf,X12.dom,X12.fr,X12.lst,X12.tmp,fun a h=>?_,fun m n=>?_,X12.fd⟩ R4⟩
    · rcases o4 a h with z | z
      · rcases o3 a z with z | z
        · exact X12.ow a z
        · exact .inr (by rw [z];exact c1)
      · exact .inr (by rw [z];exact X1.dom l2 d1)
    · rw [NG (fun z=>n (by simp [z])),NG (fun z=>n (by simp [z]))]
def wZ(i:Nat):FS:=fun e=>(jk e i).map fun xss=>.rt (.d (.list (xss.map .list))) (e.set i (some (.d (.list (xss.map .list)))))
theorem C9(hN:X.N[i]?=some x)(hv:yO X.env.scope x)(hd:(x==("__debug__":Str))=false)(hcd:(x==("__classdict__":Str))=false):PS X (.Return (some (.Name x p)) pos) (fS K (wZ i) []):=(AN (iR hN hv hd hcd)).mono fun D σ H h=>by
  obtain⟨F,e,fl,R,hf,q⟩:=h
  unfold wZ at hf
  obtain⟨xss,h1,hf⟩:=MQ hf
  cases hf
  obtain⟨F',v,c1,c2,R1,X1⟩:=R.frzN (fW h1)
  exact⟨v,c1,q F' H σ v X1.s R1 c2⟩
end
theorem nL{cs:En}{g:FG}{ft:FT}{fe:FE}{item:Nat→MY}{b:Nat→Bool}{r:Nat→Rv}{y:Nat→MY}{u:Nat→En}(k:Nat):∀(L:List Nat) (t:En) (acc:List MY),t.length=k→
    (∀j∈L,(∀t:En,t.length=k→g (item j) (cs++t)=some (cs++u j))∧(u j).length=k∧ft (cs++u j)=some (b j,cs++u j)∧(b j=true→fe (cs++u j)=some (r j,cs++u j)∧rl (r j)=some (y j)))→acc.length+L.length≤1000000→
    ∃t',t'.length=k∧jX g ft fe (L.map item) (cs++t) acc=some (acc++(L.filter b).map y,cs++t')
  | [],t,acc,h,_,_=>⟨t,h,by simp [jX]⟩
  | j::L,t,acc,h,hh,hl=>by
    obtain⟨h1,h2,h3,h4⟩:=hh j ↥1
    rw [Nx]
    unfold jX
    rw [h1 t h]
    simp only [NI,h3]
    rw [Pp] at hl
    cases hb:b j with
    | true=>
      obtain⟨h5,h6⟩:=h4 hb
      simp only [h5,h6,NI,if_true]
      rw [if_pos ↥0]
      obtain⟨t',l',e'⟩:=nL k L (u j) (acc++[y j]) h2 (fun i hi=>hh i (NT _ hi)) ↥7
      exact⟨t',l',by rw [e'];simp [hb]⟩
    | false=>
      simp only [Ry,if_false]
      obtain⟨t',l',e'⟩:=nL k L (u j) acc h2 (fun i hi=>hh i (NT _ hi)) ↥0
      exact⟨t',l',by rw [e'];simp [hb]⟩
theorem bP{cp:List (Nat × Str)}{nT:Nat}{fi:FI}{g:FG}{ft:FT}{fe:FE}{e e1:En}{own:gU}{cs:En}{item:Nat→MY}{b:Nat→Bool}{r:Nat→Rv}{y:Nat→MY}{u:Nat→En}(L:List Nat)
    (h1:fi e=some (L.map item,own,e1))(ho:(own.all fun q=> !(cp.any fun c=>c.1==q.1))=true)(hc:oq cp nT e1=cs++Np nT none)(hl:cs.length=cp.length)
    (hh:∀j∈L,(∀t:En,t.length=nT→g (item j) (cs++t)=some (cs++u j))∧(u j).length=nT∧ft (cs++u j)=some (b j,cs++u j)∧(b j=true→fe (cs++u j)=some (r j,cs++u j)∧rl (r j)=some (y j)))(hL:L.length≤1000000):
    bb cp nT fi g ft fe e=some (.l ((L.filter b).map y),e1):=by
  obtain⟨t',_,e'⟩:=nL (cs:=cs) nT L (Np nT none) [] ↥1 hh (by simpa using hL)
  rw [Qp] at e'
  exact yF (t:=Np nT none) (t':=t') h1 ho hc hl (by rw [hc];exact e')
theorem lQ{f:Nat→MY}{n:Nat}:gK 0 ((Nb n).map f)=(Nb n).map fun j=>.tuple [.int (j:Int),f j]:=by
  refine Ot fun i=>?_
  rw [jB,NH,NH]
  by_cases h:i < n
  · rw [QO h];simp
  · rw [Qx ↥7];rfl
theorem jv{f h:Nat→MY}:∀(L:List Nat),fF (L.map f) (L.map h)=L.map fun j=>.tuple [f j,h j]
  | []=>rfl
  | j::L=>by simp [fF,jv L]
theorem mr{f h:Nat→MY}:∀(L:List Nat) (more:List MY),fF (L.map f) (L.map h++more)=L.map fun j=>.tuple [f j,h j]
  | [],more=>by cases more<;>rfl
  | j::L,more=>by simp [fF,mr L]
theorem dQ{α:Type}{f:Nat→α}{n i:Nat}(h:i < n):atI ((Nb n).map f) (i:Int)=some (f i):=by
  rw [iD ↥0 ↥7,OF,NH,QO h];rfl
theorem hZ{α:Type}{f:Nat→α}{n:Nat}:atI ((Nb (n+1)).map f) (-1)=some (f n):=by
  unfold atI m_
  rw [Nw,PF]
  have e:((-1:Int)+((n+1:Nat):Int)).toNat=n:=by lia
  rw [if_neg ↥0,if_pos ↥0,e]
  simp
theorem wL:∀(rs:List (List Int)),rs≠[]→∃r∈rs,∀t∈rs,HT.lexLt t r=false
  | [],h=>absurd rfl h
  | [a],_=>⟨a,by simp,fun t ht=>by rw [RE.mp ht,dN];exact decide_eq_false (RL _)⟩
  | a::b::rs,_=>by
    obtain⟨r,h1,h2⟩:=wL (b::rs) ↥1
    by_cases c:HT.lexLt a r=true
    · refine⟨a,by simp,fun t ht=>?_⟩
      rcases MU ht with rfl | ht
      · rw [dN];exact decide_eq_false (RL _)
      · have h3:=h2 t ht
        rw [dN] at*
        simp only [decide_eq_false_iff_not,decide_eq_true_eq,List.not_lt] at*
        exact List.le_trans (List.le_of_lt c) h3
    · refine⟨r,NT _ h1,fun t ht=>?_⟩
      rcases MU ht with rfl | ht
      · simpa using c
      · exact h2 t ht
theorem B3{e:En}{i:Nat}{rs:List (List Int)}(hi:e[i]?=some (some (.l (rs.map jp))))(hn:∀r∈rs,r≠[])(h:rs≠[]):∃r∈rs,g1 nW e [.s i]=some (.d (jp r))∧∀t∈rs,HT.lexLt t r=false:=by
  obtain⟨r0,r1,r2⟩:=wL rs h
  have hs:(rs.find? fun r=>rs.all fun t=> !(HT.lexLt t r)).isSome=true:=List.find?_isSome.mpr ⟨r0,r1,OQ.mpr fun t ht=>by rw [r2 t ht];rfl⟩
  obtain⟨r,hr⟩:=Option.isSome_iff_exists.mp hs
  refine⟨r,RJ hr,?_,fun t ht=>?_⟩
  · show nW e (.s i)=_
    have sr:eX e (.s i)=some (true,rs.map jp):=by simp [eX,hi]
    unfold nW
    rw [sr]
    dsimp only
    rw [oY hn,NI,hr];rfl
  · have:=OQ.mp (List.find?_some (p:=fun r=>rs.all fun t=> !(HT.lexLt t r)) hr) t ht
    simpa using this
def ap(f:Nat→Int)(n:Nat):List MY:=(Nb n).map fun j=>.int (f j)
def bw(n m:Nat)(s:Tb):MY:=.list ((Nb (m+1)).map fun i=>.list (ap (s.T i) (n+1)))
def bg(n:Nat)(s:Tb):List MY:=ap (fun j=>(s.out j:Int)) n
def aQ(m:Nat)(s:Tb):List MY:=ap (fun j=>(s.win j:Int)) m
structure DG (n m:Nat) (s:Tb):Prop where
  d:Bt 1900 s.d
  t:∀i,i≤m→∀j,j≤n→Bt 1900 (s.T i j)
theorem Iv.sml{n m:Nat}{C:Nat→Nat→Int}{s:Tb}(I:Iv n m C s){B:Nat}(hB:∀a i,(C a i).natAbs≤B)(hs:wu (m+1)*B ^ (m+1) < 2 ^ 1900):DG n m s:=by
  obtain⟨h1,h2⟩:=I.small hB
  exact⟨Pb h1 hs,fun i hi j hj=>Pb (h2 j hj i hi) hs⟩
theorem FU{a b p q x y:Int}(hb:0 < b)(hq:0 < q)(hy:0 < y)(h1:a*q≤p*b)(h2:p*y≤x*q):a*y≤x*b∧(a*y=x*b→a*q=p*b∧p*y=x*q):=by
  have k1:=Int.mul_le_mul_of_nonneg_right h1 (Int.le_of_lt hy)
  have k2:=Int.mul_le_mul_of_nonneg_right h2 (Int.le_of_lt hb)
  have e1:a*q*y=a*y*q:=by grind
  have e2:p*b*y=p*y*b:=by grind
  have e3:x*q*b=x*b*q:=by grind
  refine⟨Int.le_of_mul_le_mul_right (a:=q) (by rw [←e1,←e3];lia) hq,fun e=>?_⟩
  have e4:a*y*q=x*b*q:=by rw [e]
  exact⟨QL (a:=y) ↥0 (Int.le_antisymm k1 (by rw [e2,e1,e4,←e3];exact k2)),QL (a:=b) ↥0 (Int.le_antisymm k2 (by rw [e3,←e4,←e1,←e2];exact k1))⟩
def mL(n m:Nat)(s:Tb)(c i r:Nat):Prop:=r < i∧0 < s.T r c∧∀k,k < i→0 < s.T k c→s.T r n*s.T k c≤s.T k n*s.T r c∧(s.T r n*s.T k c=s.T k n*s.T r c→s.win r≤s.win k)
def sY(n m:Nat)(s:Tb)(c i:Nat):Option Nat→Prop
  | none=>∀k,k < i→s.T k c≤0
  | some r=>mL n m s c i r
def fJ(n:Nat)(s:Tb)(c i:Nat):MY:=.tuple [.int (s.T i n),.int (s.T i c),.int (s.win i:Int)]
def vO(n:Nat)(s:Tb)(c i r:Nat):Bool:=decide (s.T i n*s.T r c < s.T r n*s.T i c) || (decide (s.T i n*s.T r c=s.T r n*s.T i c)&&decide (s.win i < s.win r))
theorem sY.skip{n m c i:Nat}{s:Tb}{o:Option Nat}(h:sY n m s c i o)(hc:s.T i c≤0):sY n m s c (i+1) o:=by
  cases o with
  | none=>exact fun k hk=>if e:k=i then by rw [e];exact hc else h k ↥0
  | some r=>exact⟨by have:=h.1;lia,h.2.1,fun k hk hp=>if e:k=i then by rw [e] at hp;lia else h.2.2 k ↥0 hp⟩
theorem mL.first{n m c i:Nat}{s:Tb}(h:sY n m s c i none)(hc:0 < s.T i c):mL n m s c (i+1) i:=
  ⟨by lia,hc,fun k hk hp=>if e:k=i then by subst e;exact⟨Px _,fun _=>Ny _⟩ else by have:=h k ↥0;lia⟩
theorem mL.take{n m c i r:Nat}{s:Tb}(h:mL n m s c i r)(hc:0 < s.T i c)(hs:vO n s c i r=true):mL n m s c (i+1) i:=by
  refine⟨by lia,hc,fun k hk hp=>?_⟩
  by_cases e:k=i
  · subst e;exact⟨Px _,fun _=>Ny _⟩
  obtain⟨h1,h2⟩:=h.2.2 k ↥0 hp
  simp only [vO,Bool.or_eq_true,NP,decide_eq_true_eq] at hs
  have hle:s.T i n*s.T r c≤s.T r n*s.T i c:=by rcases hs with z | z<;>lia
  obtain⟨a,b⟩:=FU hc h.2.1 hp hle h1
  refine⟨a,fun z=>?_⟩
  obtain⟨b1,b2⟩:=b z
  rcases hs with y | y
  · lia
  · have:=h2 b2;lia
theorem mL.keep{n m c i r:Nat}{s:Tb}(h:mL n m s c i r)(hc:0 < s.T i c)(hs:vO n s c i r=false):mL n m s c (i+1) r:=by
  refine⟨by have:=h.1;lia,h.2.1,fun k hk hp=>?_⟩
  by_cases e:k=i
  · subst e
    simp only [vO,Sm,Bool.and_eq_false_iff,decide_eq_false_iff_not] at hs
    refine⟨by lia,fun z=>?_⟩
    rcases hs.2 with y | y<;>lia
  · exact h.2.2 k ↥0 hp
theorem lc{f:Nat→Int}{n c:Nat}{v:Int}:(ap f n).set c (.int v)=ap (fun j=>if j=c then v else f j) n:=by
  unfold ap
  refine Ot fun i=>?_
  rw [Pv]
  by_cases h:i < n
  · by_cases e:c=i
    · subst e;simp [h]
    · rw [if_neg e];simp [h,NF e]
  · simp [h]
    lia
theorem uk{f:Nat→List MY}{n c:Nat}{v:List MY}:((Nb n).map f).set c v=(Nb n).map fun j=>if j=c then v else f j:=by
  refine Ot fun i=>?_
  rw [Pv]
  by_cases h:i < n
  · by_cases e:c=i
    · subst e;simp [h]
    · rw [if_neg e];simp [h,NF e]
  · simp [h]
    lia
theorem pJ{ft:FT}{f:FS}{Q:En→Prop}(P:Nat→En→Prop)(N:Nat)(hN:∀k e,P k e→k < N)(hs:∀k e,P k e→(∃e1,ft e=some (false,e1)∧Q e1)∨∃e1 e2,ft e=some (true,e1)∧f e1=some (.nx e2)∧P (k+1) e2):
    ∀(fuel k:Nat) (e:En),P k e→N≤fuel+k→∃e',gB ft f fuel e=some (.nx e')∧Q e'
  | 0,k,e,h,hf=>by have:=hN k e h;lia
  | fuel+1,k,e,h,hf=>by
    unfold gB
    rcases hs k e h with ⟨e1,h1,h2⟩ | ⟨e1,e2,h1,h2,h3⟩
    · exact⟨e1,by rw [h1];rfl,h2⟩
    · obtain⟨e',h4,h5⟩:=pJ P N hN hs fuel (k+1) e2 h3 ↥0
      refine⟨e',?_,h5⟩
      rw [h1]
      simp only [NI,if_true,h2]
      exact h4
theorem As{n m c:Nat}{s:Tb}{r:Nat}:(bg n s).set c (.int (s.win r:Int))=bg n (piv s r c):=by
  unfold bg
  rw [lc]
  unfold ap
  refine Ou fun j _=>?_
  by_cases e:j=c<;>simp [piv,e]
theorem BA{m c:Nat}{s:Tb}{r:Nat}:(aQ m s).set r (.int (s.out c:Int))=aQ m (piv s r c):=by
  unfold aQ
  rw [lc]
  unfold ap
  refine Ou fun j _=>?_
  by_cases e:j=r<;>simp [piv,e]
theorem wF{n i:Nat}(h:i < n):m_ n (i:Int)=some i:=by
  unfold m_
  rw [if_pos ↥0,if_pos ↥0,OF]
theorem lb{f:Nat→Int}{n:Nat}:(ap f n).length=n:=by simp [ap]
def jI(n m:Nat)(g:Nat→Int)(A:Nat→Nat→Int)(b:Nat→Int)(v i:Nat):Int:=
  if v < n then(if i < m then A i v else if i=m then - g v else 0) else if v≤n+m then(if i=v - n then 1 else 0) else if v=n+m+1 then(if i < m then b i else 0) else 0
theorem Hf{n m:Nat}{g:Nat→Int}{A:Nat→Nat→Int}{b:Nat→Int}(hb:∀i,i < m→0≤b i):Iv n m (jI n m g A b) (pC n m (jI n m g A b)):=by
  refine Kh (fun k hk i=>?_) (fun a i hi=>?_) (fun i hi=>?_)
  · unfold jI
    rw [if_neg ↥0,if_pos ↥0,show n+k - n=k by lia]
  · unfold jI
    split
    · rw [if_neg ↥0,if_neg ↥0]
    · split
      · rw [if_neg ↥0]
      · split
        · rw [if_neg ↥0]
        · rfl
  · unfold jI
    rw [if_neg ↥0,if_neg ↥0,if_pos rfl,if_pos hi]
    exact hb i hi
theorem Cf{n m B:Nat}{g:Nat→Int}{A:Nat→Nat→Int}{b:Nat→Int}(h1:1≤B)(hg:∀j,j < n→(g j).natAbs≤B)(hA:∀i,i < m→∀j,j < n→(A i j).natAbs≤B)(hb:∀i,i < m→(b i).natAbs≤B)(v i:Nat):(jI n m g A b v i).natAbs≤B:=by
  unfold jI
  split
  · rename_i hv
    split
    · exact hA _ ‹_› _ hv
    · split
      · rw [Int.natAbs_neg];exact hg _ hv
      · simp
  · split
    · split<;>simp;lia
    · split
      · split
        · exact hb _ ‹_›
        · simp
      · simp
theorem CY{a:MY}{rs:List Rv}{j i:Nat}(h:aN rs=[])(hi:i≠j):dD (.d a::.s j::rs) i=none:=by
  have:=jm h i
  unfold dD at*
  rw [QK,QK]
  have e:(j==i)=false:=by simp;lia
  simp [e,this]
theorem sT{a:MY}{rs:List Rv}{j:Nat}{xs:List MY}{o:Option Sv}{t e:En}(h:aN rs=[])(he:e[j]?=some (some (.l xs))):gE (dD (.d a::.s j::rs)) (o::some (.l xs)::t) e=e:=by
  rw [yE (j:=j) (k:=1) (xs:=xs) (ys:=xs) (by simp [dD,QK]) rfl he fun i hi=>.inl (CY h hi)]
  refine Ot fun i=>?_
  rw [Pv]
  split
  · rename_i q;subst q
    rw [he,if_pos (MR he).1]
  · rfl
theorem ze{cs:En}{g:FG}{ik:Nat}{fv:FE}{item:Nat→MY}{key:Nat→Int}{y:Nat→Int × Int}{u:Nat→En}(k:Nat):∀(L:List Nat) (t:En) (acc:List yN),t.length=k→
    (∀j∈L,(∀t:En,t.length=k→g (item j) (cs++t)=some (cs++u j))∧(u j).length=k∧t9 ik (cs++u j)=some (key j)∧fv (cs++u j)=some (.d (.tuple [.int (y j).1,.int (y j).2]),cs++u j))→(acc.map (·.1)++L.map key).Nodup→acc.length+L.length≤1000000→
    ∃t',t'.length=k∧DO g ik fv (L.map item) (cs++t) acc=some (acc++L.map (fun j=>(key j,y j)),cs++t')
  | [],t,acc,h,_,_,_=>⟨t,h,by simp [DO]⟩
  | j::L,t,acc,h,hh,hn,hl=>by
    obtain⟨h1,h2,h3,h4⟩:=hh j ↥1
    rw [Nx]
    unfold DO
    rw [h1 t h]
    simp only [NI,h3,h4]
    rw [Pp] at hl
    have hk:(acc.any fun p=>p.1==key j)=false:=by
      rw [Rg]
      intro p hp
      rw [Nx,List.nodup_append] at hn
      have:=hn.2.2 p.1 (Pi.mpr ⟨p,hp,rfl⟩) (key j) ↥1
      simpa using this
    show ∃t':En,t'.length=k∧(if acc.length < 1000000∧(acc.any fun p=>p.1==key j)=false then DO g ik fv (L.map item) (cs++u j) (acc++[(key j,(y j).1,(y j).2)]) else none)=_
    rw [if_pos ⟨by lia,hk⟩]
    obtain⟨t',l',e'⟩:=ze k L (u j) (acc++[(key j,(y j).1,(y j).2)]) h2 (fun i hi=>hh i (NT _ hi)) (by simpa using hn) ↥7
    exact⟨t',l',by rw [e'];simp⟩
theorem yD{cp:List (Nat × Str)}{ei e:En}(h:∀p∈cp,vt e[p.1]?=false):gE (kX cp) ei e=e:=by
  refine Ot fun i=>?_
  rw [bO]
  cases he:e[i]? with
  | none=>rfl
  | some s=>
    rw [Ov]
    match s,he with
    | some (.l xs),he=>
      cases hp:kX cp i with
      | none=>rfl
      | some k=>
        obtain⟨s,hs⟩:=eu hp
        have:=h _ (MV hs)
        rw [he] at this
        cases this
    | some (.d _),he=>rfl
    | some (.n _),he=>rfl
    | none,he=>rfl
theorem pF{cp:List (Nat × Str)}{nT:Nat}{fi:FI}{g:FG}{ik:Nat}{fv:FE}{e e1:En}{own:gU}{cs:En}{item:Nat→MY}{key:Nat→Int}{y:Nat→Int × Int}{u:Nat→En}(L:List Nat)
    (h1:fi e=some (L.map item,own,e1))(ho:(own.all fun q=> !(cp.any fun c=>c.1==q.1))=true)(hc:oq cp nT e1=cs++Np nT none)(hd:∀p∈cp,vt e1[p.1]?=false)
    (hh:∀j∈L,(∀t:En,t.length=nT→g (item j) (cs++t)=some (cs++u j))∧(u j).length=nT∧t9 ik (cs++u j)=some (key j)∧fv (cs++u j)=some (.d (.tuple [.int (y j).1,.int (y j).2]),cs++u j))(hn:(L.map key).Nodup)(hL:L.length≤1000000):
    eH cp nT fi g ik fv e=some (.d (.dict ((L.map fun j=>(key j,y j)).map pD)),e1):=by
  obtain⟨t',_,e'⟩:=ze (cs:=cs) (y:=y) nT L (Np nT none) [] ↥1 hh (by simpa using hn) (by simpa using hL)
  unfold eH
  rw [h1,NI]
  dsimp only
  rw [if_pos ho,hc,e',NI]
  dsimp only
  rw [if_pos,yD hd]
  · rw [Qp]
  · unfold j5
    rw [OQ]
    intro p hp
    rw [hd p hp];rfl
def dG(m:List yN)(k:Int)(z:Int × Int):Int × Int:=((m.find? fun p=>p.1==k).map (·.2)).getD z
theorem xM{m:List yN}{k:Int}{z:Int × Int}{w:Option (MY × MY)}(h:w=(m.map pD).find? (fun p=>match p.1 with | .int i=>i==k | _=>false)):(w.map fun p=>p.2).getD (.tuple [.int z.1,.int z.2])=.tuple [.int (dG m k z).1,.int (dG m k z).2]:=by
  subst h
  unfold dG
  induction m with
  | nil=>rfl
  | cons p r ih=>
    rw [Nx,OR,OR]
    dsimp only [pD]
    cases c:p.1==k with
    | true=>rfl
    | false=>exact ih
theorem qN{fo fk fd:FE}{e:En}{m:List yN}{k:Int}{z:Int × Int}(h1:fo e=some (.d (.dict (m.map pD)),e))(h2:fk e=some (.d (.int k),e))(h3:fd e=some (.d (.tuple [.int z.1,.int z.2]),e)):mq fo fk fd e=some (.d (.tuple [.int (dG m k z).1,.int (dG m k z).2]),e):=by
  unfold mq
  rw [h1,NI,h2,NI,h3,NI]
  dsimp only
  exact congrArg (fun x=>some (Rv.d x,e)) (xM rfl)
theorem u_{key:Nat→Int}{y:Nat→Int × Int}{k:Int}{z:Int × Int}:∀(L:List Nat),dG (L.map fun j=>(key j,y j)) k z=((L.find? fun j=>key j==k).map y).getD z
  | []=>rfl
  | j::L=>by
    have ih:=u_ (key:=key) (y:=y) (k:=k) (z:=z) L
    unfold dG at*
    rw [Nx,OR,OR]
    cases c:key j==k with
    | true=>simp [c]
    | false=>simpa [c] using ih
section
variable(n m:Nat)(g:Nat→Int)(A:Nat→Nat→Int)(b:Nat→Int)
def mv(x:Nat→Rat):Prop:=(∀j,j < n→0≤x j)∧∀i,i < m→sq (fun j=>(A i j:Rat)*x j) n≤(b i:Rat)
def l4(x:Nat→Rat):Rat:=sq (fun j=>(g j:Rat)*x j) n
end
section
variable{n m:Nat}{g:Nat→Int}{A:Nat→Nat→Int}{b:Nat→Int}
theorem wK{i j:Nat}(hi:i < m)(hj:j < n):jI n m g A b j i=A i j:=by unfold jI;rw [if_pos hj,if_pos hi]
theorem Ae{j:Nat}(hj:j < n):jI n m g A b j m= - g j:=by unfold jI;rw [if_pos hj,if_neg ↥0,if_pos rfl]
theorem DZ{i:Nat}(hi:i < m):jI n m g A b (n+m+1) i=b i:=by unfold jI;rw [if_neg ↥0,if_neg ↥0,if_pos rfl,if_pos hi]
theorem DY:jI n m g A b (n+m+1) m=0:=by unfold jI;rw [if_neg ↥0,if_neg ↥0,if_pos rfl,if_neg ↥0]
theorem xl{x:Nat→Rat}:sq (fun j=>(jI n m g A b j m:Rat)*x j) n= - l4 n g x:=by
  have e:sq (fun j=>(jI n m g A b j m:Rat)*x j) n=sq (fun j=>(-1)*((g j:Rat)*x j)+0*((g j:Rat)*x j)) n:=bB fun j hj=>by
    rw [Ae hj,Rat.intCast_neg];grind
  rw [e,mj]
  unfold l4
  grind
theorem CG{x:Nat→Rat}(h:mv n m A b x):∃X,nA n m (jI n m g A b) X∧(∀v,v < n+m→0≤X v)∧X (n+m)=l4 n g x:=by
  let X:Nat→Rat:=fun v=>if v < n then x v else if v < n+m then(b (v - n):Rat) - sq (fun j=>(A (v - n) j:Rat)*x j) n else l4 n g x
  have xs:∀j,j < n→X j=x j:=fun j hj=>by show(if j < n then _ else _)=_;rw [if_pos hj]
  have xr:∀i,i < m→X (n+i)=(b i:Rat) - sq (fun j=>(A i j:Rat)*x j) n:=fun i hi=>by
    show(if n+i < n then _ else _)=_
    rw [if_neg ↥0,if_pos ↥0,show n+i - n=i by lia]
  have xm:X (n+m)=l4 n g x:=by
    show(if n+m < n then _ else _)=_
    rw [if_neg ↥0,if_neg ↥0]
  refine⟨X,fun i hi=>?_,fun v hv=>?_,xm⟩
  · by_cases e:i=m
    · subst e
      rw [DY,xm,bB (g:=fun j=>(jI n i g A b j i:Rat)*x j) fun j hj=>by rw [xs j hj],xl]
      simp only [QM]
      grind
    · rw [DZ ↥0,xr i ↥0,bB (g:=fun j=>(A i j:Rat)*x j) fun j hj=>by rw [xs j hj,wK ↥0 hj]]
      grind
  · by_cases e:v < n
    · rw [xs v e];exact h.1 v e
    · have:=xr (v - n) ↥0
      rw [show n+(v - n)=v by lia] at this
      rw [this]
      have:=h.2 (v - n) ↥0
      grind
theorem ww{X:Nat→Rat}(o:nA n m (jI n m g A b) X)(hX:∀v,v < n+m→0≤X v):mv n m A b X∧l4 n g X=X (n+m):=by
  refine⟨⟨fun j hj=>hX j ↥0,fun i hi=>?_⟩,?_⟩
  · have:=o i ↥0
    rw [DZ hi,bB (g:=fun j=>(A i j:Rat)*X j) fun j hj=>by rw [wK hi hj]] at this
    have:=hX (n+i) ↥0
    grind
  · have:=o m (Ny m)
    rw [DY,xl] at this
    simp only [QM] at this
    grind
theorem Iv.max{s:Tb}(I:Iv n m (jI n m g A b) s)(hz:∀j,j < n→0≤s.T m j):∃X,mv n m A b X∧l4 n g X=(s.T m n:Rat) / (s.d:Rat)∧(∀x,mv n m A b x→l4 n g x≤(s.T m n:Rat) / (s.d:Rat))∧(∀k,k≤m→X (s.win k)=(s.T k n:Rat) / (s.d:Rat))∧∀j,j < n→X (s.out j)=0:=by
  obtain⟨X,hX⟩:=lJ I
  have dp:=dh I.dp
  have hw:∀k,k≤m→X (s.win k)=(s.T k n:Rat) / (s.d:Rat):=fun k hk=>by
    have:=hX.at I hk
    grind
  have nn:∀v,v < n+m→0≤X v:=fun v hv=>by
    rcases I.cv v ↥0 with ⟨j,hj,e⟩ | ⟨k,hk,e⟩
    · rw [←e,hX.2 j hj];exact OG
    · have hkm:k < m:=by
        have:k≠m:=fun z=>by subst z;rw [I.wm] at e;lia
        lia
      rw [←e,hw k hk,Rat.div_def]
      exact Pw (by exact_mod_cast I.fe k hkm) (Qw (Rat.inv_pos.mpr dp))
  obtain⟨f1,f2⟩:=ww hX.1 nn
  have hm:=hw m (Ny m)
  rw [I.wm] at hm
  refine⟨X,f1,by rw [f2,hm],fun x hx=>?_,hw,hX.2⟩
  obtain⟨Y,o,y0,y1⟩:=CG (g:=g) hx
  rw [←y1]
  exact I.top hz o y0
end
abbrev TL:=hJ × Rat
def rs(f:TL→Rat):List TL→Rat
  | []=>0
  | p::P=>f p+rs f P
theorem oZ{f h:TL→Rat}:∀{P:List TL},(∀p∈P,f p=h p)→rs f P=rs h P
  | [],_=>rfl
  | p::P,q=>by rw [rs,rs,q p ↥1,oZ fun x hx=>q x (NT _ hx)]
theorem sJ{f:TL→Rat}:∀{P Q:List TL},rs f (P++Q)=rs f P+rs f Q
  | [],Q=>by simp [rs];grind
  | p::P,Q=>by rw [QJ,rs,rs,sJ (P:=P)];grind
theorem ni{f:TL→Rat}{P Q:List TL}(h:P.Perm Q):rs f P=rs f Q:=by
  induction h with
  | nil=>rfl
  | cons x _ ih=>rw [rs,rs,ih]
  | swap x y l=>rw [rs,rs,rs,rs];grind
  | trans _ _ i1 i2=>rw [i1,i2]
theorem o5{f:TL→Rat}{h:TL→TL}:∀{P:List TL},rs f (P.map h)=rs (fun p=>f (h p)) P
  | []=>rfl
  | p::P=>by rw [Nx,rs,rs,o5 (P:=P)]
theorem jq{f:TL→Rat}{t:Nat→hJ}{x:Nat→Rat}:∀n:Nat,rs f ((Nb n).map fun j=>(t j,x j))=sq (fun j=>f (t j,x j)) n
  | 0=>rfl
  | n+1=>by
    rw [PJ,Oi,sJ,jq n,sq]
    simp only [Nx,Oy,rs]
    grind
def gq(th:Int)(t:hJ):Bool:=t.one==th || t.other==th
def kM(th:Int)(p:TL):Rat:=if gq th p.1=true then(p.1.top:Rat)*p.2 else 0
def km(th:Int)(p:TL):Rat:=if gq th p.1=true then(p.1.bot:Rat)*p.2 else 0
def lI(p:TL):Rat:=(p.1.bot:Rat)*p.2
def kD(p:TL):Rat:=((p.1.top*p.1.worth:Int):Rat)*p.2
structure p7 (W:bZ) (P:List TL):Prop where
  ties:P.map (·.1)=W.ties
  nn:∀p∈P,0≤p.2
  once:∀p∈P,lI p≤1
  keep:∀k:Nat,(k:Int) < W.things→rs (kM k) P≤1
  bear:∀k:Nat,(k:Int) < W.things→rs (km k) P≤(W.pat.getD k 0:Rat)
  ask:rs lI P≤(W.asks:Rat)
structure pM (W:bZ) (V:Rat):Prop where
  ex:∃P,p7 W P∧rs kD P=V
  top:∀P,p7 W P→rs kD P≤V
theorem pM.le{W W':bZ}{V V':Rat}(h:pM W V)(h':pM W' V')(f:∀P,p7 W P→∃P',p7 W' P'∧rs kD P≤rs kD P'):V≤V':=by
  obtain⟨P,h1,h2⟩:=h.ex
  obtain⟨P',h3,h4⟩:=f P h1
  rw [←h2]
  exact Qe h4 (h'.top P' h3)
structure Up (t t':hJ) (r:Rat):Prop where
  one:t'.one=t.one
  other:t'.other=t.other
  r0:0≤r
  top:(t'.top:Rat)*r≤(t.top:Rat)
  bot:(t'.bot:Rat)*r≤(t.bot:Rat)
  gain:((t.top*t.worth:Int):Rat)≤((t'.top*t'.worth:Int):Rat)*r
theorem Up.refl{t:hJ}:Up t t 1:=⟨rfl,rfl,by grind,by grind,by grind,by grind⟩
theorem pM.up{W W':bZ}{V V':Rat}(h:pM W V)(h':pM W' V')(ht:W'.things=W.things)(hl:W'.ties.length=W.ties.length)(hu:∀(i:Nat) (t t':hJ),W.ties[i]?=some t→W'.ties[i]?=some t'→∃r,Up t t' r)(hp:∀k,(W.pat.getD k 0)≤(W'.pat.getD k 0))(ha:W.asks≤W'.asks):V≤V':=by
  refine h.le h' fun P F=>?_
  have gen:∀(P:List TL) (ts:List hJ),ts.length=P.length→(∀p∈P,0≤p.2)→(∀(i:Nat) (p:TL) (t':hJ),P[i]?=some p→ts[i]?=some t'→∃r,Up p.1 t' r)→
      ∃P':List TL,P'.map (·.1)=ts∧(∀p∈P',0≤p.2)∧(∀p'∈P',∃p∈P,lI p'≤lI p)∧(∀k:Nat,rs (kM k) P'≤rs (kM k) P)∧(∀k:Nat,rs (km k) P'≤rs (km k) P)∧rs lI P'≤rs lI P∧rs kD P≤rs kD P':=by
    intro P
    induction P with
    | nil=>
      intro ts hl _ _
      have:ts=[]:=List.length_eq_zero_iff.mp hl
      subst this
      exact⟨[],rfl,by simp,by simp,fun _=>OG,fun _=>OG,OG,OG⟩
    | cons p P ih=>
      intro ts hl h0 hh
      cases ts with
      | nil=>simp at hl
      | cons t ts=>
        obtain⟨P',a1,a2,a3,a4,a5,a6,a7⟩:=ih ts (by simpa using hl) (fun q hq=>h0 q (NT _ hq)) fun i q t' e1 e2=>hh (i+1) q t' (by simpa using e1) (by simpa using e2)
        obtain⟨r,u⟩:=hh 0 p t rfl rfl
        have x0:=h0 p ↥1
        have b1:(t.bot:Rat)*(r*p.2)≤(p.1.bot:Rat)*p.2:=by
          have:=QP u.bot x0
          grind
        have b2:(t.top:Rat)*(r*p.2)≤(p.1.top:Rat)*p.2:=by
          have:=QP u.top x0
          grind
        have b3:((p.1.top*p.1.worth:Int):Rat)*p.2≤((t.top*t.worth:Int):Rat)*(r*p.2):=by
          have:=QP u.gain x0
          grind
        have ei:∀k:Int,gq k t=gq k p.1:=fun k=>by unfold gq;rw [u.one,u.other]
        refine⟨(t,r*p.2)::P',by rw [Nx,a1],fun q hq=>?_,fun q hq=>?_,fun k=>?_,fun k=>?_,?_,?_⟩
        · rcases MU hq with rfl | hq
          · exact Pw u.r0 x0
          · exact a2 q hq
        · rcases MU hq with rfl | hq
          · exact⟨p,by simp,b1⟩
          · obtain⟨z,z1,z2⟩:=a3 q hq
            exact⟨z,NT _ z1,z2⟩
        · have:=a4 k
          rw [rs,rs]
          unfold kM at*
          dsimp only
          rw [ei]
          split<;>grind
        · have:=a5 k
          rw [rs,rs]
          unfold km at*
          dsimp only
          rw [ei]
          split<;>grind
        · rw [rs,rs]
          unfold lI at*
          grind
        · rw [rs,rs]
          unfold kD at*
          grind
  have hPl:P.length=W.ties.length:=by rw [←F.ties,Nw]
  obtain⟨P',a1,a2,a3,a4,a5,a6,a7⟩:=gen P W'.ties ↥0 F.nn fun i p t' e1 e2=>hu i p.1 t' (by rw [←F.ties,NH,e1];rfl) e2
  refine⟨P',⟨a1,a2,fun p hp=>?_,fun k hk=>?_,fun k hk=>?_,?_⟩,a7⟩
  · obtain⟨z,z1,z2⟩:=a3 p hp
    exact Qe z2 (F.once z z1)
  · exact Qe (a4 k) (F.keep k ↥0)
  · refine Qe (a5 k) (Qe (F.bear k ↥0) ?_)
    exact_mod_cast hp k
  · refine Qe a6 (Qe F.ask ?_)
    exact_mod_cast ha
theorem pM.fewer{W W':bZ}{V V':Rat}(h:pM W V)(h':pM W' V'){l r:List hJ}{t:hJ}(e:W.ties=l++t::r)(e':W'.ties=l++r)(ht:W'.things=W.things)(hp:W'.pat=W.pat)(ha:W'.asks=W.asks)(hpat:∀p∈W.pat,0≤p)(ha0:0≤W.asks):V'≤V:=by
  refine h'.le h fun P F=>?_
  have hP:P=P.take l.length++P.drop l.length:=(Sy _ _).symm
  have s1:∀f:TL→Rat,f (t,0)=0→rs f (P.take l.length++(t,0)::P.drop l.length)=rs f P:=fun f hf=>by
    conv=>rhs;rw [hP]
    rw [sJ,sJ,rs,hf];grind
  have mem:∀p∈P.take l.length++(t,0)::P.drop l.length,p∈P∨p=(t,0):=fun p hp=>by
    rcases MS hp with hp | hp
    · exact .inl (SA hp)
    · rcases MU hp with hp | hp
      · exact .inr hp
      · exact .inl (SB hp)
  refine⟨P.take l.length++(t,0)::P.drop l.length,⟨?_,fun p hp=>?_,fun p hp=>?_,fun k hk=>?_,fun k hk=>?_,?_⟩,?_⟩
  · rw [Oi,Nx,List.map_take,List.map_drop,F.ties,e',e]
    simp
  · rcases mem p hp with hp | rfl
    · exact F.nn p hp
    · exact OG
  · rcases mem p hp with hp | rfl
    · exact F.once p hp
    · unfold lI;grind
  · rw [s1 _ (by unfold kM;split<;>grind)];exact F.keep k ↥0
  · rw [s1 _ (by unfold km;split<;>grind)];have:=F.bear k ↥0;rwa [hp] at this
  · rw [s1 _ (by unfold lI;grind)];have:=F.ask;rwa [ha] at this
  · rw [s1 _ (by unfold kD;grind)];exact OG
def cf(n:Int)(t:hJ):hJ:=⟨n - 1 - t.other,n - 1 - t.one,t.top,t.bot,t.worth⟩
theorem pM.turned{W W':bZ}{V V':Rat}(h:pM W V)(h':pM W' V')(hperm:W'.ties.Perm (W.ties.map (cf W.things)))(ht:W'.things=W.things)(t0:0≤W.things)(hp:∀k:Nat,(k:Int) < W.things→W'.pat.getD (W.things.toNat - 1 - k) 0=W.pat.getD k 0)(ha:W'.asks=W.asks):V≤V':=by
  refine h.le h' fun P F=>?_
  have gen:∀{as bs:List hJ},as.Perm bs→∀Q:List TL,Q.map (·.1)=bs→∃Q':List TL,Q'.map (·.1)=as∧Q'.Perm Q:=by
    intro as bs hab
    induction hab with
    | nil=>intro Q hQ;exact⟨Q,hQ,.refl _⟩
    | cons x _ ih=>
      intro Q hQ
      cases Q with
      | nil=>simp at hQ
      | cons q Q=>
        rw [Nx,So] at hQ
        obtain⟨Q',a,b⟩:=ih Q hQ.2
        exact⟨q::Q',by rw [Nx,a,hQ.1],.cons q b⟩
    | swap x y l=>
      intro Q hQ
      match Q,hQ with
      | a::b::Q,hQ=>
        simp only [Nx,So] at hQ
        exact⟨b::a::Q,by simp [hQ],.swap _ _ _⟩
    | trans _ _ i1 i2=>
      intro Q hQ
      obtain⟨Q1,a1,b1⟩:=i2 Q hQ
      obtain⟨Q2,a2,b2⟩:=i1 Q1 a1
      exact⟨Q2,a2,b2.trans b1⟩
  obtain⟨P',a,b⟩:=gen hperm (P.map fun p=>(cf W.things p.1,p.2)) (by rw [Os,←F.ties,Os];rfl)
  have mem:∀p'∈P',∃p∈P,p'=(cf W.things p.1,p.2):=fun p' hp'=>by
    obtain⟨p,q1,q2⟩:=MT (b.mem_iff.mp hp')
    exact⟨p,q1,q2.symm⟩
  have fl:∀(k:Nat) (t:hJ),(k:Int) < W.things→gq (k:Int) (cf W.things t)=gq ((W.things.toNat - 1 - k:Nat):Int) t:=fun k t hk=>by
    unfold gq cf
    have e:((W.things.toNat - 1 - k:Nat):Int)=W.things - 1 - k:=by lia
    rw [e]
    dsimp only
    rw [Bool.or_comm]
    congr 1<;>(rw [RG];simp;lia)
  refine⟨P',⟨a,fun p hp=>?_,fun p hp=>?_,fun k hk=>?_,fun k hk=>?_,?_⟩,?_⟩
  · obtain⟨q,q1,rfl⟩:=mem p hp;exact F.nn q q1
  · obtain⟨q,q1,rfl⟩:=mem p hp;exact F.once q q1
  · rw [ni b,o5,oZ (h:=kM ((W.things.toNat - 1 - k:Nat):Int)) fun p _=>by unfold kM;rw [fl k p.1 ↥0];rfl]
    exact F.keep _ ↥0
  · rw [ni b,o5,oZ (h:=km ((W.things.toNat - 1 - k:Nat):Int)) fun p _=>by unfold km;rw [fl k p.1 ↥0];rfl]
    have:=F.bear (W.things.toNat - 1 - k) ↥0
    have e:=hp (W.things.toNat - 1 - k) ↥0
    rw [show W.things.toNat - 1 - (W.things.toNat - 1 - k)=k by lia] at e
    rw [e];exact this
  · rw [ni b,o5,ha];exact F.ask
  · rw [ni b,o5];exact OG
def tj(W:bZ)(j:Nat):hJ:=W.ties.getD j ⟨0,0,0,0,0⟩
def wT(W:bZ):Nat:=W.things.toNat
def wM(W:bZ):Nat:=2*wT W+1+W.ties.length
def jU(W:bZ)(i j:Nat):Int:=
  if i < wT W then(if gq (i:Int) (tj W j)=true then(tj W j).top else 0)
  else if i < 2*wT W then(if gq ((i - wT W:Nat):Int) (tj W j)=true then(tj W j).bot else 0)
  else if i=2*wT W then(tj W j).bot else if j=i - (2*wT W+1) then(tj W j).bot else 0
def kO(W:bZ)(i:Nat):Int:=if i < wT W then 1 else if i < 2*wT W then W.pat.getD (i - wT W) 0 else if i=2*wT W then W.asks else 1
def io(W:bZ)(j:Nat):Int:=(tj W j).top*(tj W j).worth
section
variable{W:bZ}
theorem uF:(Nb W.ties.length).map (tj W)=W.ties:=by
  refine Ot fun i=>?_
  rw [NH]
  by_cases h:i < W.ties.length
  · rw [QO h];simp [tj,h]
  · rw [Qx ↥7,Qx ↥0];rfl
theorem jt{j:Nat}(h:j < W.ties.length):tj W j∈W.ties:=by
  have:tj W j=W.ties[j]:=by simp [tj,h]
  rw [this];exact Rh h
theorem nM(ok:W.Ok){x:Nat→Rat}:mv W.ties.length (wM W) (jU W) (kO W) x↔ p7 W ((Nb W.ties.length).map fun j=>(tj W j,x j)):=by
  have t0:=ok.t0
  have eT:(wT W:Int)=W.things:=by unfold wT;lia
  have k1:∀k:Nat,k < wT W→sq (fun j=>(jU W k j:Rat)*x j) W.ties.length=rs (kM k) ((Nb W.ties.length).map fun j=>(tj W j,x j)):=fun k hk=>by
    rw [jq]
    refine bB fun j hj=>?_
    unfold jU kM
    rw [if_pos hk]
    dsimp only
    split<;>simp
  have k2:∀k:Nat,k < wT W→sq (fun j=>(jU W (wT W+k) j:Rat)*x j) W.ties.length=rs (km k) ((Nb W.ties.length).map fun j=>(tj W j,x j)):=fun k hk=>by
    rw [jq]
    refine bB fun j hj=>?_
    unfold jU km
    rw [if_neg ↥0,if_pos ↥0,show wT W+k - wT W=k by lia]
    dsimp only
    split<;>simp
  have k3:sq (fun j=>(jU W (2*wT W) j:Rat)*x j) W.ties.length=rs lI ((Nb W.ties.length).map fun j=>(tj W j,x j)):=by
    rw [jq]
    refine bB fun j hj=>?_
    unfold jU lI
    rw [if_neg ↥0,if_neg ↥0,if_pos rfl]
  have k4:∀a:Nat,a < W.ties.length→sq (fun j=>(jU W (2*wT W+1+a) j:Rat)*x j) W.ties.length=lI (tj W a,x a):=fun a ha=>by
    have e:∀j,jU W (2*wT W+1+a) j=if j=a then(tj W j).bot else 0:=fun j=>by
      unfold jU
      rw [if_neg ↥0,if_neg ↥0,if_neg ↥0,show 2*wT W+1+a - (2*wT W+1)=a by lia]
    rw [F_ ha fun j hj z=>by rw [e,if_neg z];simp,e,if_pos rfl]
    rfl
  have b1:∀k,k < wT W→kO W k=1:=fun k hk=>by unfold kO;rw [if_pos hk]
  have b2:∀k,k < wT W→kO W (wT W+k)=W.pat.getD k 0:=fun k hk=>by unfold kO;rw [if_neg ↥0,if_pos ↥0,show wT W+k - wT W=k by lia]
  have b3:kO W (2*wT W)=W.asks:=by unfold kO;rw [if_neg ↥0,if_neg ↥0,if_pos rfl]
  have b4:∀a,kO W (2*wT W+1+a)=1:=fun a=>by unfold kO;rw [if_neg ↥0,if_neg ↥0,if_neg ↥0]
  constructor
  · rintro⟨h1,h2⟩
    refine⟨by rw [Os];exact uF,fun p hp=>?_,fun p hp=>?_,fun k hk=>?_,fun k hk=>?_,?_⟩
    · obtain⟨j,hj,rfl⟩:=MT hp
      exact h1 j (NB.mp hj)
    · obtain⟨j,hj,rfl⟩:=MT hp
      have:=h2 (2*wT W+1+j) (by unfold wM;have:=NB.mp hj;lia)
      rw [k4 j (NB.mp hj),b4] at this
      simpa using this
    · have:=h2 k (by unfold wM;lia)
      rw [k1 k ↥0,b1 k ↥0] at this
      simpa using this
    · have:=h2 (wT W+k) (by unfold wM;lia)
      rwa [k2 k ↥0,b2 k ↥0] at this
    · have:=h2 (2*wT W) (by unfold wM;lia)
      rwa [k3,b3] at this
  · intro F
    refine⟨fun j hj=>F.nn _ (Pi.mpr ⟨j,NB.mpr hj,rfl⟩),fun i hi=>?_⟩
    by_cases c1:i < wT W
    · rw [k1 i c1,b1 i c1];have:=F.keep i ↥0;simpa using this
    · by_cases c2:i < 2*wT W
      · have e:i=wT W+(i - wT W):=by lia
        rw [e,k2 _ ↥0,b2 _ ↥0];exact F.bear _ ↥0
      · by_cases c3:i=2*wT W
        · rw [c3,k3,b3];exact F.ask
        · unfold wM at hi
          have e:i=2*wT W+1+(i - (2*wT W+1)):=by lia
          rw [e,k4 _ ↥0,b4]
          have:=F.once _ (Pi.mpr ⟨i - (2*wT W+1),NB.mpr ↥0,rfl⟩)
          simpa using this
theorem wA{x:Nat→Rat}:l4 W.ties.length (io W) x=rs kD ((Nb W.ties.length).map fun j=>(tj W j,x j)):=by
  rw [jq]
  exact bB fun j hj=>rfl
theorem xR{P:List TL}(F:p7 W P):∃x:Nat→Rat,P=(Nb W.ties.length).map fun j=>(tj W j,x j):=by
  have hl:P.length=W.ties.length:=by rw [←F.ties,Nw]
  refine⟨fun j=>(P.getD j (⟨0,0,0,0,0⟩,0)).2,Ot fun i=>?_⟩
  rw [NH]
  by_cases h:i < W.ties.length
  · rw [QO h,NL ↥0,Ov]
    have:tj W i=(P[i]'↥0).1:=by
      unfold tj
      rw [←F.ties]
      simp [hl,h]
    rw [this]
    simp [hl,h]
  · rw [Qx ↥0,Qx ↥7];rfl
theorem Dy(ok:W.Ok){V:Rat}{X:Nat→Rat}(h1:mv W.ties.length (wM W) (jU W) (kO W) X)(h2:l4 W.ties.length (io W) X=V)(h3:∀x,mv W.ties.length (wM W) (jU W) (kO W) x→l4 W.ties.length (io W) x≤V):pM W V:=by
  refine⟨⟨_,(nM ok).mp h1,by rw [←wA];exact h2⟩,fun P F=>?_⟩
  obtain⟨x,rfl⟩:=xR F
  rw [←wA]
  exact h3 x ((nM ok).mpr F)
theorem HS{f h:Nat→Rat}{n:Nat}(q:∀j,j < n→f j≤h j):sq f n≤sq h n:=by
  induction n with
  | zero=>exact OG
  | succ n ih=>rw [sq,sq];have:=ih fun j hj=>q j ↥0;have:=q n ↥0;grind
theorem Io(ok:W.Ok){x:Nat→Rat}(h:mv W.ties.length (wM W) (jU W) (kO W) x):l4 W.ties.length (io W) x≤sq (fun j=>(io W j:Rat)) W.ties.length:=by
  refine HS fun j hj=>?_
  have F:=(nM ok).mp h
  have o:=F.once _ (Pi.mpr ⟨j,NB.mpr hj,rfl⟩)
  have n0:=F.nn _ (Pi.mpr ⟨j,NB.mpr hj,rfl⟩)
  have tk:=ok.ties _ (jt hj)
  unfold lI at o
  dsimp only at o n0
  have b1:(1:Rat)≤((tj W j).bot:Rat):=by exact_mod_cast tk.b0
  have x1:x j≤1:=by
    have:=QP b1 n0
    grind
  have g0:(0:Rat)≤(io W j:Rat):=by exact_mod_cast PH tk.c0 tk.w0
  have:=Rat.mul_le_mul_of_nonneg_left x1 g0
  grind
theorem Af(ok:W.Ok)(v i:Nat):(jI W.ties.length (wM W) (io W) (jU W) (kO W) v i).natAbs≤100000:=by
  refine Cf ⋯ (fun j hj=>?_) (fun i hi j hj=>?_) (fun i hi=>?_) v i
  · have tk:=ok.ties _ (jt hj)
    unfold io
    have h1:=tk.c0;have h2:=tk.c1;have h3:=tk.b1;have h4:=tk.w0;have h5:=tk.w1
    rw [Qq]
    have:(tj W j).top.natAbs*(tj W j).worth.natAbs≤100*1000:=Nat.mul_le_mul ↥0 ↥0
    lia
  · have tk:=ok.ties _ (jt hj)
    have h1:=tk.c0;have h2:=tk.c1;have h3:=tk.b1;have h4:=tk.b0
    unfold jU
    split
    · split<;>lia
    · split
      · split<;>lia
      · split
        · lia
        · split<;>lia
  · unfold kO
    split
    · decide
    · split
      · have:∀k,(W.pat.getD k 0).natAbs≤20:=fun k=>by
          rw [Pf]
          cases e:W.pat[k]? with
          | none=>simp
          | some p=>have:=ok.pat p (MV e);simp;lia
        have:=this (i - wT W)
        lia
      · split
        · have:=ok.a0;have:=ok.a1;lia
        · decide
theorem EU(ok:W.Ok)(i:Nat):0≤kO W i:=by
  unfold kO
  split
  · decide
  · split
    · rw [Pf]
      cases e:W.pat[i - wT W]? with
      | none=>simp
      | some p=>exact(ok.pat p (MV e)).1
    · split
      · exact ok.a0
      · decide
end
theorem xQ{m:Nat}(h:m≤40):wu (m+1)*100000 ^ (m+1) < 2 ^ 1000:=by
  have:∀m,m≤40→wu (m+1)*100000 ^ (m+1) < 2 ^ 1000:=by decide
  exact this m h
theorem lX{n:Nat}{t b:Int}(hb:0 < b)(ht:0≤t)(h1:Bt n t)(h2:Bt n b):Bt n (lowM t b).1∧Bt n (lowM t b).2∧0 < (lowM t b).2∧0≤(lowM t b).1:=by
  obtain⟨c,c0,e1,e2,p,q⟩:=Cd hb ht
  have l1:(lowM t b).1≤t:=by
    have:(lowM t b).1*1≤(lowM t b).1*c:=Rz ↥0 q
    lia
  have l2:(lowM t b).2≤b:=by
    have:(lowM t b).2*1≤(lowM t b).2*c:=Rz ↥0 (Int.le_of_lt p)
    lia
  unfold Bt at*
  exact⟨by lia,by lia,p,q⟩
theorem Gj{t b q:Int}(hb:0 < b):tm (lowM t b) (q,1)=lowM (t*q) b:=by
  have p:=(lF.lowM (t:=t) hb).pos
  refine pG (lF.lowM (Qc p Rl)) (lF.lowM hb) ?_
  rw [Ed p Rl,fD hb,fD hb,Gu,OT]
  have:=di hb
  generalize (b:Rat)=z at*
  grind
theorem Dp{L d p q:Int}(hd:0 < d)(hq:0 < q):tm (lowM (L*q) d) (lowM p q)=lowM (L*p) d:=by
  have p1:=(lF.lowM (t:=L*q) hd).pos
  have p2:=(lF.lowM (t:=p) hq).pos
  refine pG (lF.lowM (Qc p1 p2)) (lF.lowM hd) ?_
  rw [Ed p1 p2,fD hd,fD hq,fD hd,OT,OT]
  have h1:=di hd
  have h2:=di hq
  generalize (d:Rat)=z at*
  generalize (q:Rat)=y at*
  grind
theorem Fu{x y d:Int}(hd:0 < d):pl (lowM x d) (lowM y d)=lowM (x+y) d:=by
  have p1:=(lF.lowM (t:=x) hd).pos
  have p2:=(lF.lowM (t:=y) hd).pos
  refine pG (lF.pl p1 p2) (lF.lowM hd) ?_
  rw [Il p1 p2,fD hd,fD hd,fD hd,Rat.intCast_add]
  have h1:=di hd
  generalize (d:Rat)=z at*
  grind
theorem Ce{p q:Int}(hq:0 < q)(w:Int):tm (p,q) (w,1)=lowM (p*w) q:=by
  have:tm (p,q) (w,1)=lowM (p*w) (q*1):=rfl
  rw [this,Int.mul_one]
theorem tW{d:Int}(hd:0 < d):lowM 0 d=(0,1):=by
  refine pG (lF.lowM hd) ⟨by decide,by decide⟩ ?_
  rw [fD hd,JF]
  have:=di hd
  simp only [QM]
  generalize (d:Rat)=z at*
  grind
def kj(n m:Nat)(s:Tb)(v:Nat):Int:=(((Nb m).find? fun i=>(s.win i:Int)==(v:Int)).map fun i=>s.T i n).getD 0
theorem Cg{n m:Nat}{s:Tb}(hd:0 < s.d){v:Nat}:(((Nb m).find? fun i=>(s.win i:Int)==(v:Int)).map fun i=>lowM (s.T i n) s.d).getD (0,1)=lowM (kj n m s v) s.d:=by
  unfold kj
  cases (Nb m).find? fun i=>(s.win i:Int)==(v:Int) with
  | none=>simp [tW hd]
  | some i=>rfl
theorem Ag{n m:Nat}{C:Nat→Nat→Int}{s:Tb}(I:Iv n m C s){v:Nat}(hv:v < n){X:Nat→Rat}(hw:∀k,k≤m→X (s.win k)=(s.T k n:Rat) / (s.d:Rat))(ho:∀j,j < n→X (s.out j)=0):X v=(kj n m s v:Rat) / (s.d:Rat)∧0≤kj n m s v∧(kj n m s v=0∨∃i,i < m∧kj n m s v=s.T i n):=by
  unfold kj
  cases h:(Nb m).find? fun i=>(s.win i:Int)==(v:Int) with
  | none=>
    refine⟨?_,by simp,.inl rfl⟩
    have no:∀i,i < m→s.win i≠v:=fun i hi e=>by
      have:=List.find?_eq_none.mp h i (NB.mpr hi)
      simp [e] at this
    rcases I.cv v ↥0 with ⟨j,hj,e⟩ | ⟨k,hk,e⟩
    · rw [←e,ho j hj]
      simp only [Option.map_none,Option.getD_none,QM]
      grind
    · by_cases z:k=m
      · subst z;rw [I.wm] at e;lia
      · exact absurd e (no k ↥0)
  | some i=>
    have hi:=NB.mp (RJ h)
    have hp:=List.find?_some h
    simp only [beq_iff_eq] at hp
    have e:s.win i=v:=by lia
    refine⟨?_,I.fe i hi,.inr ⟨i,hi,rfl⟩⟩
    rw [←e];exact hw i ↥0
theorem xi{f:Nat→Int}:∀n:Nat,((sm f n:Int):Rat)=sq (fun j=>(f j:Rat)) n
  | 0=>rfl
  | n+1=>by rw [sm,sq,Rat.intCast_add,xi n]
theorem Bl{f:Nat→Int}:∀{n:Nat},(∀j,j < n→0≤f j)→0≤sm f n
  | 0,_=>Px _
  | n+1,h=>by rw [sm];have:=Bl (n:=n) fun j hj=>h j ↥0;have:=h n ↥0;lia
end L2
namespace V54
open PySem PySem.Spec PyProof.Rows L2
variable{P:Nk}{w:Ng}{K:W.Frag}{mg:Str→Option MX}{base:Nh}{f:MW}{fd:Nt}
local macro_rules|`(tactic|trivial)=>`(tactic|first|exact .inl rfl|exact .inr rfl|assumption)
local macro_rules|`(¬$n:num)=>`(@qw _ _ $n _ _ (by rfl) (by rfl) (by decide))
local macro_rules|`($a∘$b)=>`(@Jr _ _ _ _ _ _ $a $b (by rfl))
def top(i:Nat):Nq:=RN.main.body.getD i (.Pass ⟨0,0,0,0⟩)
theorem zx{α:Type u}{β:Type v}{f:α→β}:List.map f []=[]:=rfl
theorem zw{α:Type u}{β:Type v}{f:α→β}{a:α}{l:List α}:List.map f (a::l)=f a::List.map f l:=rfl
theorem zr{α:Type u}{l:List α}:[]++l=l:=rfl
theorem zq{α:Type u}{a:α}{l m:List α}:(a::l)++m=a::(l++m):=rfl
theorem zu{α:Type u}{a:α}{l:List α}:(a::l)[0]?=some a:=rfl
theorem zv{α:Type u}{a:α}{l:List α}{i:Nat}:(a::l)[i+1]?=l[i]?:=rfl
theorem zt{α:Type u}{β:Type v}{a:α}{f:α→Option β}:Option.bind (some a) f=f a:=rfl
theorem zy{α:Type u}{β:Type v}{a:α}{f:α→β}:Option.map f (some a)=some (f a):=rfl
abbrev cz:Nq:=top 3
abbrev bV:Nq:=top 6
abbrev fw:Nq:=top 7
abbrev mf:Nq:=top 8
abbrev gP:Nq:=top 9
abbrev jQ:Nq:=top 10
abbrev bK:Nq:=top 12
abbrev eC:Nq:=top 13
abbrev cA:Nq:=top 14
abbrev eB:Nq:=top 15
abbrev cX:Nq:=top 16
abbrev fX:Nq:=top 18
abbrev cB:Nq:=top 20
abbrev fY:Nq:=top 23
abbrev eD:Nq:=top 24
abbrev eA:Nq:=top 25
abbrev jP:Nq:=top 26
abbrev jN:Nq:=top 28
abbrev jM:Nq:=top 29
abbrev jr:Nq:=top 30
abbrev qu:Nq:=top 31
abbrev o8:Nq:=top 32
abbrev l_:Nq:=top 33
abbrev md:Nq:=top 34
abbrev iw:Nq:=top 35
abbrev jO:Nq:=top 36
abbrev me:Nq:=top 37
abbrev qA:Nq:=top 38
abbrev qz:Nq:=top 39
abbrev ma:Nq:=top 40
abbrev iy:Nq:=top 41
abbrev mJ:Nq:=top 42
structure jT (mg:Str→Option MX):Prop where
  b_abs:mg "abs"=none
  b_len:mg "len"=none
  b_min:mg "min"=none
  b_max:mg "max"=none
  b_range:mg "range"=none
  b_repr:mg "repr"=none
  b_tuple:mg "tuple"=none
  b_int:mg "int"=none
  b_zip:mg "zip"=none
  b_enumerate:mg "enumerate"=none
  b_list:mg "list"=none
  b_ValueError:mg "ValueError"=none
def i9:FS:=(j3 (a9 (aq BJ (ac 0) (ac 1)))
    D'
    fB)
def cx:FM:=iY 2 0 ([]++[]) i9
theorem i4:aM ["many","most"] ["many","most"] (aw cz):=⟨rfl,rfl,rfl,by decide+kernel,rfl,by decide+kernel,by decide+kernel⟩
theorem mR(h:bE K mg "refuse_above" cz f fd ["many","most"])(T:jT mg):aW P w K mg base cD 1 f fd ["many","most"] (cO K 2 cx):=by
  have nd:=i4.nd
  exact h.fn i4 rfl rfl (fun cdv A outer s H E hr=>(@au _ _ _ _ _ (@fm _ _ _ _ _ _ _ _ _ _ _ (@bH _ _ _ _ _ _ _ _ _ (@BR _ _) (¬0) (¬1) (bi _))
      (@au _ _ _ _ _ (@C7 _ _ _))
      (@cj _ _))))
def bW:FT:=(a9 (aq (cG true) (ac 1) (vC (.int 0))))
def cF:FS:=(sM 0 1 (aa (ac 1) (aa (aq bf (ac 0) (ac 1)) ai)))
def h_:FS:=(aE (iW (2 ^ 4200) bW cF)
    (bN (aJ (g1 vd) (aa (ac 0) ai))))
def cw:FM:=iY 2 0 ([0,1]++[]) h_
theorem gQ:aM ["one","other"] ["one","other"] (aw bV):=⟨rfl,rfl,rfl,by decide+kernel,rfl,by decide+kernel,by decide+kernel⟩
theorem kW(h:bE K mg "common_divisor" bV f fd ["one","other"])(T:jT mg):aW P w K mg base cD 1 f fd ["one","other"] (cO K 2 cw):=by
  have nd:=gQ.nd
  exact h.fn gQ rfl rfl (fun cdv A outer s H E hr=>(@ah _ _ _ _ _ _ _ _ (@k_ _ _ _ _ _ _ _ _ _ OH (@bH _ _ _ _ _ _ _ _ _ (@yZ _ _ _ rfl hr) (¬1) ae (bi _))
      (@au _ _ _ _ _ (@sD _ _ _ _ _ 0 1 _ _ _ _ _ _ _ _ _ rfl nd rfl rfl ⋯ rfl rfl ((¬1)∘((@br _ _ _ _ _ _ _ (¬0) (¬1))∘ag)) ∅ ∅)))
      (@au _ _ _ _ _ (@aX _ _ _ _ _ (@bA _ _ _ _ _ _ _ _ _ (@b_abs _ _) ∅ T.b_abs ((¬0)∘ag) ⋯ ⋯ ∅ ∅)))))
def tD:FS:=(aE (aF 2 (b_ 2 cw (aa (ac 0) (aa (ac 1) ai))))
    (aE (j3 (a9 (aq wz (ac 1) (vC (.int 0))))
    (aF 2 (ny ig (ac 2)))
    fB)
    (bN (bI (aa (aq c_ (ac 0) (ac 2)) (aa (aq c_ (ac 1) (ac 2)) ai))))))
def dg:FM:=iY 2 1 ([2]++(([2]++[])++[])) tD
theorem qE:aM ["top","bottom","divisor"] ["top","bottom"] (aw fw):=⟨rfl,rfl,rfl,by decide+kernel,rfl,by decide+kernel,by decide+kernel⟩
theorem yh(h:bE K mg "lowest" fw f fd ["top","bottom"])(T:jT mg){K5:MW}{K6:Nt}(KD:bE K mg "common_divisor" bV K5 K6 ["one","other"])(KL:aW P w K mg base cD 1 K5 K6 ["one","other"] (cO K 2 cw)):aW P w K mg base cD 2 f fd ["top","bottom"] (cO K 2 dg):=by
  have nd:=qE.nd
  exact h.fn qE rfl rfl (fun cdv A outer s H E hr=>(@ah _ _ _ _ _ _ _ _ (@aL _ _ _ _ _ 2 _ _ nd rfl ↥3 (@bu _ _ _ _ _ _ _ _ _ _ _ _ _ _ _ KD KL (hr.mono ⋯) ((¬0)∘((¬1)∘ag)) ∅ ⋯ ∅ ∅) ∅ (by trivial))
      (@ah _ _ _ _ _ _ _ _ (@fm _ _ _ _ _ _ _ _ _ _ _ (@bH _ _ _ _ _ _ _ _ _ (@tF _ _) (¬1) ae (bi _))
      (@au _ _ _ _ _ (@aL _ _ _ _ _ 2 _ _ nd rfl ↥3 (@kZ _ _ _ _ _ (¬2)) ∅ (by trivial)))
      (@cj _ _))
      (@au _ _ _ _ _ (@aX _ _ _ _ _ (@ba _ _ _ _ _ _ ((@eU _ _ _ _ _ _ _ (¬0) (¬2))∘((@eU _ _ _ _ _ _ _ (¬1) (¬2))∘ag))))))))
def yV:FS:=(bN (b_ 2 dg (aa (aq aO (aq bJ (aq a8 (ac 0) (vC (.int 0))) (aq a8 (ac 1) (vC (.int 1)))) (aq bJ (aq a8 (ac 1) (vC (.int 0))) (aq a8 (ac 0) (vC (.int 1))))) (aa (aq bJ (aq a8 (ac 0) (vC (.int 1))) (aq a8 (ac 1) (vC (.int 1)))) ai))))
def oJ:FM:=iY 2 0 [] yV
theorem xh:aM ["one","other"] ["one","other"] (aw mf):=⟨rfl,rfl,rfl,by decide+kernel,rfl,by decide+kernel,by decide+kernel⟩
theorem Ct(h:bE K mg "plus" mf f fd ["one","other"])(T:jT mg){KN:MW}{KO:Nt}(KF:bE K mg "lowest" fw KN KO ["top","bottom"])(KG:aW P w K mg base cD 2 KN KO ["top","bottom"] (cO K 2 dg)):aW P w K mg base cD 3 f fd ["one","other"] (cO K 2 oJ):=by
  have nd:=xh.nd
  exact h.fn xh rfl rfl (fun cdv A outer s H E hr=>(@au _ _ _ _ _ (@aX _ _ _ _ _ (@bu _ _ _ _ _ _ _ _ _ _ _ _ _ _ _ KF KG (hr.mono ⋯) ((@bh _ _ _ _ _ _ _ rfl (@cV _ _ _ _ _ _ _ rfl (@aU _ _ _ _ _ _ _ rfl (¬0) ae ↥4) (@aU _ _ _ _ _ _ _ rfl (¬1) ae ↥4)) (@cV _ _ _ _ _ _ _ rfl (@aU _ _ _ _ _ _ _ rfl (¬1) ae ↥4) (@aU _ _ _ _ _ _ _ rfl (¬0) ae ↥4)))∘((@cV _ _ _ _ _ _ _ rfl (@aU _ _ _ _ _ _ _ rfl (¬0) ae ↥4) (@aU _ _ _ _ _ _ _ rfl (¬1) ae ↥4))∘ag)) ∅ ⋯ ∅ ∅))))
def wc:FS:=(bN (b_ 2 dg (aa (aq bJ (aq a8 (ac 0) (vC (.int 0))) (aq a8 (ac 1) (vC (.int 0)))) (aa (aq bJ (aq a8 (ac 0) (vC (.int 1))) (aq a8 (ac 1) (vC (.int 1)))) ai))))
def fQ:FM:=iY 2 0 [] wc
theorem uv:aM ["one","other"] ["one","other"] (aw gP):=⟨rfl,rfl,rfl,by decide+kernel,rfl,by decide+kernel,by decide+kernel⟩
theorem Ap(h:bE K mg "times" gP f fd ["one","other"])(T:jT mg){KN:MW}{KO:Nt}(KF:bE K mg "lowest" fw KN KO ["top","bottom"])(KG:aW P w K mg base cD 2 KN KO ["top","bottom"] (cO K 2 dg)):aW P w K mg base cD 3 f fd ["one","other"] (cO K 2 fQ):=by
  have nd:=uv.nd
  exact h.fn uv rfl rfl (fun cdv A outer s H E hr=>(@au _ _ _ _ _ (@aX _ _ _ _ _ (@bu _ _ _ _ _ _ _ _ _ _ _ _ _ _ _ KF KG (hr.mono ⋯) ((@cV _ _ _ _ _ _ _ rfl (@aU _ _ _ _ _ _ _ rfl (¬0) ae ↥4) (@aU _ _ _ _ _ _ _ rfl (¬1) ae ↥4))∘((@cV _ _ _ _ _ _ _ rfl (@aU _ _ _ _ _ _ _ rfl (¬0) ae ↥4) (@aU _ _ _ _ _ _ _ rfl (¬1) ae ↥4))∘ag)) ∅ ⋯ ∅ ∅))))
def jH:FI:=(kJ (ac 0))
def ia:FS:=(aF 1 (b_ 2 oJ (aa (ac 1) (aa (ac 2) ai))))
def wd:FS:=(aE (aF 1 (vC (.tuple [.int (0),.int (1)])))
    (aE (eV ([2]++[1]) jH (af 2) ia)
    (bN (ac 1))))
def kS:FM:=iY 1 2 ([1]++(([2]++[1])++[])) wd
theorem uw:aM ["row","amount","part"] ["row"] (aw jQ):=⟨rfl,rfl,rfl,by decide+kernel,rfl,by decide+kernel,by decide+kernel⟩
theorem Aq(h:bE K mg "total" jQ f fd ["row"])(T:jT mg){Mv:MW}{Mw:Nt}(L3:bE K mg "plus" mf Mv Mw ["one","other"])(Ma:aW P w K mg base cD 3 Mv Mw ["one","other"] (cO K 2 oJ)){g_ZERO:MW}(m_ZERO:mg "ZERO"=some (.ref g_ZERO))(c_ZERO:∀F,DA K F (.tuple [.int (0),.int (1)]) (.ref g_ZERO)):aW P w K mg base cD 4 f fd ["row"] (cO K 1 kS):=by
  have nd:=uw.nd
  exact h.fn uw rfl rfl (fun cdv A outer s H E hr=>(@ah _ _ _ _ _ _ _ _ (@aL _ _ _ _ _ 1 _ _ nd rfl ↥3 (@ng _ _ _ (V.ref g_ZERO) _ _ (PyData.tuple [.int (0),.int (1)]) rfl m_ZERO rfl c_ZERO ⋯) ∅ (by trivial))
      (@ah _ _ _ _ _ _ _ _ (@gZ _ _ _ _ _ _ _ _ _ _ _ OH rfl (@jo _ _ _ _ _ rfl (¬0)) (@ar _ _ _ 2 _ nd rfl ↥3 (by trivial))
      (@au _ _ _ _ _ (@aL _ _ _ _ _ 1 _ _ nd rfl ↥3 (@bu _ _ _ _ _ _ _ _ _ _ _ _ _ _ _ L3 Ma (hr.mono ⋯) ((¬1)∘((¬2)∘ag)) ∅ ⋯ ∅ ∅) ∅ (by trivial))) ↥5)
      (@au _ _ _ _ _ (@aX _ _ _ _ _ (¬1))))))
def fK:FI:=(tQ (aa (ac 1) ai))
def dA:FT:=(a9 (aq wz (aq a8 (ac 0) (ac 1)) (vC (.int 0))))
def dC:FE:=(bI (aa (ac 2) (aa (ac 1) ai)))
def eE:FS:=(aE (aF 2 (bb [(0,"foot")] 2 fK (aV (ao (af 1) (ao (af 2) aS))) dA dC))
    (bN (Du (uL (ac 2)) (aq a8 (aJ (g1 nW) (aa (ac 2) ai)) (vC (.int 1))) (vC .none))))
def aP:FM:=iY 2 1 ([2]++[]) eE
theorem gw:aM ["foot","outside","growing"] ["foot","outside"] (aw bK):=⟨rfl,rfl,rfl,by decide+kernel,rfl,by decide+kernel,by decide+kernel⟩
theorem ke(h:bE K mg "column_to_enter" bK f fd ["foot","outside"])(T:jT mg):aW P w K mg base cD 1 f fd ["foot","outside"] (cO K 2 aP):=by
  have nd:=gw.nd
  exact h.fn gw rfl rfl (fun cdv A outer s H E hr=>(@ah _ _ _ _ _ _ _ _ (@eS _ _ _ (2) _ _ _ _ _ _ _ _ _ _ _ _ _ [(0,"foot")] ["column","variable"] rfl rfl (@sC _ _ _ _ _ _ _ _ _ rfl rfl T.b_enumerate ((¬1)∘ag) ∅)
        (fun C s0 H0 fp=>(@cK _ _ _ _ _ _ _ _ rfl rfl (@ax _ _ _ _ _ _ _ _ (@ar _ _ _ 1 _ (show NM (["foot","column","variable"]:List Str) by decide+kernel) rfl ↥3 (by trivial)) (@ax _ _ _ _ _ _ _ _ (@ar _ _ _ 2 _ (show NM (["foot","column","variable"]:List Str) by decide+kernel) rfl ↥3 (by trivial)) (@bQ _ _) ∅) ∅) (aC (aC cH)) ∅ ∅)) (fun C s0 H0 fp=>(@Dc _ _ _ _ (@bH _ _ _ _ _ _ _ _ _ (@tF _ _) (@aU _ _ _ _ _ _ _ rfl (¬0) (¬1) ↥4) ae (bi _))))
        (fun C s0 H0 fp=>(@ba _ _ _ _ _ _ ((¬2)∘((¬1)∘ag)))) rfl ∅ nd rfl rfl ∅ ↥5)
      (@au _ _ _ _ _ (@aX _ _ _ _ _ (@k8 _ _ _ _ _ _ _ _ _ (@FK _ _ _ _ rfl (¬2) ↥5) (@aU _ _ _ _ _ _ _ rfl (@bA _ _ _ _ _ _ _ _ _ (@Et _ _ _ rfl rfl hr) ∅ T.b_min ((¬2)∘ag) ⋯ ⋯ ∅ ∅) ae ↥4) (@oT _ _ _ _))))))
def gF:FS:=(aE (sM 2 3 (aa (aq bJ (aq a8 (ac 0) (vC (.int 0))) (aq a8 (ac 1) (vC (.int 1)))) (aa (aq bJ (aq a8 (ac 1) (vC (.int 0))) (aq a8 (ac 0) (vC (.int 1)))) ai)))
    (bN (yG (aq wz (ac 2) (ac 3)) (qM (aq (cG false) (ac 2) (ac 3)) (aq wz (aq a8 (ac 0) (vC (.int 2))) (aq a8 (ac 1) (vC (.int 2))))))))
def de:FM:=iY 2 2 ([2,3]++[]) gF
theorem lj:aM ["one","other","first","second"] ["one","other"] (aw eC):=⟨rfl,rfl,rfl,by decide+kernel,rfl,by decide+kernel,by decide+kernel⟩
theorem r9(h:bE K mg "is_sooner" eC f fd ["one","other"])(T:jT mg):aW P w K mg base cD 1 f fd ["one","other"] (cO K 2 de):=by
  have nd:=lj.nd
  exact h.fn lj rfl rfl (fun cdv A outer s H E hr=>(@ah _ _ _ _ _ _ _ _ (@sD _ _ _ _ _ 2 3 _ _ _ _ _ _ _ _ _ rfl nd rfl rfl ⋯ rfl rfl ((@cV _ _ _ _ _ _ _ rfl (@aU _ _ _ _ _ _ _ rfl (¬0) ae ↥4) (@aU _ _ _ _ _ _ _ rfl (¬1) ae ↥4))∘((@cV _ _ _ _ _ _ _ rfl (@aU _ _ _ _ _ _ _ rfl (¬1) ae ↥4) (@aU _ _ _ _ _ _ _ rfl (¬0) ae ↥4))∘ag)) ∅ ∅)
      (@au _ _ _ _ _ (@aX _ _ _ _ _ (@HC _ _ _ _ _ _ _ _ (@oS _ _ _ _ _ _ _ _ _ (@tF _ _) (¬2) (¬3) (bi _)) (@AX _ _ _ _ _ _ (@FB _ _ _ _ _ _ _ _ (@oS _ _ _ _ _ _ _ _ _ (@pN _ _ _ rfl hr) (¬2) (¬3) (bi _)) (@AX _ _ _ _ _ _ (@oS _ _ _ _ _ _ _ _ _ (@tF _ _) (@aU _ _ _ _ _ _ _ rfl (¬0) ae ↥4) (@aU _ _ _ _ _ _ _ rfl (¬1) ae ↥4) (bi _))))))))))
def eK:FI:=(tQ (aa (ac 1) ai))
def bj:FS:=(aE (aF 7 (bI (aa (aq a8 (aq a8 (ac 0) (ac 5)) (ny ig (vC (.int 1)))) (aa (aq a8 (aq a8 (ac 0) (ac 5)) (ac 2)) (aa (ac 6) ai)))))
    (j3 (mX (a9 (aq BJ (aq a8 (ac 7) (vC (.int 1))) (vC (.int 0)))) (Gr (a9 (aq G0 (ac 3) (vC .none))) (a9 (b_ 2 de (aa (ac 7) (aa (ac 3) ai))))))
    (sM 3 4 (aa (ac 7) (aa (ac 5) ai)))
    fB))
def i_:FS:=(aE (g_ (bI (aa (vC .none) (aa (vC .none) ai))) (aV (ao (af 3) (ao (af 4) aS))))
    (aE (eV (([5]++([6]++[]))++([7]++([3,4]++[]))) eK (aV (ao (af 5) (ao (af 6) aS))) bj)
    (bN (ac 4))))
def cy:FM:=iY 3 5 (([3]++([4]++[]))++((([5]++([6]++[]))++([7]++([3,4]++[])))++[])) i_
theorem i5:aM ["tableau","within","column","best","place","at","variable","here"] ["tableau","within","column"] (aw cA):=⟨rfl,rfl,rfl,by decide+kernel,rfl,by decide+kernel,by decide+kernel⟩
theorem mS(h:bE K mg "row_to_leave" cA f fd ["tableau","within","column"])(T:jT mg){Lv:MW}{Lw:Nt}(KY:bE K mg "is_sooner" eC Lv Lw ["one","other"])(Ld:aW P w K mg base cD 1 Lv Lw ["one","other"] (cO K 2 de)):aW P w K mg base cD 2 f fd ["tableau","within","column"] (cO K 3 cy):=by
  have nd:=i5.nd
  exact h.fn i5 rfl rfl (fun cdv A outer s H E hr=>(@ah _ _ _ _ _ _ _ _ (@iS _ _ _ _ _ _ _ _ (@ba _ _ _ _ _ _ ((@oT _ _ _ _)∘((@oT _ _ _ _)∘ag))) (@cK _ _ _ _ _ _ _ _ rfl rfl (@ax _ _ _ _ _ _ _ _ (@ar _ _ _ 3 _ nd rfl ↥3 (by trivial)) (@ax _ _ _ _ _ _ _ _ (@ar _ _ _ 4 _ nd rfl ↥3 (by trivial)) (@bQ _ _) ∅) ∅) (aC (aC cH)) ∅ ∅) ∅ ∅ ∅)
      (@ah _ _ _ _ _ _ _ _ (@gZ _ _ _ _ _ _ _ _ _ _ _ OH rfl (@sC _ _ _ _ _ _ _ _ _ rfl rfl T.b_enumerate ((¬1)∘ag) ∅) (@cK _ _ _ _ _ _ _ _ rfl rfl (@ax _ _ _ _ _ _ _ _ (@ar _ _ _ 5 _ nd rfl ↥3 (by trivial)) (@ax _ _ _ _ _ _ _ _ (@ar _ _ _ 6 _ nd rfl ↥3 (by trivial)) (@bQ _ _) ∅) ∅) (aC (aC cH)) ∅ ∅)
      (@ah _ _ _ _ _ _ _ _ (@aL _ _ _ _ _ 7 _ _ nd rfl ↥3 (@ba _ _ _ _ _ _ ((@aU _ _ _ _ _ _ _ rfl (@aU _ _ _ _ _ _ _ rfl (¬0) (¬5) ↥4) (@kZ _ _ _ _ _ ae) ↥4)∘((@aU _ _ _ _ _ _ _ rfl (@aU _ _ _ _ _ _ _ rfl (¬0) (¬5) ↥4) (¬2) ↥4)∘((¬6)∘ag)))) ∅ (by trivial))
      (@au _ _ _ _ _ (@fm _ _ _ _ _ _ _ _ _ _ _ (@A0 _ _ _ _ (@sG _ _ _ _ _ _ _ _ (@bH _ _ _ _ _ _ _ _ _ (@BR _ _) (@aU _ _ _ _ _ _ _ rfl (¬7) ae ↥4) ae (bi _)) (@nh _ _ _ _ _ (@A0 _ _ _ _ (@HF _ _ _ _ _ _ _ _ (@bH _ _ _ _ _ _ _ _ _ (@IZ _ _) (¬3) (@oT _ _ _ _) (bi _)) (@FL _ _ _ _ _ (@sE _ _ _ _ (@bu _ _ _ _ _ _ _ _ _ _ _ _ _ _ _ KY Ld (hr.mono ⋯) ((¬7)∘((¬3)∘ag)) ∅ ⋯ ∅ ∅) ↥5)))))))
      (@au _ _ _ _ _ (@sD _ _ _ _ _ 3 4 _ _ _ _ _ _ _ _ _ rfl nd rfl rfl ⋯ rfl rfl ((¬7)∘((¬5)∘ag)) ∅ ∅))
      (@cj _ _)))) ↥5)
      (@au _ _ _ _ _ (@aX _ _ _ _ _ (¬4))))))
def dM:FI:=(mF (aa (ac 6) (aa (aq a8 (ac 0) (ac 2)) ai)))
def eY:FE:=(aq c_ (aq gn (aq bJ (ac 4) (ac 1)) (aq bJ (aq a8 (ac 2) (ac 3)) (ac 5))) (ac 0))
def gY:FI:=(kJ (ac 0))
def dJ:FS:=(aE (aF 7 (bb [(1,"bottom"),(4,"pivot"),(6,"row"),(3,"column")] 2 dM (aV (ao (af 4) (ao (af 5) aS))) aZ eY))
    (aE (lg (ny ig (aq a8 (ac 6) (ac 3))) (ac 7) (ac 3))
    (sL 5 7)))
def i8:FS:=(aE (aF 4 (aq a8 (aq a8 (ac 0) (ac 2)) (ac 3)))
    (aE (Bc 5)
    (aE (eV ([6]++([7]++([]++[]))) gY (af 6) dJ)
    (aE (um 5 (aJ (g1 je) (aa (aq a8 (ac 0) (ac 2)) ai)) (ac 2))
    (aE (w6 5 (ac 1) (ac 2) (t9 3))
    (wZ 5))))))
def ed:FM:=iY 4 4 ([4]++([5]++(([6]++([7]++([]++[])))++([]++([]++[]))))) i8
theorem li:aM ["tableau","bottom","place","column","pivot","told","row","entries"] ["tableau","bottom","place","column"] (aw eB):=⟨rfl,rfl,rfl,by decide+kernel,rfl,by decide+kernel,by decide+kernel⟩
theorem r8(h:bE K mg "exchanged" eB f fd ["tableau","bottom","place","column"])(T:jT mg):aW P w K mg base cD 1 f fd ["tableau","bottom","place","column"] (cO K 4 ed):=by
  have nd:=li.nd
  exact h.fn li rfl rfl (fun cdv A outer s H E hr=>(@ah _ _ _ _ _ _ _ _ (@aL _ _ _ _ _ 4 _ _ nd rfl (Or.inr rfl) (@aU _ _ _ _ _ _ _ rfl (@aU _ _ _ _ _ _ _ rfl (¬0) (¬2) ↥4) (¬3) ↥4) ∅ (by trivial))
      (@ah _ _ _ _ _ _ _ _ (@C8 _ _ _ _ _ _ 5 nd rfl ↥3 ∅ (by trivial))
      (@ah _ _ _ _ _ _ _ _ (@gZ _ _ _ _ _ _ _ _ _ _ _ OH rfl (@jo _ _ _ _ _ rfl (¬0)) (@ar _ _ _ 6 _ nd rfl (Or.inr rfl) (by trivial))
      (@ah _ _ _ _ _ _ _ _ (@eS _ _ _ (7) _ _ _ _ _ _ _ _ _ _ _ _ _ [(1,"bottom"),(4,"pivot"),(6,"row"),(3,"column")] ["entry","other"] rfl rfl (@k9 _ _ _ _ _ _ _ _ _ _ rfl rfl T.b_zip ((¬6)∘((@aU _ _ _ _ _ _ _ rfl (¬0) (¬2) ↥4)∘ag)) ∅ ∅)
        (fun C s0 H0 fp=>(@cK _ _ _ _ _ _ _ _ rfl rfl (@ax _ _ _ _ _ _ _ _ (@ar _ _ _ 4 _ (show NM (["bottom","pivot","row","column","entry","other"]:List Str) by decide+kernel) rfl ↥3 (by trivial)) (@ax _ _ _ _ _ _ _ _ (@ar _ _ _ 5 _ (show NM (["bottom","pivot","row","column","entry","other"]:List Str) by decide+kernel) rfl ↥3 (by trivial)) (@bQ _ _) ∅) ∅) (aC (aC cH)) ∅ ∅)) (fun C s0 H0 fp=>(@cL _ _))
        (fun C s0 H0 fp=>(@eU _ _ _ _ _ _ _ (@mI _ _ _ _ _ _ _ (@cV _ _ _ _ _ _ _ rfl (¬4) (¬1)) (@cV _ _ _ _ _ _ _ rfl (@aU _ _ _ _ _ _ _ rfl (¬2) (¬3) ↥4) (¬5))) (¬0))) rfl ∅ nd rfl rfl ∅ ↥5)
      (@ah _ _ _ _ _ _ _ _ (@vK _ _ _ _ _ _ _ _ _ _ (@kZ _ _ _ _ _ (@aU _ _ _ _ _ _ _ rfl (¬6) (¬3) ↥4)) (¬7) (¬3) ↥5 ∅ ∅ ∅)
      (@au _ _ _ _ _ (@AZ _ _ _ _ _ _ _ 5 7 _ _ rfl ⋯ ∅ (by first | exact Or.inl rfl | exact Or.inr ↥3 | exact Or.inr (Or.inr rfl)) ⋯ ⋯ ∅ (by first | exact Or.inl rfl | exact Or.inr ↥3 | exact Or.inr (Or.inr rfl)) ⋯ ⋯ ∅ ∅ ∅ ∅ ∅ ∅ ∅)))) ↥5)
      (@ah _ _ _ _ _ _ _ _ (@C_ _ _ _ _ _ 5 _ _ _ _ _ rfl (@bA _ _ _ _ _ _ _ _ _ (@b_list _ _ rfl) ∅ T.b_list ((@aU _ _ _ _ _ _ _ rfl (¬0) (¬2) ↥4)∘ag) ⋯ ⋯ ∅ ∅) ∅ (by first | exact Or.inl rfl | exact Or.inr ↥3 | exact Or.inr (Or.inr rfl)) ⋯ ⋯ (¬2) ↥5 ∅ ∅ ∅)
      (@ah _ _ _ _ _ _ _ _ (@C' _ _ _ _ _ _ 5 _ _ _ _ _ _ _ rfl (¬1) ∅ (by first | exact Or.inl rfl | exact Or.inr ↥3 | exact Or.inr (Or.inr rfl)) ⋯ ⋯ (¬2) ↥4 (@FD _ _ _ _ 3 ∅ (by first | exact Or.inl rfl | exact Or.inr ↥3 | exact Or.inr (Or.inr rfl)) ⋯ ⋯) ↥5 ∅ ∅ ∅)
      (@au _ _ _ _ _ (@C9 _ _ _ _ _ 5 ∅ (by first | exact Or.inl rfl | exact Or.inr ↥3 | exact Or.inr (Or.inr rfl)) ⋯ ⋯))))))))
def fy:FI:=(rQ (aa (ac 3) (aa (aq aO (ac 3) (aJ (g1 cY) (aa (ac 1) ai))) ai)))
def dR:FE:=(mq (ac 0) (ac 1) (vC (.tuple [.int (0),.int (1)])))
def dU:FI:=(cI (aa (ac 3) ai))
def dS:FE:=(mq (ac 0) (ac 1) (vC (.tuple [.int (0),.int (1)])))
def cU:FI:=(mF (aa (ac 5) (aa (aq a8 (ac 4) (ny ig (vC (.int 1)))) ai)))
def cS:FE:=(b_ 2 dg (aa (ac 2) (aa (ac 0) ai)))
def dW:FI:=(mF (aa (ac 6) (aa (ac 4) ai)))
def cT:FE:=(b_ 2 dg (aa (aq a8 (ac 2) (ny ig (vC (.int 1)))) (aa (ac 0) ai)))
def cQ:FT:=(a9 (aq nU (ac 8) (vC .none)))
def ck:FS:=(aE (aF 9 (b_ 3 cy (aa (ac 4) (aa (ac 6) (aa (ac 8) ai)))))
    (aE (g_ (bI (aa (b_ 4 ed (aa (ac 4) (aa (ac 7) (aa (ac 9) (aa (ac 8) ai))))) (aa (aq a8 (aq a8 (ac 4) (ac 9)) (ac 8)) ai))) (aV (ao (af 4) (ao (af 7) aS))))
    (aE (aF 10 (aq a8 (ac 5) (ac 8)))
    (aE (lg (aq a8 (ac 6) (ac 9)) (ac 5) (ac 8))
    (aE (lg (ac 10) (ac 6) (ac 9))
    (aF 8 (b_ 2 aP (aa (aq a8 (ac 4) (ny ig (vC (.int 1)))) (aa (ac 5) ai)))))))))
def bU:FI:=(mF (aa (ac 1) (aa (ac 2) ai)))
def bD:FE:=(aq aO (aJ (g1 je) (aa (ac 0) ai)) (cC (aa (ac 1) ai)))
def bo:FI:=(kJ (ac 0))
def a_:FE:=(ny ig (ac 0))
def gW:FS:=(aE (aF 3 (aJ (g1 cY) (aa (ac 0) ai)))
    (aE (aF 4 (sU (aq aO (bb [] 2 bU (aV (ao (af 0) (ao (af 1) aS))) aZ bD) (cC (aa (aq aO (bb [] 1 bo (af 0) aZ a_) (cC (aa (vC (.int 0)) ai))) ai)))))
    (aE (qB 5 6 (jS (aa (ac 3) ai)) (iB (aa (ac 3) (aa (aq aO (ac 3) (aJ (g1 cY) (aa (ac 1) ai))) ai))))
    (aE (aF 7 (vC (.int 1)))
    (aE (aF 8 (b_ 2 aP (aa (aq a8 (ac 4) (ny ig (vC (.int 1)))) (aa (ac 5) ai))))
    (aE (iW (2 ^ 4200) cQ ck)
    (aE (aF 11 (eH [(7,"bottom")] 2 dW (aV (ao (af 1) (ao (af 2) aS))) 1 cT))
    (aE (aF 12 (eH [(7,"bottom")] 2 cU (aV (ao (af 1) (ao (af 2) aS))) 1 cS))
    (bN (bI (aa (aJ (g1 cZ) (aa (bb [(11,"levels")] 1 dU (af 1) aZ dS) ai)) (aa (aJ (g1 cZ) (aa (bb [(12,"prices")] 1 fy (af 1) aZ dR) ai)) ai))))))))))))
def cc:FM:=iY 3 10 ([3]++([4]++([5,6]++([7]++([8]++(([9]++(([4]++([7]++[]))++([10]++([]++([]++[8])))))++([11]++([12]++[])))))))) gW
theorem js:aM ["gains","rows","limits","many","tableau","outside","within","bottom","column","place","entering","levels","prices"] ["gains","rows","limits"] (aw cX):=⟨rfl,rfl,rfl,by decide+kernel,rfl,by decide+kernel,by decide+kernel⟩
theorem oP(h:bE K mg "best_levels" cX f fd ["gains","rows","limits"])(T:jT mg){KU:MW}{KW:Nt}(Ky:bE K mg "column_to_enter" bK KU KW ["foot","outside"])(KA:aW P w K mg base cD 1 KU KW ["foot","outside"] (cO K 2 aP)){K9:MW}{K_:Nt}(KH:bE K mg "row_to_leave" cA K9 K_ ["tableau","within","column"])(KP:aW P w K mg base cD 2 K9 K_ ["tableau","within","column"] (cO K 3 cy)){KN:MW}{KO:Nt}(KF:bE K mg "lowest" fw KN KO ["top","bottom"])(KG:aW P w K mg base cD 2 KN KO ["top","bottom"] (cO K 2 dg)){Lx:MW}{Ly:Nt}(KZ:bE K mg "exchanged" eB Lx Ly ["tableau","bottom","place","column"])(Le:aW P w K mg base cD 1 Lx Ly ["tableau","bottom","place","column"] (cO K 4 ed)){g_ZERO:MW}(m_ZERO:mg "ZERO"=some (.ref g_ZERO))(c_ZERO:∀F,DA K F (.tuple [.int (0),.int (1)]) (.ref g_ZERO)):aW P w K mg base cD 3 f fd ["gains","rows","limits"] (cO K 3 cc):=by
  have nd:=js.nd
  exact h.fn js rfl rfl (fun cdv A outer s H E hr=>(@ah _ _ _ _ _ _ _ _ (@aL _ _ _ _ _ 3 _ _ nd rfl ↥3 (@bA _ _ _ _ _ _ _ _ _ (@b_len _ _ rfl) ∅ T.b_len ((¬0)∘ag) ⋯ ⋯ ∅ ∅) ∅ (by trivial))
      (@ah _ _ _ _ _ _ _ _ (@aL _ _ _ _ _ 4 _ _ nd rfl ↥3 (@D4 _ _ _ _ (@bh _ _ _ _ _ _ _ rfl (@e6 _ _ _ _ _ _ _ _ _ _ _ _ _ [] ["row","limit"] rfl rfl (@k9 _ _ _ _ _ _ _ _ _ _ rfl rfl T.b_zip ((¬1)∘((¬2)∘ag)) ∅ ∅)
        (fun C s0 H0 fp=>(@cK _ _ _ _ _ _ _ _ rfl rfl (@ax _ _ _ _ _ _ _ _ (@ar _ _ _ 0 _ (show NM (["row","limit"]:List Str) by decide+kernel) rfl ↥3 (by trivial)) (@ax _ _ _ _ _ _ _ _ (@ar _ _ _ 1 _ (show NM (["row","limit"]:List Str) by decide+kernel) rfl ↥3 (by trivial)) (@bQ _ _) ∅) ∅) (aC (aC cH)) ∅ ∅)) (fun C s0 H0 fp=>(@cL _ _))
        (fun C s0 H0 fp=>(@bh _ _ _ _ _ _ _ rfl (@bA _ _ _ _ _ _ _ _ _ (@b_list _ _ rfl) ∅ T.b_list ((¬0)∘ag) ⋯ ⋯ ∅ ∅) (@c9 _ _ _ _ _ ((¬1)∘ag)))) rfl ∅ ↥5) (@c9 _ _ _ _ _ ((@bh _ _ _ _ _ _ _ rfl (@e6 _ _ _ _ _ _ _ _ _ _ _ _ _ [] ["gain"] rfl rfl (@jo _ _ _ _ _ rfl (¬0))
        (fun C s0 H0 fp=>(@ar _ _ _ 0 _ (show NM (["gain"]:List Str) by decide+kernel) rfl ↥3 (by trivial))) (fun C s0 H0 fp=>(@cL _ _))
        (fun C s0 H0 fp=>(@kZ _ _ _ _ _ (¬0))) rfl ∅ ↥5) (@c9 _ _ _ _ _ (ae∘ag)))∘ag)))) ∅ (by trivial))
      (@ah _ _ _ _ _ _ _ _ (@Da _ _ _ _ _ 5 6 _ _ _ _ _ _ _ _ _ _ rfl nd rfl rfl ⋯ rfl rfl (@ug _ _ _ _ _ _ _ _ rfl rfl T.b_list rfl T.b_range ((¬3)∘ag) ∅ ∅) (@sA _ _ _ _ _ _ _ _ _ rfl rfl T.b_list rfl T.b_range ((¬3)∘((@bh _ _ _ _ _ _ _ rfl (¬3) (@bA _ _ _ _ _ _ _ _ _ (@b_len _ _ rfl) ∅ T.b_len ((¬1)∘ag) ⋯ ⋯ ∅ ∅))∘ag)) ∅ ∅ ∅) ∅ ∅ ∅ ∅)
      (@ah _ _ _ _ _ _ _ _ (@aL _ _ _ _ _ 7 _ _ nd rfl (Or.inr rfl) ae ∅ (by trivial))
      (@ah _ _ _ _ _ _ _ _ (@aL _ _ _ _ _ 8 _ _ nd rfl ↥3 (@bu _ _ _ _ _ _ _ _ _ _ _ _ _ _ _ Ky KA (hr.mono ⋯) ((@aU _ _ _ _ _ _ _ rfl (¬4) (@kZ _ _ _ _ _ ae) ↥4)∘((¬5)∘ag)) ∅ ⋯ ∅ ∅) ∅ (by trivial))
      (@ah _ _ _ _ _ _ _ _ (@k_ _ _ _ _ _ _ _ _ _ OH (@bH _ _ _ _ _ _ _ _ _ (@BS _ _) (¬8) (@oT _ _ _ _) (bi _))
      (@ah _ _ _ _ _ _ _ _ (@aL _ _ _ _ _ 9 _ _ nd rfl ↥3 (@bu _ _ _ _ _ _ _ _ _ _ _ _ _ _ _ KH KP (hr.mono ⋯) ((¬4)∘((¬6)∘((¬8)∘ag))) ∅ ⋯ ∅ ∅) ∅ (by trivial))
      (@ah _ _ _ _ _ _ _ _ (@iS _ _ _ _ _ _ _ _ (@ba _ _ _ _ _ _ ((@bu _ _ _ _ _ _ _ _ _ _ _ _ _ _ _ KZ Le (hr.mono ⋯) ((¬4)∘((¬7)∘((¬9)∘((¬8)∘ag)))) ∅ ⋯ ∅ ∅)∘((@aU _ _ _ _ _ _ _ rfl (@aU _ _ _ _ _ _ _ rfl (¬4) (¬9) ↥4) (¬8) ↥4)∘ag))) (@cK _ _ _ _ _ _ _ _ rfl rfl (@ax _ _ _ _ _ _ _ _ (@ar _ _ _ 4 _ nd rfl ↥3 (by trivial)) (@ax _ _ _ _ _ _ _ _ (@ar _ _ _ 7 _ nd rfl (Or.inr rfl) (by trivial)) (@bQ _ _) ∅) ∅) (aC (aC cH)) ∅ ∅) ∅ ∅ ∅)
      (@ah _ _ _ _ _ _ _ _ (@aL _ _ _ _ _ 10 _ _ nd rfl ↥3 (@aU _ _ _ _ _ _ _ rfl (¬5) (¬8) ↥4) ∅ (by trivial))
      (@ah _ _ _ _ _ _ _ _ (@vK _ _ _ _ _ _ _ _ _ _ (@aU _ _ _ _ _ _ _ rfl (¬6) (¬9) ↥4) (¬5) (¬8) ↥5 ∅ ∅ ∅)
      (@ah _ _ _ _ _ _ _ _ (@vK _ _ _ _ _ _ _ _ _ _ (¬10) (¬6) (¬9) ↥5 ∅ ∅ ∅)
      (@au _ _ _ _ _ (@aL _ _ _ _ _ 8 _ _ nd rfl ↥3 (@bu _ _ _ _ _ _ _ _ _ _ _ _ _ _ _ Ky KA (hr.mono ⋯) ((@aU _ _ _ _ _ _ _ rfl (¬4) (@kZ _ _ _ _ _ ae) ↥4)∘((¬5)∘ag)) ∅ ⋯ ∅ ∅) ∅ (by trivial)))))))))
      (@ah _ _ _ _ _ _ _ _ (@aL _ _ _ _ _ 11 _ _ nd rfl (Or.inr rfl) (@uf _ _ _ _ _ _ _ _ _ _ _ _ _ _ [(7,"bottom")] ["variable","row"] rfl rfl (@k9 _ _ _ _ _ _ _ _ _ _ rfl rfl T.b_zip ((¬6)∘((¬4)∘ag)) ∅ ∅)
        (fun C s0 H0 fp=>(@cK _ _ _ _ _ _ _ _ rfl rfl (@ax _ _ _ _ _ _ _ _ (@ar _ _ _ 1 _ (show NM (["bottom","variable","row"]:List Str) by decide+kernel) rfl ↥3 (by trivial)) (@ax _ _ _ _ _ _ _ _ (@ar _ _ _ 2 _ (show NM (["bottom","variable","row"]:List Str) by decide+kernel) rfl ↥3 (by trivial)) (@bQ _ _) ∅) ∅) (aC (aC cH)) ∅ ∅)) (fun C s0 H0 fp=>(@iR _ 1 _ _ ∅ (by first | exact Or.inl rfl | exact Or.inr ↥3 | exact Or.inr (Or.inr rfl)) ⋯ ⋯)) (fun C s0 H0 fp=>(@bu _ _ _ _ _ _ _ _ _ _ _ _ _ _ _ KF KG (hr.mono ⋯) ((@aU _ _ _ _ _ _ _ rfl (¬2) (@kZ _ _ _ _ _ ae) ↥4)∘((¬0)∘ag)) ∅ ⋯ ∅ ∅)) rfl ∅ ↥5) ∅ (by trivial))
      (@ah _ _ _ _ _ _ _ _ (@aL _ _ _ _ _ 12 _ _ nd rfl (Or.inr rfl) (@uf _ _ _ _ _ _ _ _ _ _ _ _ _ _ [(7,"bottom")] ["variable","entry"] rfl rfl (@k9 _ _ _ _ _ _ _ _ _ _ rfl rfl T.b_zip ((¬5)∘((@aU _ _ _ _ _ _ _ rfl (¬4) (@kZ _ _ _ _ _ ae) ↥4)∘ag)) ∅ ∅)
        (fun C s0 H0 fp=>(@cK _ _ _ _ _ _ _ _ rfl rfl (@ax _ _ _ _ _ _ _ _ (@ar _ _ _ 1 _ (show NM (["bottom","variable","entry"]:List Str) by decide+kernel) rfl ↥3 (by trivial)) (@ax _ _ _ _ _ _ _ _ (@ar _ _ _ 2 _ (show NM (["bottom","variable","entry"]:List Str) by decide+kernel) rfl ↥3 (by trivial)) (@bQ _ _) ∅) ∅) (aC (aC cH)) ∅ ∅)) (fun C s0 H0 fp=>(@iR _ 1 _ _ ∅ (by first | exact Or.inl rfl | exact Or.inr ↥3 | exact Or.inr (Or.inr rfl)) ⋯ ⋯)) (fun C s0 H0 fp=>(@bu _ _ _ _ _ _ _ _ _ _ _ _ _ _ _ KF KG (hr.mono ⋯) ((¬2)∘((¬0)∘ag)) ∅ ⋯ ∅ ∅)) rfl ∅ ↥5) ∅ (by trivial))
      (@au _ _ _ _ _ (@aX _ _ _ _ _ (@ba _ _ _ _ _ _ ((@bA _ _ _ _ _ _ _ _ _ (@b_tuple _ _ rfl) ∅ T.b_tuple ((@e6 _ _ _ _ _ _ _ _ _ _ _ _ _ [(11,"levels")] ["variable"] rfl rfl (@cW _ _ _ _ _ _ _ rfl T.b_range ((¬3)∘ag) ∅)
        (fun C s0 H0 fp=>(@ar _ _ _ 1 _ (show NM (["levels","variable"]:List Str) by decide+kernel) rfl ↥3 (by trivial))) (fun C s0 H0 fp=>(@cL _ _))
        (fun C s0 H0 fp=>(@wU _ _ _ _ _ _ _ _ _ _ _ hr rfl (¬0) (¬1) (@ng _ _ _ (V.ref g_ZERO) _ _ (PyData.tuple [.int (0),.int (1)]) rfl m_ZERO rfl c_ZERO ⋯) ∅ ∅ ∅ ∅)) rfl ∅ ↥5)∘ag) ⋯ ⋯ ∅ ∅)∘((@bA _ _ _ _ _ _ _ _ _ (@b_tuple _ _ rfl) ∅ T.b_tuple ((@e6 _ _ _ _ _ _ _ _ _ _ _ _ _ [(12,"prices")] ["variable"] rfl rfl (@yr _ _ _ _ _ _ _ _ rfl T.b_range ((¬3)∘((@bh _ _ _ _ _ _ _ rfl (¬3) (@bA _ _ _ _ _ _ _ _ _ (@b_len _ _ rfl) ∅ T.b_len ((¬1)∘ag) ⋯ ⋯ ∅ ∅))∘ag)) ∅ ∅)
        (fun C s0 H0 fp=>(@ar _ _ _ 1 _ (show NM (["prices","variable"]:List Str) by decide+kernel) rfl ↥3 (by trivial))) (fun C s0 H0 fp=>(@cL _ _))
        (fun C s0 H0 fp=>(@wU _ _ _ _ _ _ _ _ _ _ _ hr rfl (¬0) (¬1) (@ng _ _ _ (V.ref g_ZERO) _ _ (PyData.tuple [.int (0),.int (1)]) rfl m_ZERO rfl c_ZERO ⋯) ∅ ∅ ∅ ∅)) rfl ∅ ↥5)∘ag) ⋯ ⋯ ∅ ∅)∘ag))))))))))))))
def p8:FS:=(bN (b_ 2 fQ (aa (aq a8 (ac 0) (vC (.int 2))) (aa (bI (aa (aq a8 (ac 0) (vC (.int 3))) (aa (vC (.int 1)) ai))) ai))))
def ip:FM:=iY 1 0 [] p8
theorem o_:aM ["tie"] ["tie"] (aw fX):=⟨rfl,rfl,rfl,by decide+kernel,rfl,by decide+kernel,by decide+kernel⟩
theorem vF(h:bE K mg "gain_of" fX f fd ["tie"])(T:jT mg){K7:MW}{K8:Nt}(KQ:bE K mg "times" gP K7 K8 ["one","other"])(K0:aW P w K mg base cD 3 K7 K8 ["one","other"] (cO K 2 fQ)):aW P w K mg base cD 4 f fd ["tie"] (cO K 1 ip):=by
  have nd:=o_.nd
  exact h.fn o_ rfl rfl (fun cdv A outer s H E hr=>(@au _ _ _ _ _ (@aX _ _ _ _ _ (@bu _ _ _ _ _ _ _ _ _ _ _ _ _ _ _ KQ K0 (hr.mono ⋯) ((@aU _ _ _ _ _ _ _ rfl (¬0) ae ↥4)∘((@ba _ _ _ _ _ _ ((@aU _ _ _ _ _ _ _ rfl (¬0) ae ↥4)∘(ae∘ag)))∘ag)) ∅ ⋯ ∅ ∅))))
def eM:FI:=(tR (aa (ac 1) (aa (aq a8 (ac 0) (vC (.int 1))) ai)))
def cu:FE:=(b_ 2 fQ (aa (ac 0) (aa (b_ 1 ip (aa (ac 1) ai)) ai)))
def f9:FS:=(bN (b_ 1 kS (aa (bb [] 2 eM (aV (ao (af 0) (ao (af 1) aS))) aZ cu) ai)))
def bG:FM:=iY 2 0 [] f9
theorem i6:aM ["web","shares"] ["web","shares"] (aw cB):=⟨rfl,rfl,rfl,by decide+kernel,rfl,by decide+kernel,by decide+kernel⟩
theorem mT(h:bE K mg "shares_worth" cB f fd ["web","shares"])(T:jT mg){Mb:MW}{Mc:Nt}(LH:bE K mg "total" jQ Mb Mc ["row"])(LX:aW P w K mg base cD 4 Mb Mc ["row"] (cO K 1 kS)){K7:MW}{K8:Nt}(KQ:bE K mg "times" gP K7 K8 ["one","other"])(K0:aW P w K mg base cD 3 K7 K8 ["one","other"] (cO K 2 fQ)){LP:MW}{LQ:Nt}(Li:bE K mg "gain_of" fX LP LQ ["tie"])(Lz:aW P w K mg base cD 4 LP LQ ["tie"] (cO K 1 ip)):aW P w K mg base cD 5 f fd ["web","shares"] (cO K 2 bG):=by
  have nd:=i6.nd
  exact h.fn i6 rfl rfl (fun cdv A outer s H E hr=>(@au _ _ _ _ _ (@aX _ _ _ _ _ (@bu _ _ _ _ _ _ _ _ _ _ _ _ _ _ _ LH LX (hr.mono ⋯) ((@e6 _ _ _ _ _ _ _ _ _ _ _ _ _ [] ["share","tie"] rfl rfl (@uh _ _ _ _ _ _ _ _ _ _ rfl rfl T.b_zip ((¬1)∘((@aU _ _ _ _ _ _ _ rfl (¬0) ae ↥4)∘ag)) ∅ ∅)
        (fun C s0 H0 fp=>(@cK _ _ _ _ _ _ _ _ rfl rfl (@ax _ _ _ _ _ _ _ _ (@ar _ _ _ 0 _ (show NM (["share","tie"]:List Str) by decide+kernel) rfl ↥3 (by trivial)) (@ax _ _ _ _ _ _ _ _ (@ar _ _ _ 1 _ (show NM (["share","tie"]:List Str) by decide+kernel) rfl ↥3 (by trivial)) (@bQ _ _) ∅) ∅) (aC (aC cH)) ∅ ∅)) (fun C s0 H0 fp=>(@cL _ _))
        (fun C s0 H0 fp=>(@bu _ _ _ _ _ _ _ _ _ _ _ _ _ _ _ KQ K0 (hr.mono ⋯) ((¬0)∘((@bu _ _ _ _ _ _ _ _ _ _ _ _ _ _ _ Li Lz (hr.mono ⋯) ((¬1)∘ag) ∅ ⋯ ∅ ∅)∘ag)) ∅ ⋯ ∅ ∅)) rfl ∅ ↥5)∘ag) ∅ ⋯ ∅ ∅))))
def mG:FI:=(tQ (aa (ac 0) ai))
def gG:FE:=(Du (a9 (aq (cG false) (ac 1) (ac 0))) (ac 2) (vC (.int 0)))
def gM:FI:=(cI (aa (aJ (g1 cY) (aa (ac 2) ai)) ai))
def jd:FE:=(bb [(1,"place")] 2 mG (aV (ao (af 1) (ao (af 2) aS))) aZ gG)
def jf:FI:=(kJ (ac 2))
def gH:FE:=(aq a8 (aq a8 (ac 0) (vC (.int 2))) (vC (.int 1)))
def mH:FI:=(kJ (ac 0))
def gJ:FE:=(Du (a9 (aq (B1 false) (ac 0) (pZ (ac 1) eI (dO (vC (.int 2)))))) (aq a8 (aq a8 (ac 1) (vC (.int 2))) (vC (.int 1))) (vC (.int 0)))
def jg:FI:=(cI (aa (ac 1) ai))
def iJ:FE:=(bb [(1,"thing")] 1 mH (af 1) aZ gJ)
def kL:FI:=(kJ (ac 0))
def fN:FE:=(Du (a9 (aq (B1 false) (ac 0) (pZ (ac 1) eI (dO (vC (.int 2)))))) (aq a8 (aq a8 (ac 1) (vC (.int 2))) (vC (.int 0))) (vC (.int 0)))
def iM:FI:=(cI (aa (ac 1) ai))
def iK:FE:=(bb [(1,"thing")] 1 kL (af 1) aZ fN)
def jx:FS:=(aE (g_ (pZ (ac 0) eI (dO (vC (.int 2)))) (aV (ao (af 1) (ao (af 2) aS))))
    (aE (aF 3 (bb [(2,"ties")] 1 iM (af 1) aZ iK))
    (aE (aF 4 (bb [(2,"ties")] 1 jg (af 1) aZ iJ))
    (aE (aF 5 (sU (bb [] 1 jf (af 0) aZ gH)))
    (aE (aF 6 (bb [(5,"asking")] 1 gM (af 1) aZ jd))
    (bN (aq aO (aq aO (aq aO (ac 3) (ac 4)) (cC (aa (ac 5) ai))) (ac 6))))))))
def eh:FM:=iY 1 6 (([1]++([2]++[]))++([3]++([4]++([5]++([6]++[]))))) jx
theorem pd:aM ["web","things","ties","keeping","bearing","asking","once"] ["web"] (aw fY):=⟨rfl,rfl,rfl,by decide+kernel,rfl,by decide+kernel,by decide+kernel⟩
theorem vG(h:bE K mg "rows_of" fY f fd ["web"])(T:jT mg):aW P w K mg base cD 1 f fd ["web"] (cO K 1 eh):=by
  have nd:=pd.nd
  exact h.fn pd rfl rfl (fun cdv A outer s H E hr=>(@ah _ _ _ _ _ _ _ _ (@iS _ _ _ _ _ _ _ _ (@dY _ _ _ _ _ _ _ _ _ _ rfl (¬0) (@eG _ _) (@du _ _ _ _ ae)) (@cK _ _ _ _ _ _ _ _ rfl rfl (@ax _ _ _ _ _ _ _ _ (@ar _ _ _ 1 _ nd rfl ↥3 (by trivial)) (@ax _ _ _ _ _ _ _ _ (@ar _ _ _ 2 _ nd rfl (Or.inr rfl) (by trivial)) (@bQ _ _) ∅) ∅) (aC (aC cH)) ∅ ∅) ∅ ∅ ∅)
      (@ah _ _ _ _ _ _ _ _ (@eS _ _ _ (3) _ _ _ _ _ _ _ _ _ _ _ _ _ [(2,"ties")] ["thing"] rfl rfl (@cW _ _ _ _ _ _ _ rfl T.b_range ((¬1)∘ag) ∅)
        (fun C s0 H0 fp=>(@ar _ _ _ 1 _ (show NM (["ties","thing"]:List Str) by decide+kernel) rfl (Or.inr rfl) (by trivial))) (fun C s0 H0 fp=>(@cL _ _))
        (fun C s0 H0 fp=>(@e6 _ _ _ _ _ _ _ _ _ _ _ _ _ [(1,"thing")] ["tie"] rfl rfl (@jo _ _ _ _ _ rfl (¬0))
        (fun C s0 H0 fp=>(@ar _ _ _ 1 _ (show NM (["thing","tie"]:List Str) by decide+kernel) rfl ↥3 (by trivial))) (fun C s0 H0 fp=>(@cL _ _))
        (fun C s0 H0 fp=>(@k8 _ _ _ _ _ _ _ _ _ (@bH _ _ _ _ _ _ _ _ _ (@GV _ _ _ rfl hr) (¬0) (@dY _ _ _ _ _ _ _ _ _ _ rfl (¬1) (@eG _ _) (@du _ _ _ _ ae)) (by with_unfolding_all rfl)) (@aU _ _ _ _ _ _ _ rfl (@aU _ _ _ _ _ _ _ rfl (¬1) ae ↥4) ae ↥4) ae)) rfl ∅ ↥5)) rfl ∅ nd rfl rfl ∅ ↥5)
      (@ah _ _ _ _ _ _ _ _ (@eS _ _ _ (4) _ _ _ _ _ _ _ _ _ _ _ _ _ [(2,"ties")] ["thing"] rfl rfl (@cW _ _ _ _ _ _ _ rfl T.b_range ((¬1)∘ag) ∅)
        (fun C s0 H0 fp=>(@ar _ _ _ 1 _ (show NM (["ties","thing"]:List Str) by decide+kernel) rfl (Or.inr rfl) (by trivial))) (fun C s0 H0 fp=>(@cL _ _))
        (fun C s0 H0 fp=>(@e6 _ _ _ _ _ _ _ _ _ _ _ _ _ [(1,"thing")] ["tie"] rfl rfl (@jo _ _ _ _ _ rfl (¬0))
        (fun C s0 H0 fp=>(@ar _ _ _ 1 _ (show NM (["thing","tie"]:List Str) by decide+kernel) rfl ↥3 (by trivial))) (fun C s0 H0 fp=>(@cL _ _))
        (fun C s0 H0 fp=>(@k8 _ _ _ _ _ _ _ _ _ (@bH _ _ _ _ _ _ _ _ _ (@GV _ _ _ rfl hr) (¬0) (@dY _ _ _ _ _ _ _ _ _ _ rfl (¬1) (@eG _ _) (@du _ _ _ _ ae)) (by with_unfolding_all rfl)) (@aU _ _ _ _ _ _ _ rfl (@aU _ _ _ _ _ _ _ rfl (¬1) ae ↥4) ae ↥4) ae)) rfl ∅ ↥5)) rfl ∅ nd rfl rfl ∅ ↥5)
      (@ah _ _ _ _ _ _ _ _ (@aL _ _ _ _ _ 5 _ _ nd rfl (Or.inr rfl) (@D4 _ _ _ _ (@e6 _ _ _ _ _ _ _ _ _ _ _ _ _ [] ["tie"] rfl rfl (@jo _ _ _ _ _ rfl (¬2))
        (fun C s0 H0 fp=>(@ar _ _ _ 0 _ (show NM (["tie"]:List Str) by decide+kernel) rfl ↥3 (by trivial))) (fun C s0 H0 fp=>(@cL _ _))
        (fun C s0 H0 fp=>(@aU _ _ _ _ _ _ _ rfl (@aU _ _ _ _ _ _ _ rfl (¬0) ae ↥4) ae ↥4)) rfl ∅ ↥5)) ∅ (by trivial))
      (@ah _ _ _ _ _ _ _ _ (@eS _ _ _ (6) _ _ _ _ _ _ _ _ _ _ _ _ _ [(5,"asking")] ["place"] rfl rfl (@cW _ _ _ _ _ _ _ rfl T.b_range ((@bA _ _ _ _ _ _ _ _ _ (@b_len _ _ rfl) ∅ T.b_len ((¬2)∘ag) ⋯ ⋯ ∅ ∅)∘ag) ∅)
        (fun C s0 H0 fp=>(@ar _ _ _ 1 _ (show NM (["asking","place"]:List Str) by decide+kernel) rfl (Or.inr rfl) (by trivial))) (fun C s0 H0 fp=>(@cL _ _))
        (fun C s0 H0 fp=>(@e6 _ _ _ _ _ _ _ _ _ _ _ _ _ [(1,"place")] ["at","bottom"] rfl rfl (@sC _ _ _ _ _ _ _ _ _ rfl rfl T.b_enumerate ((¬0)∘ag) ∅)
        (fun C s0 H0 fp=>(@cK _ _ _ _ _ _ _ _ rfl rfl (@ax _ _ _ _ _ _ _ _ (@ar _ _ _ 1 _ (show NM (["place","at","bottom"]:List Str) by decide+kernel) rfl ↥3 (by trivial)) (@ax _ _ _ _ _ _ _ _ (@ar _ _ _ 2 _ (show NM (["place","at","bottom"]:List Str) by decide+kernel) rfl ↥3 (by trivial)) (@bQ _ _) ∅) ∅) (aC (aC cH)) ∅ ∅)) (fun C s0 H0 fp=>(@cL _ _))
        (fun C s0 H0 fp=>(@k8 _ _ _ _ _ _ _ _ _ (@bH _ _ _ _ _ _ _ _ _ (@pN _ _ _ rfl hr) (¬1) (¬0) (bi _)) (¬2) ae)) rfl ∅ ↥5)) rfl ∅ nd rfl rfl ∅ ↥5)
      (@au _ _ _ _ _ (@aX _ _ _ _ _ (@bh _ _ _ _ _ _ _ rfl (@bh _ _ _ _ _ _ _ rfl (@bh _ _ _ _ _ _ _ rfl (¬3) (¬4)) (@c9 _ _ _ _ _ ((¬5)∘ag))) (¬6))))))))))
def my:FS:=(aE (g_ (ac 0) (aV (ao (af 1) (ao (af 2) (ao (af 3) (ao (af 4) aS))))))
    (bN (aq aO (aq aO (aq aO (aq bJ (cC (aa (vC (.int 1)) ai)) (ac 1)) (aJ (g1 je) (aa (ac 3) ai))) (cC (aa (ac 4) ai))) (aq bJ (cC (aa (vC (.int 1)) ai)) (aJ (g1 cY) (aa (ac 2) ai))))))
def eg:FM:=iY 1 4 (([1]++([2]++([3]++([4]++[]))))++[]) my
theorem lm:aM ["web","things","ties","patience","asks"] ["web"] (aw eD):=⟨rfl,rfl,rfl,by decide+kernel,rfl,by decide+kernel,by decide+kernel⟩
theorem r_(h:bE K mg "limits_of" eD f fd ["web"])(T:jT mg):aW P w K mg base cD 1 f fd ["web"] (cO K 1 eg):=by
  have nd:=lm.nd
  exact h.fn lm rfl rfl (fun cdv A outer s H E hr=>(@ah _ _ _ _ _ _ _ _ (@iS _ _ _ _ _ _ _ _ (¬0) (@cK _ _ _ _ _ _ _ _ rfl rfl (@ax _ _ _ _ _ _ _ _ (@ar _ _ _ 1 _ nd rfl ↥3 (by trivial)) (@ax _ _ _ _ _ _ _ _ (@ar _ _ _ 2 _ nd rfl ↥3 (by trivial)) (@ax _ _ _ _ _ _ _ _ (@ar _ _ _ 3 _ nd rfl ↥3 (by trivial)) (@ax _ _ _ _ _ _ _ _ (@ar _ _ _ 4 _ nd rfl ↥3 (by trivial)) (@bQ _ _) ∅) ∅) ∅) ∅) (aC (aC (aC (aC cH)))) ∅ ∅) ∅ ∅ ∅)
      (@au _ _ _ _ _ (@aX _ _ _ _ _ (@bh _ _ _ _ _ _ _ rfl (@bh _ _ _ _ _ _ _ rfl (@bh _ _ _ _ _ _ _ rfl (@cV _ _ _ _ _ _ _ rfl (@c9 _ _ _ _ _ (ae∘ag)) (¬1)) (@bA _ _ _ _ _ _ _ _ _ (@b_list _ _ rfl) ∅ T.b_list ((¬3)∘ag) ⋯ ⋯ ∅ ∅)) (@c9 _ _ _ _ _ ((¬4)∘ag))) (@cV _ _ _ _ _ _ _ rfl (@c9 _ _ _ _ _ (ae∘ag)) (@bA _ _ _ _ _ _ _ _ _ (@b_len _ _ rfl) ∅ T.b_len ((¬2)∘ag) ⋯ ⋯ ∅ ∅)))))))
def mx:FS:=(aE (aF 2 (aq a8 (ac 0) (vC (.int 0))))
    (bN (bI (aa (pZ (ac 1) eI (dO (ac 2))) (aa (pZ (ac 1) (dO (ac 2)) (dO (aq bJ (vC (.int 2)) (ac 2)))) (aa (aq a8 (ac 1) (aq bJ (vC (.int 2)) (ac 2))) (aa (pZ (ac 1) (dO (aq aO (aq bJ (vC (.int 2)) (ac 2)) (vC (.int 1)))) eI) ai)))))))
def cE:FM:=iY 2 1 ([2]++[]) mx
theorem lh:aM ["web","row","things"] ["web","row"] (aw eA):=⟨rfl,rfl,rfl,by decide+kernel,rfl,by decide+kernel,by decide+kernel⟩
theorem r6(h:bE K mg "as_prices" eA f fd ["web","row"])(T:jT mg):aW P w K mg base cD 1 f fd ["web","row"] (cO K 2 cE):=by
  have nd:=lh.nd
  exact h.fn lh rfl rfl (fun cdv A outer s H E hr=>(@ah _ _ _ _ _ _ _ _ (@aL _ _ _ _ _ 2 _ _ nd rfl ↥3 (@aU _ _ _ _ _ _ _ rfl (¬0) ae ↥4) ∅ (by trivial))
      (@au _ _ _ _ _ (@aX _ _ _ _ _ (@ba _ _ _ _ _ _ ((@dY _ _ _ _ _ _ _ _ _ _ rfl (¬1) (@eG _ _) (@du _ _ _ _ (¬2)))∘((@dY _ _ _ _ _ _ _ _ _ _ rfl (¬1) (@du _ _ _ _ (¬2)) (@du _ _ _ _ (@cV _ _ _ _ _ _ _ rfl ae (¬2))))∘((@aU _ _ _ _ _ _ _ rfl (¬1) (@cV _ _ _ _ _ _ _ rfl ae (¬2)) ↥4)∘((@dY _ _ _ _ _ _ _ _ _ _ rfl (¬1) (@du _ _ _ _ (@bh _ _ _ _ _ _ _ rfl (@cV _ _ _ _ _ _ _ rfl ae (¬2)) ae)) (@eG _ _))∘ag)))))))))
def jF:FI:=(tR (aa (ac 2) (aa (aq a8 (ac 0) (vC (.int 1))) ai)))
def ie:FE:=(b_ 2 fQ (aa (ac 0) (aa (bI (aa (aq a8 (aq a8 (ac 1) (vC (.int 2))) (vC (.int 1))) (aa (vC (.int 1)) ai))) ai)))
def jG:FI:=(kJ (aq a8 (ac 0) (vC (.int 1))))
def jA:FE:=(aq bJ (aq a8 (aq a8 (ac 0) (vC (.int 2))) (vC (.int 0))) (aq a8 (ac 0) (vC (.int 3))))
def qW:FS:=(aE (i3 (b_ 2 cx (aa (aJ (g1 cY) (aa (aq a8 (ac 0) (vC (.int 1))) ai)) (aa (vC (.int (10))) ai))))
    (aE (aF 1 (bb [] 1 jG (af 0) aZ jA))
    (aE (g_ (b_ 3 cc (aa (ac 1) (aa (b_ 1 eh (aa (ac 0) ai)) (aa (b_ 1 eg (aa (ac 0) ai)) ai)))) (aV (ao (af 2) (ao (af 3) aS))))
    (aE (aF 4 (aJ (g1 cZ) (aa (bb [] 2 jF (aV (ao (af 0) (ao (af 1) aS))) aZ ie) ai)))
    (bN (bI (aa (b_ 2 bG (aa (ac 0) (aa (ac 4) ai))) (aa (ac 4) (aa (b_ 2 cE (aa (ac 0) (aa (ac 3) ai))) ai)))))))))
def dr:FM:=iY 1 4 ([]++([1]++(([2]++([3]++[]))++([4]++[])))) qW
theorem ut:aM ["web","gains","levels","prices","shares"] ["web"] (aw jP):=⟨rfl,rfl,rfl,by decide+kernel,rfl,by decide+kernel,by decide+kernel⟩
theorem Ao(h:bE K mg "bound" jP f fd ["web"])(T:jT mg){K':MW}{La:Nt}(KI:bE K mg "refuse_above" cz K' La ["many","most"])(KR:aW P w K mg base cD 1 K' La ["many","most"] (cO K 2 cx)){Lj:MW}{Lk:Nt}(KM:bE K mg "best_levels" cX Lj Lk ["gains","rows","limits"])(K1:aW P w K mg base cD 3 Lj Lk ["gains","rows","limits"] (cO K 3 cc)){LR:MW}{LS:Nt}(Ln:bE K mg "rows_of" fY LR LS ["web"])(LA:aW P w K mg base cD 1 LR LS ["web"] (cO K 1 eh)){LB:MW}{LC:Nt}(K3:bE K mg "limits_of" eD LB LC ["web"])(Lf:aW P w K mg base cD 1 LB LC ["web"] (cO K 1 eg)){Lb:MW}{Lc:Nt}(KJ:bE K mg "shares_worth" cB Lb Lc ["web","shares"])(KS:aW P w K mg base cD 5 Lb Lc ["web","shares"] (cO K 2 bG)){LD:MW}{LF:Nt}(K4:bE K mg "as_prices" eA LD LF ["web","row"])(Lg:aW P w K mg base cD 1 LD LF ["web","row"] (cO K 2 cE)){K7:MW}{K8:Nt}(KQ:bE K mg "times" gP K7 K8 ["one","other"])(K0:aW P w K mg base cD 3 K7 K8 ["one","other"] (cO K 2 fQ)){t_MOST_TIES_OF_BOUND:Tok}(m_MOST_TIES_OF_BOUND:mg "MOST_TIES_OF_BOUND"=some (.int (10) t_MOST_TIES_OF_BOUND)):aW P w K mg base cD 6 f fd ["web"] (cO K 1 dr):=by
  have nd:=ut.nd
  exact h.fn ut rfl rfl (fun cdv A outer s H E hr=>(@ah _ _ _ _ _ _ _ _ (@iU _ _ _ _ _ (@bu _ _ _ _ _ _ _ _ _ _ _ _ _ _ _ KI KR (hr.mono ⋯) ((@bA _ _ _ _ _ _ _ _ _ (@b_len _ _ rfl) ∅ T.b_len ((@aU _ _ _ _ _ _ _ rfl (¬0) ae ↥4)∘ag) ⋯ ⋯ ∅ ∅)∘((@ng _ _ _ (V.int (10)) _ _ (PyData.int (10)) rfl m_MOST_TIES_OF_BOUND ⟨_,rfl⟩ (fun _=>cm.mpr rfl) ⋯)∘ag)) ∅ ⋯ ∅ ∅) ∅)
      (@ah _ _ _ _ _ _ _ _ (@eS _ _ _ (1) _ _ _ _ _ _ _ _ _ _ _ _ _ [] ["tie"] rfl rfl (@jo _ _ _ _ _ rfl (@aU _ _ _ _ _ _ _ rfl (¬0) ae ↥4))
        (fun C s0 H0 fp=>(@ar _ _ _ 0 _ (show NM (["tie"]:List Str) by decide+kernel) rfl ↥3 (by trivial))) (fun C s0 H0 fp=>(@cL _ _))
        (fun C s0 H0 fp=>(@cV _ _ _ _ _ _ _ rfl (@aU _ _ _ _ _ _ _ rfl (@aU _ _ _ _ _ _ _ rfl (¬0) ae ↥4) ae ↥4) (@aU _ _ _ _ _ _ _ rfl (¬0) ae ↥4))) rfl ∅ nd rfl rfl ∅ ↥5)
      (@ah _ _ _ _ _ _ _ _ (@iS _ _ _ _ _ _ _ _ (@bu _ _ _ _ _ _ _ _ _ _ _ _ _ _ _ KM K1 (hr.mono ⋯) ((¬1)∘((@bu _ _ _ _ _ _ _ _ _ _ _ _ _ _ _ Ln LA (hr.mono ⋯) ((¬0)∘ag) ∅ ⋯ ∅ ∅)∘((@bu _ _ _ _ _ _ _ _ _ _ _ _ _ _ _ K3 Lf (hr.mono ⋯) ((¬0)∘ag) ∅ ⋯ ∅ ∅)∘ag))) ∅ ⋯ ∅ ∅) (@cK _ _ _ _ _ _ _ _ rfl rfl (@ax _ _ _ _ _ _ _ _ (@ar _ _ _ 2 _ nd rfl ↥3 (by trivial)) (@ax _ _ _ _ _ _ _ _ (@ar _ _ _ 3 _ nd rfl ↥3 (by trivial)) (@bQ _ _) ∅) ∅) (aC (aC cH)) ∅ ∅) ∅ ∅ ∅)
      (@ah _ _ _ _ _ _ _ _ (@aL _ _ _ _ _ 4 _ _ nd rfl ↥3 (@bA _ _ _ _ _ _ _ _ _ (@b_tuple _ _ rfl) ∅ T.b_tuple ((@e6 _ _ _ _ _ _ _ _ _ _ _ _ _ [] ["level","tie"] rfl rfl (@uh _ _ _ _ _ _ _ _ _ _ rfl rfl T.b_zip ((¬2)∘((@aU _ _ _ _ _ _ _ rfl (¬0) ae ↥4)∘ag)) ∅ ∅)
        (fun C s0 H0 fp=>(@cK _ _ _ _ _ _ _ _ rfl rfl (@ax _ _ _ _ _ _ _ _ (@ar _ _ _ 0 _ (show NM (["level","tie"]:List Str) by decide+kernel) rfl ↥3 (by trivial)) (@ax _ _ _ _ _ _ _ _ (@ar _ _ _ 1 _ (show NM (["level","tie"]:List Str) by decide+kernel) rfl ↥3 (by trivial)) (@bQ _ _) ∅) ∅) (aC (aC cH)) ∅ ∅)) (fun C s0 H0 fp=>(@cL _ _))
        (fun C s0 H0 fp=>(@bu _ _ _ _ _ _ _ _ _ _ _ _ _ _ _ KQ K0 (hr.mono ⋯) ((¬0)∘((@ba _ _ _ _ _ _ ((@aU _ _ _ _ _ _ _ rfl (@aU _ _ _ _ _ _ _ rfl (¬1) ae ↥4) ae ↥4)∘(ae∘ag)))∘ag)) ∅ ⋯ ∅ ∅)) rfl ∅ ↥5)∘ag) ⋯ ⋯ ∅ ∅) ∅ (by trivial))
      (@au _ _ _ _ _ (@aX _ _ _ _ _ (@ba _ _ _ _ _ _ ((@bu _ _ _ _ _ _ _ _ _ _ _ _ _ _ _ KJ KS (hr.mono ⋯) ((¬0)∘((¬4)∘ag)) ∅ ⋯ ∅ ∅)∘((¬4)∘((@bu _ _ _ _ _ _ _ _ _ _ _ _ _ _ _ K4 Lg (hr.mono ⋯) ((¬0)∘((¬3)∘ag)) ∅ ⋯ ∅ ∅)∘ag)))))))))))
def wa:FS:=(aE (aF 2 (aq bf (aq aO (aq aO (aq bJ (aq bf (ac 0) (vC (.int 2147483647))) (vC (.int 48271))) (aq bJ (aq bJ (vC (.int 7919)) (ac 1)) (ac 1))) (vC (.int 104729))) (vC (.int 2147483647))))
    (bN (aq bf (aq bJ (ac 2) (ac 2)) (vC (.int 2147483629)))))
def jJ:FM:=iY 2 1 ([2]++[]) wa
theorem uq:aM ["_law_cell","_law_k","_law_number"] ["_law_cell","_law_k"] (aw jN):=⟨rfl,rfl,rfl,by decide+kernel,rfl,by decide+kernel,by decide+kernel⟩
theorem Am(h:bE K mg "_law_mixed" jN f fd ["_law_cell","_law_k"])(T:jT mg):aW P w K mg base cD 1 f fd ["_law_cell","_law_k"] (cO K 2 jJ):=by
  have nd:=uq.nd
  exact h.fn uq rfl rfl (fun cdv A outer s H E hr=>(@ah _ _ _ _ _ _ _ _ (@aL _ _ _ _ _ 2 _ _ nd rfl ↥3 (@br _ _ _ _ _ _ _ (@bh _ _ _ _ _ _ _ rfl (@bh _ _ _ _ _ _ _ rfl (@cV _ _ _ _ _ _ _ rfl (@br _ _ _ _ _ _ _ (¬0) ae) ae) (@cV _ _ _ _ _ _ _ rfl (@cV _ _ _ _ _ _ _ rfl ae (¬1)) (¬1))) ae) ae) ∅ (by trivial))
      (@au _ _ _ _ _ (@aX _ _ _ _ _ (@br _ _ _ _ _ _ _ (@cV _ _ _ _ _ _ _ rfl (¬2) (¬2)) ae)))))
def fV:FT:=(mX (a9 (aq GZ (ac 3) (aq vh (vC (.int 10)) (vC (.int 18))))) (a9 (aq wz (aJ (g1 cY) (aa (ac 1) ai)) (vC (.int 900)))))
def jw:FS:=(aE (i3 (gA dX (ac 1) (aa (aq bf (ac 3) (vC (.int 2147483629))) ai)))
    (aF 3 (aq c_ (ac 3) (vC (.int 2147483629)))))
def jE:FI:=(cI (aa (vC (.int 12)) ai))
def h8:FS:=(i3 (gA dX (ac 1) (aa (b_ 2 jJ (aa (b_ 2 jJ (aa (ac 3) (aa (aq aO (aq bJ (vC (.int 3)) (ac 4)) (vC (.int 1))) ai))) (aa (aq aO (aq aO (ac 4) (ac 2)) (vC (.int 2))) ai))) ai)))
def lV:FI:=(cI (aa (aJ (g2 rL) (aa (aJ (g1 cY) (aa (ac 0) ai)) (aa (vC (.int 63)) ai))) ai))
def fU:FS:=(aE (aF 3 (aJ (g1 vd) (aa (aq a8 (ac 0) (ac 2)) ai)))
    (aE (j3 (a9 (aq wz (ac 3) (aq vh (vC (.int 10)) (vC (.int 18)))))
    (eV ([4]++[]) jE (af 4) h8)
    fB)
    (aE (iW (2 ^ 4200) fV jw)
    (j3 (a9 (aq GZ (ac 3) (vC (.int 2147483629))))
    (i3 (gA dX (ac 1) (aa (aq bf (ac 3) (vC (.int 2147483629))) ai)))
    fB))))
def v_:FS:=(aE (aF 1 (cC ai))
    (aE (eV ([2]++([3]++((([4]++[])++[])++(([]++[3])++([]++[]))))) lV (af 2) fU)
    (bN (ac 1))))
def kP:FM:=iY 1 4 ([1]++(([2]++([3]++((([4]++[])++[])++(([]++[3])++([]++[])))))++[])) v_
theorem uo:aM ["_law_script","_law_drawn","_law_k","_law_cell","_law_j"] ["_law_script"] (aw jM):=⟨rfl,rfl,rfl,by decide+kernel,rfl,by decide+kernel,by decide+kernel⟩
theorem Al(h:bE K mg "_law_draws" jM f fd ["_law_script"])(T:jT mg){Md:MW}{Me:Nt}(LG:bE K mg "_law_mixed" jN Md Me ["_law_cell","_law_k"])(LJ:aW P w K mg base cD 1 Md Me ["_law_cell","_law_k"] (cO K 2 jJ)):aW P w K mg base cD 2 f fd ["_law_script"] (cO K 1 kP):=by
  have nd:=uo.nd
  exact h.fn uo rfl rfl (fun cdv A outer s H E hr=>(@ah _ _ _ _ _ _ _ _ (@aL _ _ _ _ _ 1 _ _ nd rfl ↥3 (@c9 _ _ _ _ _ ag) ∅ (by trivial))
      (@ah _ _ _ _ _ _ _ _ (@gZ _ _ _ _ _ _ _ _ _ _ _ OH rfl (@cW _ _ _ _ _ _ _ rfl T.b_range ((@bA _ _ _ _ _ _ _ _ _ (@b_min _ _ rfl) ∅ T.b_min ((@bA _ _ _ _ _ _ _ _ _ (@b_len _ _ rfl) ∅ T.b_len ((¬0)∘ag) ⋯ ⋯ ∅ ∅)∘(ae∘ag)) ⋯ ⋯ ∅ ∅)∘ag) ∅) (@ar _ _ _ 2 _ nd rfl ↥3 (by trivial))
      (@ah _ _ _ _ _ _ _ _ (@aL _ _ _ _ _ 3 _ _ nd rfl ↥3 (@bA _ _ _ _ _ _ _ _ _ (@b_abs _ _) ∅ T.b_abs ((@aU _ _ _ _ _ _ _ rfl (¬0) (¬2) ↥4)∘ag) ⋯ ⋯ ∅ ∅) ∅ (by trivial))
      (@ah _ _ _ _ _ _ _ _ (@fm _ _ _ _ _ _ _ _ _ _ _ (@bH _ _ _ _ _ _ _ _ _ (@tF _ _) (¬3) (@D5 _ _ _ _ _ _ _ ae ae) (bi _))
      (@au _ _ _ _ _ (@gZ _ _ _ _ _ _ _ _ _ _ _ OH rfl (@cW _ _ _ _ _ _ _ rfl T.b_range (ae∘ag) ∅) (@ar _ _ _ 4 _ nd rfl ↥3 (by trivial))
      (@au _ _ _ _ _ (@iU _ _ _ _ _ (@iu _ _ _ _ _ _ _ _ _ rfl (¬1) ((@bu _ _ _ _ _ _ _ _ _ _ _ _ _ _ _ LG LJ (hr.mono ⋯) ((@bu _ _ _ _ _ _ _ _ _ _ _ _ _ _ _ LG LJ (hr.mono ⋯) ((¬3)∘((@bh _ _ _ _ _ _ _ rfl (@cV _ _ _ _ _ _ _ rfl ae (¬4)) ae)∘ag)) ∅ ⋯ ∅ ∅)∘((@bh _ _ _ _ _ _ _ rfl (@bh _ _ _ _ _ _ _ rfl (¬4) (¬2)) ae)∘ag)) ∅ ⋯ ∅ ∅)∘ag) ∅ ∅ ∅ ∅ ∅) ∅)) ↥5))
      (@cj _ _))
      (@ah _ _ _ _ _ _ _ _ (@k_ _ _ _ _ _ _ _ _ _ OH (@A0 _ _ _ _ (@sG _ _ _ _ _ _ _ _ (@bH _ _ _ _ _ _ _ _ _ (@GU _ _) (¬3) (@D5 _ _ _ _ _ _ _ ae ae) (bi _)) (@nh _ _ _ _ _ (@bH _ _ _ _ _ _ _ _ _ (@tF _ _) (@bA _ _ _ _ _ _ _ _ _ (@b_len _ _ rfl) ∅ T.b_len ((¬1)∘ag) ⋯ ⋯ ∅ ∅) ae (bi _)))))
      (@ah _ _ _ _ _ _ _ _ (@iU _ _ _ _ _ (@iu _ _ _ _ _ _ _ _ _ rfl (¬1) ((@br _ _ _ _ _ _ _ (¬3) ae)∘ag) ∅ ∅ ∅ ∅ ∅) ∅)
      (@au _ _ _ _ _ (@aL _ _ _ _ _ 3 _ _ nd rfl ↥3 (@eU _ _ _ _ _ _ _ (¬3) ae) ∅ (by trivial)))))
      (@au _ _ _ _ _ (@fm _ _ _ _ _ _ _ _ _ _ _ (@bH _ _ _ _ _ _ _ _ _ (@GU _ _) (¬3) ae (bi _))
      (@au _ _ _ _ _ (@iU _ _ _ _ _ (@iu _ _ _ _ _ _ _ _ _ rfl (¬1) ((@br _ _ _ _ _ _ _ (¬3) ae)∘ag) ∅ ∅ ∅ ∅ ∅) ∅))
      (@cj _ _)))))) ↥5)
      (@au _ _ _ _ _ (@aX _ _ _ _ _ (¬1))))))
def uV:FS:=(aE (j3 (a9 (aq (cG false) (ac 0) (cC ai)))
    (bN (vC (.int 0)))
    fB)
    (bN (gA kb (ac 0) (aa (vC (.int 0)) ai))))
def bF:FM:=iY 1 0 (([]++[])++[]) uV
theorem xc:aM ["_law_drawn"] ["_law_drawn"] (aw jr):=⟨rfl,rfl,rfl,by decide+kernel,rfl,by decide+kernel,by decide+kernel⟩
theorem Cq(h:bE K mg "_law_next" jr f fd ["_law_drawn"])(T:jT mg):aW P w K mg base cD 1 f fd ["_law_drawn"] (cO K 1 bF):=by
  have nd:=xc.nd
  exact h.fn xc rfl rfl (fun cdv A outer s H E hr=>(@ah _ _ _ _ _ _ _ _ (@fm _ _ _ _ _ _ _ _ _ _ _ (@bH _ _ _ _ _ _ _ _ _ (@pN _ _ _ rfl hr) (¬0) (@c9 _ _ _ _ _ ag) (bi _))
      (@au _ _ _ _ _ (@aX _ _ _ _ _ ae))
      (@cj _ _))
      (@au _ _ _ _ _ (@aX _ _ _ _ _ (@C6 _ _ _ _ _ _ _ _ _ rfl (¬0) (ae∘ag) ∅ ∅ ∅ ∅ ∅)))))
def ko:FT:=(a9 (aq (cG true) (ac 1) (vC (.int 0))))
def m6:FS:=(sM 0 1 (aa (ac 1) (aa (aq bf (ac 0) (ac 1)) ai)))
def DH:FS:=(aE (iW (2 ^ 4200) ko m6)
    (bN (aJ (g1 vd) (aa (ac 0) ai))))
def tX:FM:=iY 2 0 ([0,1]++[]) DH
theorem Bd:aM ["_law_one","_law_other"] ["_law_one","_law_other"] (aw qu):=⟨rfl,rfl,rfl,by decide+kernel,rfl,by decide+kernel,by decide+kernel⟩
theorem E1(h:bE K mg "_law_gcd" qu f fd ["_law_one","_law_other"])(T:jT mg):aW P w K mg base cD 1 f fd ["_law_one","_law_other"] (cO K 2 tX):=by
  have nd:=Bd.nd
  exact h.fn Bd rfl rfl (fun cdv A outer s H E hr=>(@ah _ _ _ _ _ _ _ _ (@k_ _ _ _ _ _ _ _ _ _ OH (@bH _ _ _ _ _ _ _ _ _ (@yZ _ _ _ rfl hr) (¬1) ae (bi _))
      (@au _ _ _ _ _ (@sD _ _ _ _ _ 0 1 _ _ _ _ _ _ _ _ _ rfl nd rfl rfl ⋯ rfl rfl ((¬1)∘((@br _ _ _ _ _ _ _ (¬0) (¬1))∘ag)) ∅ ∅)))
      (@au _ _ _ _ _ (@aX _ _ _ _ _ (@bA _ _ _ _ _ _ _ _ _ (@b_abs _ _) ∅ T.b_abs ((¬0)∘ag) ⋯ ⋯ ∅ ∅)))))
def DK:FS:=(aE (aF 2 (b_ 2 tX (aa (ac 0) (aa (ac 1) ai))))
    (bN (bI (aa (aq c_ (ac 0) (ac 2)) (aa (aq c_ (ac 1) (ac 2)) ai)))))
def ji:FM:=iY 2 1 ([2]++[]) DK
theorem Be:aM ["_law_top","_law_bottom","_law_common"] ["_law_top","_law_bottom"] (aw o8):=⟨rfl,rfl,rfl,by decide+kernel,rfl,by decide+kernel,by decide+kernel⟩
theorem E2(h:bE K mg "_law_low" o8 f fd ["_law_top","_law_bottom"])(T:jT mg){MH:MW}{MI:Nt}(Ms:bE K mg "_law_gcd" qu MH MI ["_law_one","_law_other"])(MF:aW P w K mg base cD 1 MH MI ["_law_one","_law_other"] (cO K 2 tX)):aW P w K mg base cD 2 f fd ["_law_top","_law_bottom"] (cO K 2 ji):=by
  have nd:=Be.nd
  exact h.fn Be rfl rfl (fun cdv A outer s H E hr=>(@ah _ _ _ _ _ _ _ _ (@aL _ _ _ _ _ 2 _ _ nd rfl ↥3 (@bu _ _ _ _ _ _ _ _ _ _ _ _ _ _ _ Ms MF (hr.mono ⋯) ((¬0)∘((¬1)∘ag)) ∅ ⋯ ∅ ∅) ∅ (by trivial))
      (@au _ _ _ _ _ (@aX _ _ _ _ _ (@ba _ _ _ _ _ _ ((@eU _ _ _ _ _ _ _ (¬0) (¬2))∘((@eU _ _ _ _ _ _ _ (¬1) (¬2))∘ag)))))))
def yS:FS:=(bN (aq wz (aq bJ (aq a8 (ac 0) (vC (.int 0))) (aq a8 (ac 1) (vC (.int 1)))) (aq bJ (aq a8 (ac 1) (vC (.int 0))) (aq a8 (ac 0) (vC (.int 1))))))
def jh:FM:=iY 2 0 [] yS
theorem w_:aM ["_law_one","_law_other"] ["_law_one","_law_other"] (aw l_):=⟨rfl,rfl,rfl,by decide+kernel,rfl,by decide+kernel,by decide+kernel⟩
theorem Co(h:bE K mg "_law_less" l_ f fd ["_law_one","_law_other"])(T:jT mg):aW P w K mg base cD 1 f fd ["_law_one","_law_other"] (cO K 2 jh):=by
  have nd:=w_.nd
  exact h.fn w_ rfl rfl (fun cdv A outer s H E hr=>(@au _ _ _ _ _ (@aX _ _ _ _ _ (@oS _ _ _ _ _ _ _ _ _ (@tF _ _) (@cV _ _ _ _ _ _ _ rfl (@aU _ _ _ _ _ _ _ rfl (¬0) ae ↥4) (@aU _ _ _ _ _ _ _ rfl (¬1) ae ↥4)) (@cV _ _ _ _ _ _ _ rfl (@aU _ _ _ _ _ _ _ rfl (¬1) ae ↥4) (@aU _ _ _ _ _ _ _ rfl (¬0) ae ↥4)) (bi _)))))
def yT:FS:=(bN (aq (cG false) (aJ (g1 mD) (aa (ac 0) ai)) (aJ (g1 mD) (aa (ac 1) ai))))
def lY:FM:=iY 2 0 [] yT
theorem xf:aM ["_law_found","_law_due"] ["_law_found","_law_due"] (aw md):=⟨rfl,rfl,rfl,by decide+kernel,rfl,by decide+kernel,by decide+kernel⟩
theorem Cr(h:bE K mg "_law_same" md f fd ["_law_found","_law_due"])(T:jT mg):aW P w K mg base cD 1 f fd ["_law_found","_law_due"] (cO K 2 lY):=by
  have nd:=xf.nd
  exact h.fn xf rfl rfl (fun cdv A outer s H E hr=>(@au _ _ _ _ _ (@aX _ _ _ _ _ (@oS _ _ _ _ _ _ _ _ _ (@pN _ _ _ rfl hr) (@bA _ _ _ _ _ _ _ _ _ (@b_repr _ _ _ rfl hr) ∅ T.b_repr ((¬0)∘ag) ⋯ ⋯ ∅ ∅) (@bA _ _ _ _ _ _ _ _ _ (@b_repr _ _ _ rfl hr) ∅ T.b_repr ((¬1)∘ag) ⋯ ⋯ ∅ ∅) (bi _)))))
def i7:FS:=(aE (j3 (a9 (aq (cG false) (ac 1) (vC (.int 0))))
    (bN (aq a8 (cC (aa (bI (aa (vC (.int 1)) (aa (vC (.int 2)) ai))) (aa (bI (aa (vC (.int 1)) (aa (vC (.int 3)) ai))) (aa (bI (aa (vC (.int 2)) (aa (vC (.int 3)) ai))) (aa (bI (aa (vC (.int 1)) (aa (vC (.int 1)) ai))) (aa (bI (aa (vC (.int 0)) (aa (vC (.int 1)) ai))) (aa (bI (aa (vC (.int 3)) (aa (vC (.int 4)) ai))) ai))))))) (aq bf (ac 0) (vC (.int 6)))))
    fB)
    (aE (j3 (a9 (aq (cG false) (ac 1) (vC (.int 1))))
    (aE (aF 2 (aq aO (vC (.int 2)) (aq bf (ac 0) (vC (.int 9)))))
    (bN (b_ 2 ji (aa (aq aO (vC (.int 1)) (aq bf (aq c_ (ac 0) (vC (.int 9))) (aq gn (ac 2) (vC (.int 1))))) (aa (ac 2) ai)))))
    fB)
    (aE (j3 (a9 (aq (cG false) (ac 1) (vC (.int 2))))
    (aE (aF 2 (aq aO (vC (.int 1)) (aq bf (ac 0) (vC (.int 100)))))
    (bN (b_ 2 ji (aa (aq bf (aq c_ (ac 0) (vC (.int 100))) (aq aO (ac 2) (vC (.int 1)))) (aa (ac 2) ai)))))
    fB)
    (bN (bI (aa (vC (.int 1)) (aa (vC (.int 1)) ai)))))))
def fj:FM:=iY 2 1 (([]++[])++((([2]++[])++[])++((([2]++[])++[])++[]))) i7
theorem qC:aM ["_law_number","_law_kind","_law_bottom"] ["_law_number","_law_kind"] (aw iw):=⟨rfl,rfl,rfl,by decide+kernel,rfl,by decide+kernel,by decide+kernel⟩
theorem yf(h:bE K mg "_law_chance" iw f fd ["_law_number","_law_kind"])(T:jT mg){Mf:MW}{Mg:Nt}(LU:bE K mg "_law_low" o8 Mf Mg ["_law_top","_law_bottom"])(LY:aW P w K mg base cD 2 Mf Mg ["_law_top","_law_bottom"] (cO K 2 ji)):aW P w K mg base cD 3 f fd ["_law_number","_law_kind"] (cO K 2 fj):=by
  have nd:=qC.nd
  exact h.fn qC rfl rfl (fun cdv A outer s H E hr=>(@ah _ _ _ _ _ _ _ _ (@fm _ _ _ _ _ _ _ _ _ _ _ (@bH _ _ _ _ _ _ _ _ _ (@pN _ _ _ rfl hr) (¬1) ae (bi _))
      (@au _ _ _ _ _ (@aX _ _ _ _ _ (@aU _ _ _ _ _ _ _ rfl (@c9 _ _ _ _ _ ((@ba _ _ _ _ _ _ (ae∘(ae∘ag)))∘((@ba _ _ _ _ _ _ (ae∘(ae∘ag)))∘((@ba _ _ _ _ _ _ (ae∘(ae∘ag)))∘((@ba _ _ _ _ _ _ (ae∘(ae∘ag)))∘((@ba _ _ _ _ _ _ (ae∘(ae∘ag)))∘((@ba _ _ _ _ _ _ (ae∘(ae∘ag)))∘ag))))))) (@br _ _ _ _ _ _ _ (¬0) ae) ↥4)))
      (@cj _ _))
      (@ah _ _ _ _ _ _ _ _ (@fm _ _ _ _ _ _ _ _ _ _ _ (@bH _ _ _ _ _ _ _ _ _ (@pN _ _ _ rfl hr) (¬1) ae (bi _))
      (@ah _ _ _ _ _ _ _ _ (@aL _ _ _ _ _ 2 _ _ nd rfl ↥3 (@bh _ _ _ _ _ _ _ rfl ae (@br _ _ _ _ _ _ _ (¬0) ae)) ∅ (by trivial))
      (@au _ _ _ _ _ (@aX _ _ _ _ _ (@bu _ _ _ _ _ _ _ _ _ _ _ _ _ _ _ LU LY (hr.mono ⋯) ((@bh _ _ _ _ _ _ _ rfl ae (@br _ _ _ _ _ _ _ (@eU _ _ _ _ _ _ _ (¬0) ae) (@mI _ _ _ _ _ _ _ (¬2) ae)))∘((¬2)∘ag)) ∅ ⋯ ∅ ∅))))
      (@cj _ _))
      (@ah _ _ _ _ _ _ _ _ (@fm _ _ _ _ _ _ _ _ _ _ _ (@bH _ _ _ _ _ _ _ _ _ (@pN _ _ _ rfl hr) (¬1) ae (bi _))
      (@ah _ _ _ _ _ _ _ _ (@aL _ _ _ _ _ 2 _ _ nd rfl ↥3 (@bh _ _ _ _ _ _ _ rfl ae (@br _ _ _ _ _ _ _ (¬0) ae)) ∅ (by trivial))
      (@au _ _ _ _ _ (@aX _ _ _ _ _ (@bu _ _ _ _ _ _ _ _ _ _ _ _ _ _ _ LU LY (hr.mono ⋯) ((@br _ _ _ _ _ _ _ (@eU _ _ _ _ _ _ _ (¬0) ae) (@bh _ _ _ _ _ _ _ rfl (¬2) ae))∘((¬2)∘ag)) ∅ ⋯ ∅ ∅))))
      (@cj _ _))
      (@au _ _ _ _ _ (@aX _ _ _ _ _ (@ba _ _ _ _ _ _ (ae∘(ae∘ag)))))))))
def wb:FS:=(bN (aq a8 (cC (aa (aq bf (ac 0) (vC (.int 7))) (aa (aq aO (vC (.int 5)) (aq bf (ac 0) (vC (.int 2)))) (aa (aq bf (ac 0) (vC (.int 1001))) (aa (aq gn (vC (.int 1000)) (aq bf (ac 0) (vC (.int 3)))) ai))))) (aq bf (ac 1) (vC (.int 4)))))
def kR:FM:=iY 2 0 [] wb
theorem ur:aM ["_law_number","_law_kind"] ["_law_number","_law_kind"] (aw jO):=⟨rfl,rfl,rfl,by decide+kernel,rfl,by decide+kernel,by decide+kernel⟩
theorem An(h:bE K mg "_law_worth" jO f fd ["_law_number","_law_kind"])(T:jT mg):aW P w K mg base cD 1 f fd ["_law_number","_law_kind"] (cO K 2 kR):=by
  have nd:=ur.nd
  exact h.fn ur rfl rfl (fun cdv A outer s H E hr=>(@au _ _ _ _ _ (@aX _ _ _ _ _ (@aU _ _ _ _ _ _ _ rfl (@c9 _ _ _ _ _ ((@br _ _ _ _ _ _ _ (¬0) ae)∘((@bh _ _ _ _ _ _ _ rfl ae (@br _ _ _ _ _ _ _ (¬0) ae))∘((@br _ _ _ _ _ _ _ (¬0) ae)∘((@mI _ _ _ _ _ _ _ ae (@br _ _ _ _ _ _ _ (¬0) ae))∘ag))))) (@br _ _ _ _ _ _ _ (¬1) ae) ↥4))))
def om:FI:=(cI (aa (ac 2) ai))
def h9:FS:=(aE (aF 8 (b_ 1 bF (aa (ac 0) ai)))
    (aE (aF 9 (aq a8 (cC (aa (aq bf (ac 8) (ac 1)) (aa (vC (.int 0)) (aa (aq bf (ac 7) (ac 1)) (aa (aq bf (ac 8) (ac 1)) (aa (aq bf (ac 8) (vC (.int 2))) (aa (aq bf (ac 8) (ac 1)) ai))))))) (ac 3)))
    (aE (aF 10 (aq bf (aq aO (aq aO (ac 9) (vC (.int 1))) (aq bf (aq c_ (ac 8) (vC (.int 12))) (aq gn (ac 1) (vC (.int 1))))) (ac 1)))
    (aE (j3 (a9 (aq (cG false) (ac 3) (vC (.int 4))))
    (g_ (bI (aa (vC (.int 0)) (aa (vC (.int 1)) ai))) (aV (ao (af 9) (ao (af 10) aS))))
    fB)
    (aE (aF 11 (b_ 1 bF (aa (ac 0) ai)))
    (aE (aF 12 (bI (aa (aJ (g2 rL) (aa (ac 9) (aa (ac 10) ai))) (aa (aJ (g2 tO) (aa (ac 9) (aa (ac 10) ai))) ai))))
    (i3 (gA dX (ac 6) (aa (aq aO (ac 12) (bI (aa (b_ 2 fj (aa (ac 11) (aa (ac 4) ai))) (aa (b_ 2 kR (aa (aq c_ (ac 11) (vC (.int 10007))) (aa (ac 5) ai))) ai)))) ai)))))))))
def yU:FS:=(aE (aF 3 (aq bf (b_ 1 bF (aa (ac 0) ai)) (vC (.int 6))))
    (aE (aF 4 (aq bf (b_ 1 bF (aa (ac 0) ai)) (vC (.int 4))))
    (aE (aF 5 (aq bf (b_ 1 bF (aa (ac 0) ai)) (vC (.int 4))))
    (aE (aF 6 (cC ai))
    (aE (eV ([7]++([8]++([9]++([10]++((([9]++([10]++[]))++[])++([11]++([12]++[]))))))) om (af 7) h9)
    (bN (aJ (g1 cZ) (aa (ac 6) ai))))))))
def oH:FM:=iY 3 10 ([3]++([4]++([5]++([6]++(([7]++([8]++([9]++([10]++((([9]++([10]++[]))++[])++([11]++([12]++[])))))))++[]))))) yU
theorem xg:aM ["_law_drawn","_law_things","_law_many","_law_shape","_law_odds","_law_worths","_law_found","_law_k","_law_number","_law_one","_law_other","_law_cell","_law_ends"] ["_law_drawn","_law_things","_law_many"] (aw me):=⟨rfl,rfl,rfl,by decide+kernel,rfl,by decide+kernel,by decide+kernel⟩
theorem Cs(h:bE K mg "_law_ties" me f fd ["_law_drawn","_law_things","_law_many"])(T:jT mg){Lq:MW}{Lr:Nt}(Kz:bE K mg "_law_next" jr Lq Lr ["_law_drawn"])(KC:aW P w K mg base cD 1 Lq Lr ["_law_drawn"] (cO K 1 bF)){L4:MW}{L5:Nt}(Ls:bE K mg "_law_chance" iw L4 L5 ["_law_number","_law_kind"])(LK:aW P w K mg base cD 3 L4 L5 ["_law_number","_law_kind"] (cO K 2 fj)){Mh:MW}{Mi:Nt}(LM:bE K mg "_law_worth" jO Mh Mi ["_law_number","_law_kind"])(LZ:aW P w K mg base cD 1 Mh Mi ["_law_number","_law_kind"] (cO K 2 kR)):aW P w K mg base cD 4 f fd ["_law_drawn","_law_things","_law_many"] (cO K 3 oH):=by
  have nd:=xg.nd
  exact h.fn xg rfl rfl (fun cdv A outer s H E hr=>(@ah _ _ _ _ _ _ _ _ (@aL _ _ _ _ _ 3 _ _ nd rfl ↥3 (@br _ _ _ _ _ _ _ (@bu _ _ _ _ _ _ _ _ _ _ _ _ _ _ _ Kz KC (hr.mono ⋯) ((¬0)∘ag) ∅ ⋯ ∅ ∅) ae) ∅ (by trivial))
      (@ah _ _ _ _ _ _ _ _ (@aL _ _ _ _ _ 4 _ _ nd rfl ↥3 (@br _ _ _ _ _ _ _ (@bu _ _ _ _ _ _ _ _ _ _ _ _ _ _ _ Kz KC (hr.mono ⋯) ((¬0)∘ag) ∅ ⋯ ∅ ∅) ae) ∅ (by trivial))
      (@ah _ _ _ _ _ _ _ _ (@aL _ _ _ _ _ 5 _ _ nd rfl ↥3 (@br _ _ _ _ _ _ _ (@bu _ _ _ _ _ _ _ _ _ _ _ _ _ _ _ Kz KC (hr.mono ⋯) ((¬0)∘ag) ∅ ⋯ ∅ ∅) ae) ∅ (by trivial))
      (@ah _ _ _ _ _ _ _ _ (@aL _ _ _ _ _ 6 _ _ nd rfl ↥3 (@c9 _ _ _ _ _ ag) ∅ (by trivial))
      (@ah _ _ _ _ _ _ _ _ (@gZ _ _ _ _ _ _ _ _ _ _ _ OH rfl (@cW _ _ _ _ _ _ _ rfl T.b_range ((¬2)∘ag) ∅) (@ar _ _ _ 7 _ nd rfl ↥3 (by trivial))
      (@ah _ _ _ _ _ _ _ _ (@aL _ _ _ _ _ 8 _ _ nd rfl ↥3 (@bu _ _ _ _ _ _ _ _ _ _ _ _ _ _ _ Kz KC (hr.mono ⋯) ((¬0)∘ag) ∅ ⋯ ∅ ∅) ∅ (by trivial))
      (@ah _ _ _ _ _ _ _ _ (@aL _ _ _ _ _ 9 _ _ nd rfl ↥3 (@aU _ _ _ _ _ _ _ rfl (@c9 _ _ _ _ _ ((@br _ _ _ _ _ _ _ (¬8) (¬1))∘(ae∘((@br _ _ _ _ _ _ _ (¬7) (¬1))∘((@br _ _ _ _ _ _ _ (¬8) (¬1))∘((@br _ _ _ _ _ _ _ (¬8) ae)∘((@br _ _ _ _ _ _ _ (¬8) (¬1))∘ag))))))) (¬3) ↥4) ∅ (by trivial))
      (@ah _ _ _ _ _ _ _ _ (@aL _ _ _ _ _ 10 _ _ nd rfl ↥3 (@br _ _ _ _ _ _ _ (@bh _ _ _ _ _ _ _ rfl (@bh _ _ _ _ _ _ _ rfl (¬9) ae) (@br _ _ _ _ _ _ _ (@eU _ _ _ _ _ _ _ (¬8) ae) (@mI _ _ _ _ _ _ _ (¬1) ae))) (¬1)) ∅ (by trivial))
      (@ah _ _ _ _ _ _ _ _ (@fm _ _ _ _ _ _ _ _ _ _ _ (@bH _ _ _ _ _ _ _ _ _ (@pN _ _ _ rfl hr) (¬3) ae (bi _))
      (@au _ _ _ _ _ (@iS _ _ _ _ _ _ _ _ (@ba _ _ _ _ _ _ (ae∘(ae∘ag))) (@cK _ _ _ _ _ _ _ _ rfl rfl (@ax _ _ _ _ _ _ _ _ (@ar _ _ _ 9 _ nd rfl ↥3 (by trivial)) (@ax _ _ _ _ _ _ _ _ (@ar _ _ _ 10 _ nd rfl ↥3 (by trivial)) (@bQ _ _) ∅) ∅) (aC (aC cH)) ∅ ∅) ∅ ∅ ∅))
      (@cj _ _))
      (@ah _ _ _ _ _ _ _ _ (@aL _ _ _ _ _ 11 _ _ nd rfl ↥3 (@bu _ _ _ _ _ _ _ _ _ _ _ _ _ _ _ Kz KC (hr.mono ⋯) ((¬0)∘ag) ∅ ⋯ ∅ ∅) ∅ (by trivial))
      (@ah _ _ _ _ _ _ _ _ (@aL _ _ _ _ _ 12 _ _ nd rfl ↥3 (@ba _ _ _ _ _ _ ((@bA _ _ _ _ _ _ _ _ _ (@b_min _ _ rfl) ∅ T.b_min ((¬9)∘((¬10)∘ag)) ⋯ ⋯ ∅ ∅)∘((@bA _ _ _ _ _ _ _ _ _ (@b_max _ _ rfl) ∅ T.b_max ((¬9)∘((¬10)∘ag)) ⋯ ⋯ ∅ ∅)∘ag))) ∅ (by trivial))
      (@au _ _ _ _ _ (@iU _ _ _ _ _ (@iu _ _ _ _ _ _ _ _ _ rfl (¬6) ((@bh _ _ _ _ _ _ _ rfl (¬12) (@ba _ _ _ _ _ _ ((@bu _ _ _ _ _ _ _ _ _ _ _ _ _ _ _ Ls LK (hr.mono ⋯) ((¬11)∘((¬4)∘ag)) ∅ ⋯ ∅ ∅)∘((@bu _ _ _ _ _ _ _ _ _ _ _ _ _ _ _ LM LZ (hr.mono ⋯) ((@eU _ _ _ _ _ _ _ (¬11) ae)∘((¬5)∘ag)) ∅ ⋯ ∅ ∅)∘ag))))∘ag) ∅ ∅ ∅ ∅ ∅) ∅)))))))) ↥5)
      (@au _ _ _ _ _ (@aX _ _ _ _ _ (@bA _ _ _ _ _ _ _ _ _ (@b_tuple _ _ rfl) ∅ T.b_tuple ((¬6)∘ag) ⋯ ⋯ ∅ ∅)))))))))
def rP:FI:=(cI (aa (ac 3) ai))
def m7:FS:=(i3 (gA dX (ac 7) (aa (aq a8 (cC (aa (vC (.int 20)) (aa (aq aO (vC (.int 1)) (aq bf (b_ 1 bF (aa (ac 0) ai)) (vC (.int 3)))) (aa (aq bf (b_ 1 bF (aa (ac 0) ai)) (vC (.int 21))) ai)))) (ac 6)) ai)))
def DM:FS:=(aE (aF 3 (aq bf (b_ 1 bF (aa (ac 0) ai)) (aq aO (ac 1) (vC (.int 1)))))
    (aE (aF 4 (aq bJ (aq bf (b_ 1 bF (aa (ac 0) ai)) (aq aO (ac 2) (vC (.int 1)))) (aJ (g1 pS) (aa (aq BJ (ac 3) (vC (.int 1))) ai))))
    (aE (aF 5 (b_ 3 oH (aa (ac 0) (aa (aJ (g2 tO) (aa (vC (.int 2)) (aa (ac 3) ai))) (aa (ac 4) ai)))))
    (aE (aF 6 (aq bf (b_ 1 bF (aa (ac 0) ai)) (vC (.int 3))))
    (aE (aF 7 (cC ai))
    (aE (eV ([8]++[]) rP (af 8) m7)
    (aE (aF 9 (aq a8 (cC (aa (vC (.int 40)) (aa (aq aO (vC (.int 1)) (aq bf (b_ 1 bF (aa (ac 0) ai)) (aJ (g2 tO) (aa (vC (.int 1)) (aa (ac 4) ai))))) (aa (aq bf (b_ 1 bF (aa (ac 0) ai)) (vC (.int 41))) ai)))) (aq bf (b_ 1 bF (aa (ac 0) ai)) (vC (.int 3)))))
    (bN (bI (aa (ac 3) (aa (ac 5) (aa (aJ (g1 cZ) (aa (ac 7) ai)) (aa (ac 9) ai)))))))))))))
def qm:FM:=iY 3 7 ([3]++([4]++([5]++([6]++([7]++(([8]++[])++([9]++[]))))))) DM
theorem Bh:aM ["_law_drawn","_law_most","_law_ties_here","_law_things","_law_many","_law_rows","_law_way","_law_patience","_law_k","_law_asks"] ["_law_drawn","_law_most","_law_ties_here"] (aw qA):=⟨rfl,rfl,rfl,by decide+kernel,rfl,by decide+kernel,by decide+kernel⟩
theorem E6(h:bE K mg "_law_web" qA f fd ["_law_drawn","_law_most","_law_ties_here"])(T:jT mg){Mx:MW}{My:Nt}(L6:bE K mg "_law_ties" me Mx My ["_law_drawn","_law_things","_law_many"])(Mj:aW P w K mg base cD 4 Mx My ["_law_drawn","_law_things","_law_many"] (cO K 3 oH)){Lq:MW}{Lr:Nt}(Kz:bE K mg "_law_next" jr Lq Lr ["_law_drawn"])(KC:aW P w K mg base cD 1 Lq Lr ["_law_drawn"] (cO K 1 bF)):aW P w K mg base cD 5 f fd ["_law_drawn","_law_most","_law_ties_here"] (cO K 3 qm):=by
  have nd:=Bh.nd
  exact h.fn Bh rfl rfl (fun cdv A outer s H E hr=>(@ah _ _ _ _ _ _ _ _ (@aL _ _ _ _ _ 3 _ _ nd rfl ↥3 (@br _ _ _ _ _ _ _ (@bu _ _ _ _ _ _ _ _ _ _ _ _ _ _ _ Kz KC (hr.mono ⋯) ((¬0)∘ag) ∅ ⋯ ∅ ∅) (@bh _ _ _ _ _ _ _ rfl (¬1) ae)) ∅ (by trivial))
      (@ah _ _ _ _ _ _ _ _ (@aL _ _ _ _ _ 4 _ _ nd rfl ↥3 (@cV _ _ _ _ _ _ _ rfl (@br _ _ _ _ _ _ _ (@bu _ _ _ _ _ _ _ _ _ _ _ _ _ _ _ Kz KC (hr.mono ⋯) ((¬0)∘ag) ∅ ⋯ ∅ ∅) (@bh _ _ _ _ _ _ _ rfl (¬2) ae)) (@bA _ _ _ _ _ _ _ _ _ (@b_int _ _) ∅ T.b_int ((@oS _ _ _ _ _ _ _ _ _ (@BR _ _) (¬3) ae (bi _))∘ag) ⋯ ⋯ ∅ ∅)) ∅ (by trivial))
      (@ah _ _ _ _ _ _ _ _ (@aL _ _ _ _ _ 5 _ _ nd rfl ↥3 (@bu _ _ _ _ _ _ _ _ _ _ _ _ _ _ _ L6 Mj (hr.mono ⋯) ((¬0)∘((@bA _ _ _ _ _ _ _ _ _ (@b_max _ _ rfl) ∅ T.b_max (ae∘((¬3)∘ag)) ⋯ ⋯ ∅ ∅)∘((¬4)∘ag))) ∅ ⋯ ∅ ∅) ∅ (by trivial))
      (@ah _ _ _ _ _ _ _ _ (@aL _ _ _ _ _ 6 _ _ nd rfl ↥3 (@br _ _ _ _ _ _ _ (@bu _ _ _ _ _ _ _ _ _ _ _ _ _ _ _ Kz KC (hr.mono ⋯) ((¬0)∘ag) ∅ ⋯ ∅ ∅) ae) ∅ (by trivial))
      (@ah _ _ _ _ _ _ _ _ (@aL _ _ _ _ _ 7 _ _ nd rfl ↥3 (@c9 _ _ _ _ _ ag) ∅ (by trivial))
      (@ah _ _ _ _ _ _ _ _ (@gZ _ _ _ _ _ _ _ _ _ _ _ OH rfl (@cW _ _ _ _ _ _ _ rfl T.b_range ((¬3)∘ag) ∅) (@ar _ _ _ 8 _ nd rfl ↥3 (by trivial))
      (@au _ _ _ _ _ (@iU _ _ _ _ _ (@iu _ _ _ _ _ _ _ _ _ rfl (¬7) ((@aU _ _ _ _ _ _ _ rfl (@c9 _ _ _ _ _ (ae∘((@bh _ _ _ _ _ _ _ rfl ae (@br _ _ _ _ _ _ _ (@bu _ _ _ _ _ _ _ _ _ _ _ _ _ _ _ Kz KC (hr.mono ⋯) ((¬0)∘ag) ∅ ⋯ ∅ ∅) ae))∘((@br _ _ _ _ _ _ _ (@bu _ _ _ _ _ _ _ _ _ _ _ _ _ _ _ Kz KC (hr.mono ⋯) ((¬0)∘ag) ∅ ⋯ ∅ ∅) ae)∘ag)))) (¬6) ↥4)∘ag) ∅ ∅ ∅ ∅ ∅) ∅)) ↥5)
      (@ah _ _ _ _ _ _ _ _ (@aL _ _ _ _ _ 9 _ _ nd rfl ↥3 (@aU _ _ _ _ _ _ _ rfl (@c9 _ _ _ _ _ (ae∘((@bh _ _ _ _ _ _ _ rfl ae (@br _ _ _ _ _ _ _ (@bu _ _ _ _ _ _ _ _ _ _ _ _ _ _ _ Kz KC (hr.mono ⋯) ((¬0)∘ag) ∅ ⋯ ∅ ∅) (@bA _ _ _ _ _ _ _ _ _ (@b_max _ _ rfl) ∅ T.b_max (ae∘((¬4)∘ag)) ⋯ ⋯ ∅ ∅)))∘((@br _ _ _ _ _ _ _ (@bu _ _ _ _ _ _ _ _ _ _ _ _ _ _ _ Kz KC (hr.mono ⋯) ((¬0)∘ag) ∅ ⋯ ∅ ∅) ae)∘ag)))) (@br _ _ _ _ _ _ _ (@bu _ _ _ _ _ _ _ _ _ _ _ _ _ _ _ Kz KC (hr.mono ⋯) ((¬0)∘ag) ∅ ⋯ ∅ ∅) ae) ↥4) ∅ (by trivial))
      (@au _ _ _ _ _ (@aX _ _ _ _ _ (@ba _ _ _ _ _ _ ((¬3)∘((¬5)∘((@bA _ _ _ _ _ _ _ _ _ (@b_tuple _ _ rfl) ∅ T.b_tuple ((¬7)∘ag) ⋯ ⋯ ∅ ∅)∘((¬9)∘ag)))))))))))))))
def DL:FS:=(bN (aq aO (aq aO (pZ (ac 0) eI (dO (ac 1))) (bI (aa (ac 2) ai))) (pZ (ac 0) (dO (aq aO (ac 1) (vC (.int 1)))) eI)))
def kQ:FM:=iY 3 0 [] DL
theorem Bg:aM ["_law_row","_law_at","_law_thing"] ["_law_row","_law_at","_law_thing"] (aw qz):=⟨rfl,rfl,rfl,by decide+kernel,rfl,by decide+kernel,by decide+kernel⟩
theorem E5(h:bE K mg "_law_put" qz f fd ["_law_row","_law_at","_law_thing"])(T:jT mg):aW P w K mg base cD 1 f fd ["_law_row","_law_at","_law_thing"] (cO K 3 kQ):=by
  have nd:=Bg.nd
  exact h.fn Bg rfl rfl (fun cdv A outer s H E hr=>(@au _ _ _ _ _ (@aX _ _ _ _ _ (@bh _ _ _ _ _ _ _ rfl (@bh _ _ _ _ _ _ _ rfl (@dY _ _ _ _ _ _ _ _ _ _ rfl (¬0) (@eG _ _) (@du _ _ _ _ (¬1))) (@ba _ _ _ _ _ _ ((¬2)∘ag))) (@dY _ _ _ _ _ _ _ _ _ _ rfl (¬0) (@du _ _ _ _ (@bh _ _ _ _ _ _ _ rfl (¬1) ae)) (@eG _ _))))))
def iE:FS:=(aE (g_ (ac 1) (aV (ao (af 2) (ao (af 3) (ao (af 4) (ao (af 5) aS))))))
    (aE (aF 6 (aq bf (ac 0) (vC (.int 4))))
    (aE (j3 (mX (a9 (aq (cG true) (ac 3) (bI ai))) (a9 (aq wz (ac 6) (vC (.int 2)))))
    (aE (aF 7 (aq bf (aq c_ (ac 0) (vC (.int 4))) (aJ (g1 cY) (aa (ac 3) ai))))
    (aE (g_ (aq a8 (ac 3) (ac 7)) (aV (ao (af 8) (ao (af 9) (ao (af 10) (ao (af 11) aS))))))
    (aE (j3 (a9 (aq (cG false) (ac 6) (vC (.int 0))))
    (aF 10 (aq a8 (cC (aa (b_ 2 ji (aa (aq aO (aq bJ (vC (.int 2)) (aq a8 (ac 10) (vC (.int 0)))) (vC (.int 1))) (aa (aq aO (aq bJ (vC (.int 2)) (aq a8 (ac 10) (vC (.int 1)))) (vC (.int 1))) ai))) (aa (bI (aa (vC (.int 1)) (aa (vC (.int 1)) ai))) ai))) (aJ (g1 pS) (aa (aq BJ (aq a8 (ac 10) (vC (.int 1))) (vC (.int 49))) ai))))
    (aF 11 (aJ (g2 rL) (aa (vC (.int 1000)) (aa (aq aO (aq aO (ac 11) (vC (.int 1))) (aq bf (aq c_ (ac 0) (vC (.int 100))) (vC (.int 40)))) ai)))))
    (bN (bI (aa (ac 2) (aa (b_ 3 kQ (aa (ac 3) (aa (ac 7) (aa (bI (aa (ac 8) (aa (ac 9) (aa (ac 10) (aa (ac 11) ai))))) ai)))) (aa (ac 4) (aa (ac 5) ai)))))))))
    fB)
    (aE (j3 (mX (a9 (aq (cG true) (ac 4) (bI ai))) (a9 (aq (cG false) (ac 6) (vC (.int 2)))))
    (aE (aF 7 (aq bf (aq c_ (ac 0) (vC (.int 4))) (ac 2)))
    (bN (bI (aa (ac 2) (aa (ac 3) (aa (b_ 3 kQ (aa (ac 4) (aa (ac 7) (aa (aJ (g2 rL) (aa (vC (.int 20)) (aa (aq aO (aq a8 (ac 4) (ac 7)) (vC (.int 1))) ai))) ai)))) (aa (ac 5) ai)))))))
    fB)
    (bN (bI (aa (ac 2) (aa (ac 3) (aa (ac 4) (aa (aJ (g2 rL) (aa (vC (.int 40)) (aa (aq aO (ac 5) (vC (.int 1))) ai))) ai))))))))))
def jj:FM:=iY 2 10 (([2]++([3]++([4]++([5]++[]))))++([6]++((([7]++(([8]++([9]++([10]++([11]++[]))))++(([10]++[11])++[])))++[])++((([7]++[])++[])++[])))) iE
theorem xa:aM ["_law_number","_law_web_here","_law_things","_law_ties_here","_law_patience","_law_asks","_law_kind","_law_at","_law_one","_law_other","_law_chance_here","_law_worth_here"] ["_law_number","_law_web_here"] (aw ma):=⟨rfl,rfl,rfl,by decide+kernel,rfl,by decide+kernel,by decide+kernel⟩
theorem Cp(h:bE K mg "_law_more" ma f fd ["_law_number","_law_web_here"])(T:jT mg){MJ:MW}{MK:Nt}(Ml:bE K mg "_law_put" qz MJ MK ["_law_row","_law_at","_law_thing"])(Mt:aW P w K mg base cD 1 MJ MK ["_law_row","_law_at","_law_thing"] (cO K 3 kQ)){Mf:MW}{Mg:Nt}(LU:bE K mg "_law_low" o8 Mf Mg ["_law_top","_law_bottom"])(LY:aW P w K mg base cD 2 Mf Mg ["_law_top","_law_bottom"] (cO K 2 ji)):aW P w K mg base cD 3 f fd ["_law_number","_law_web_here"] (cO K 2 jj):=by
  have nd:=xa.nd
  exact h.fn xa rfl rfl (fun cdv A outer s H E hr=>(@ah _ _ _ _ _ _ _ _ (@iS _ _ _ _ _ _ _ _ (¬1) (@cK _ _ _ _ _ _ _ _ rfl rfl (@ax _ _ _ _ _ _ _ _ (@ar _ _ _ 2 _ nd rfl ↥3 (by trivial)) (@ax _ _ _ _ _ _ _ _ (@ar _ _ _ 3 _ nd rfl ↥3 (by trivial)) (@ax _ _ _ _ _ _ _ _ (@ar _ _ _ 4 _ nd rfl ↥3 (by trivial)) (@ax _ _ _ _ _ _ _ _ (@ar _ _ _ 5 _ nd rfl ↥3 (by trivial)) (@bQ _ _) ∅) ∅) ∅) ∅) (aC (aC (aC (aC cH)))) ∅ ∅) ∅ ∅ ∅)
      (@ah _ _ _ _ _ _ _ _ (@aL _ _ _ _ _ 6 _ _ nd rfl ↥3 (@br _ _ _ _ _ _ _ (¬0) ae) ∅ (by trivial))
      (@ah _ _ _ _ _ _ _ _ (@fm _ _ _ _ _ _ _ _ _ _ _ (@A0 _ _ _ _ (@sG _ _ _ _ _ _ _ _ (@bH _ _ _ _ _ _ _ _ _ (@yZ _ _ _ rfl hr) (¬3) (@ba _ _ _ _ _ _ ag) (bi _)) (@nh _ _ _ _ _ (@bH _ _ _ _ _ _ _ _ _ (@tF _ _) (¬6) ae (bi _)))))
      (@ah _ _ _ _ _ _ _ _ (@aL _ _ _ _ _ 7 _ _ nd rfl ↥3 (@br _ _ _ _ _ _ _ (@eU _ _ _ _ _ _ _ (¬0) ae) (@bA _ _ _ _ _ _ _ _ _ (@b_len _ _ rfl) ∅ T.b_len ((¬3)∘ag) ⋯ ⋯ ∅ ∅)) ∅ (by trivial))
      (@ah _ _ _ _ _ _ _ _ (@iS _ _ _ _ _ _ _ _ (@aU _ _ _ _ _ _ _ rfl (¬3) (¬7) ↥4) (@cK _ _ _ _ _ _ _ _ rfl rfl (@ax _ _ _ _ _ _ _ _ (@ar _ _ _ 8 _ nd rfl ↥3 (by trivial)) (@ax _ _ _ _ _ _ _ _ (@ar _ _ _ 9 _ nd rfl ↥3 (by trivial)) (@ax _ _ _ _ _ _ _ _ (@ar _ _ _ 10 _ nd rfl ↥3 (by trivial)) (@ax _ _ _ _ _ _ _ _ (@ar _ _ _ 11 _ nd rfl ↥3 (by trivial)) (@bQ _ _) ∅) ∅) ∅) ∅) (aC (aC (aC (aC cH)))) ∅ ∅) ∅ ∅ ∅)
      (@ah _ _ _ _ _ _ _ _ (@fm _ _ _ _ _ _ _ _ _ _ _ (@bH _ _ _ _ _ _ _ _ _ (@pN _ _ _ rfl hr) (¬6) ae (bi _))
      (@au _ _ _ _ _ (@aL _ _ _ _ _ 10 _ _ nd rfl ↥3 (@aU _ _ _ _ _ _ _ rfl (@c9 _ _ _ _ _ ((@bu _ _ _ _ _ _ _ _ _ _ _ _ _ _ _ LU LY (hr.mono ⋯) ((@bh _ _ _ _ _ _ _ rfl (@cV _ _ _ _ _ _ _ rfl ae (@aU _ _ _ _ _ _ _ rfl (¬10) ae ↥4)) ae)∘((@bh _ _ _ _ _ _ _ rfl (@cV _ _ _ _ _ _ _ rfl ae (@aU _ _ _ _ _ _ _ rfl (¬10) ae ↥4)) ae)∘ag)) ∅ ⋯ ∅ ∅)∘((@ba _ _ _ _ _ _ (ae∘(ae∘ag)))∘ag))) (@bA _ _ _ _ _ _ _ _ _ (@b_int _ _) ∅ T.b_int ((@oS _ _ _ _ _ _ _ _ _ (@BR _ _) (@aU _ _ _ _ _ _ _ rfl (¬10) ae ↥4) ae (bi _))∘ag) ⋯ ⋯ ∅ ∅) ↥4) ∅ (by trivial)))
      (@au _ _ _ _ _ (@aL _ _ _ _ _ 11 _ _ nd rfl ↥3 (@bA _ _ _ _ _ _ _ _ _ (@b_min _ _ rfl) ∅ T.b_min (ae∘((@bh _ _ _ _ _ _ _ rfl (@bh _ _ _ _ _ _ _ rfl (¬11) ae) (@br _ _ _ _ _ _ _ (@eU _ _ _ _ _ _ _ (¬0) ae) ae))∘ag)) ⋯ ⋯ ∅ ∅) ∅ (by trivial))))
      (@au _ _ _ _ _ (@aX _ _ _ _ _ (@ba _ _ _ _ _ _ ((¬2)∘((@bu _ _ _ _ _ _ _ _ _ _ _ _ _ _ _ Ml Mt (hr.mono ⋯) ((¬3)∘((¬7)∘((@ba _ _ _ _ _ _ ((¬8)∘((¬9)∘((¬10)∘((¬11)∘ag)))))∘ag))) ∅ ⋯ ∅ ∅)∘((¬4)∘((¬5)∘ag))))))))))
      (@cj _ _))
      (@ah _ _ _ _ _ _ _ _ (@fm _ _ _ _ _ _ _ _ _ _ _ (@A0 _ _ _ _ (@sG _ _ _ _ _ _ _ _ (@bH _ _ _ _ _ _ _ _ _ (@yZ _ _ _ rfl hr) (¬4) (@ba _ _ _ _ _ _ ag) (bi _)) (@nh _ _ _ _ _ (@bH _ _ _ _ _ _ _ _ _ (@pN _ _ _ rfl hr) (¬6) ae (bi _)))))
      (@ah _ _ _ _ _ _ _ _ (@aL _ _ _ _ _ 7 _ _ nd rfl ↥3 (@br _ _ _ _ _ _ _ (@eU _ _ _ _ _ _ _ (¬0) ae) (¬2)) ∅ (by trivial))
      (@au _ _ _ _ _ (@aX _ _ _ _ _ (@ba _ _ _ _ _ _ ((¬2)∘((¬3)∘((@bu _ _ _ _ _ _ _ _ _ _ _ _ _ _ _ Ml Mt (hr.mono ⋯) ((¬4)∘((¬7)∘((@bA _ _ _ _ _ _ _ _ _ (@b_min _ _ rfl) ∅ T.b_min (ae∘((@bh _ _ _ _ _ _ _ rfl (@aU _ _ _ _ _ _ _ rfl (¬4) (¬7) ↥4) ae)∘ag)) ⋯ ⋯ ∅ ∅)∘ag))) ∅ ⋯ ∅ ∅)∘((¬5)∘ag))))))))
      (@cj _ _))
      (@au _ _ _ _ _ (@aX _ _ _ _ _ (@ba _ _ _ _ _ _ ((¬2)∘((¬3)∘((¬4)∘((@bA _ _ _ _ _ _ _ _ _ (@b_min _ _ rfl) ∅ T.b_min (ae∘((@bh _ _ _ _ _ _ _ rfl (¬5) ae)∘ag)) ⋯ ⋯ ∅ ∅)∘ag))))))))))))
def j9:FI:=(kJ (aq aO (pZ (ac 3) (dO (ac 6)) eI) (pZ (ac 3) eI (dO (ac 6)))))
def iF:FS:=(i3 (gA dX (ac 7) (aa (bI (aa (aq gn (aq gn (ac 2) (vC (.int 1))) (ac 9)) (aa (aq gn (aq gn (ac 2) (vC (.int 1))) (ac 8)) (aa (ac 10) (aa (ac 11) ai))))) ai)))
def nH:FS:=(aE (g_ (ac 1) (aV (ao (af 2) (ao (af 3) (ao (af 4) (ao (af 5) aS))))))
    (aE (aF 6 (aq bf (ac 0) (aJ (g2 tO) (aa (vC (.int 1)) (aa (aJ (g1 cY) (aa (ac 3) ai)) ai)))))
    (aE (aF 7 (cC ai))
    (aE (eV (([8]++([9]++([10]++([11]++[]))))++[]) j9 (aV (ao (af 8) (ao (af 9) (ao (af 10) (ao (af 11) aS))))) iF)
    (bN (bI (aa (ac 2) (aa (aJ (g1 cZ) (aa (ac 7) ai)) (aa (Im (ac 4) (ny ig (vC (.int 1)))) (aa (ac 5) ai))))))))))
def gu:FM:=iY 2 10 (([2]++([3]++([4]++([5]++[]))))++([6]++([7]++((([8]++([9]++([10]++([11]++[]))))++[])++[])))) nH
theorem qD:aM ["_law_number","_law_web_here","_law_things","_law_ties_here","_law_patience","_law_asks","_law_at","_law_rows","_law_one","_law_other","_law_chance_here","_law_worth_here"] ["_law_number","_law_web_here"] (aw iy):=⟨rfl,rfl,rfl,by decide+kernel,rfl,by decide+kernel,by decide+kernel⟩
theorem yg(h:bE K mg "_law_turned" iy f fd ["_law_number","_law_web_here"])(T:jT mg):aW P w K mg base cD 1 f fd ["_law_number","_law_web_here"] (cO K 2 gu):=by
  have nd:=qD.nd
  exact h.fn qD rfl rfl (fun cdv A outer s H E hr=>(@ah _ _ _ _ _ _ _ _ (@iS _ _ _ _ _ _ _ _ (¬1) (@cK _ _ _ _ _ _ _ _ rfl rfl (@ax _ _ _ _ _ _ _ _ (@ar _ _ _ 2 _ nd rfl ↥3 (by trivial)) (@ax _ _ _ _ _ _ _ _ (@ar _ _ _ 3 _ nd rfl ↥3 (by trivial)) (@ax _ _ _ _ _ _ _ _ (@ar _ _ _ 4 _ nd rfl ↥3 (by trivial)) (@ax _ _ _ _ _ _ _ _ (@ar _ _ _ 5 _ nd rfl ↥3 (by trivial)) (@bQ _ _) ∅) ∅) ∅) ∅) (aC (aC (aC (aC cH)))) ∅ ∅) ∅ ∅ ∅)
      (@ah _ _ _ _ _ _ _ _ (@aL _ _ _ _ _ 6 _ _ nd rfl ↥3 (@br _ _ _ _ _ _ _ (¬0) (@bA _ _ _ _ _ _ _ _ _ (@b_max _ _ rfl) ∅ T.b_max (ae∘((@bA _ _ _ _ _ _ _ _ _ (@b_len _ _ rfl) ∅ T.b_len ((¬3)∘ag) ⋯ ⋯ ∅ ∅)∘ag)) ⋯ ⋯ ∅ ∅)) ∅ (by trivial))
      (@ah _ _ _ _ _ _ _ _ (@aL _ _ _ _ _ 7 _ _ nd rfl ↥3 (@c9 _ _ _ _ _ ag) ∅ (by trivial))
      (@ah _ _ _ _ _ _ _ _ (@gZ _ _ _ _ _ _ _ _ _ _ _ OH rfl (@jo _ _ _ _ _ rfl (@bh _ _ _ _ _ _ _ rfl (@dY _ _ _ _ _ _ _ _ _ _ rfl (¬3) (@du _ _ _ _ (¬6)) (@eG _ _)) (@dY _ _ _ _ _ _ _ _ _ _ rfl (¬3) (@eG _ _) (@du _ _ _ _ (¬6))))) (@cK _ _ _ _ _ _ _ _ rfl rfl (@ax _ _ _ _ _ _ _ _ (@ar _ _ _ 8 _ nd rfl ↥3 (by trivial)) (@ax _ _ _ _ _ _ _ _ (@ar _ _ _ 9 _ nd rfl ↥3 (by trivial)) (@ax _ _ _ _ _ _ _ _ (@ar _ _ _ 10 _ nd rfl ↥3 (by trivial)) (@ax _ _ _ _ _ _ _ _ (@ar _ _ _ 11 _ nd rfl ↥3 (by trivial)) (@bQ _ _) ∅) ∅) ∅) ∅) (aC (aC (aC (aC cH)))) ∅ ∅)
      (@au _ _ _ _ _ (@iU _ _ _ _ _ (@iu _ _ _ _ _ _ _ _ _ rfl (¬7) ((@ba _ _ _ _ _ _ ((@mI _ _ _ _ _ _ _ (@mI _ _ _ _ _ _ _ (¬2) ae) (¬9))∘((@mI _ _ _ _ _ _ _ (@mI _ _ _ _ _ _ _ (¬2) ae) (¬8))∘((¬10)∘((¬11)∘ag)))))∘ag) ∅ ∅ ∅ ∅ ∅) ∅)) ↥5)
      (@au _ _ _ _ _ (@aX _ _ _ _ _ (@ba _ _ _ _ _ _ ((¬2)∘((@bA _ _ _ _ _ _ _ _ _ (@b_tuple _ _ rfl) ∅ T.b_tuple ((¬7)∘ag) ⋯ ⋯ ∅ ∅)∘((@Jq _ _ _ _ _ _ _ _ rfl (¬4) (@kZ _ _ _ _ _ ae))∘((¬5)∘ag))))))))))))
def Jg:FI:=(cI (aa (vC (.int 2)) ai))
def GQ:FS:=(j3 (a9 (b_ 2 jh (aa (aq a8 (b_ 1 dr (aa (b_ 2 jj (aa (b_ 1 bF (aa (ac 1) ai)) (aa (ac 3) ai))) ai)) (vC (.int 0))) (aa (ac 4) ai))))
    (bN (vC (.bool false)))
    fB)
def Jh:FI:=(cI (aa (vC (.int 2)) ai))
def GR:FS:=(aE (aF 3 (b_ 3 qm (aa (ac 1) (aa (vC (.int 6)) (aa (vC (.int 6)) ai)))))
    (aE (aF 4 (aq a8 (b_ 1 dr (aa (ac 3) ai)) (vC (.int 0))))
    (aE (eV ([5]++([]++[])) Jg (af 5) GQ)
    (aE (j3 (a9 (aq (cG true) (aq a8 (ac 3) (vC (.int 1))) (bI ai)))
    (aE (aF 6 (aq bf (b_ 1 bF (aa (ac 1) ai)) (aJ (g1 cY) (aa (aq a8 (ac 3) (vC (.int 1))) ai))))
    (aE (aF 7 (bI (aa (aq a8 (ac 3) (vC (.int 0))) (aa (aq aO (pZ (aq a8 (ac 3) (vC (.int 1))) eI (dO (ac 6))) (pZ (aq a8 (ac 3) (vC (.int 1))) (dO (aq aO (ac 6) (vC (.int 1)))) eI)) (aa (aq a8 (ac 3) (vC (.int 2))) (aa (aq a8 (ac 3) (vC (.int 3))) ai))))))
    (j3 (a9 (b_ 2 jh (aa (ac 4) (aa (aq a8 (b_ 1 dr (aa (ac 7) ai)) (vC (.int 0))) ai))))
    (bN (vC (.bool false)))
    fB)))
    fB)
    (j3 (uJ (a9 (b_ 2 lY (aa (aq a8 (b_ 1 dr (aa (b_ 2 gu (aa (b_ 1 bF (aa (ac 1) ai)) (aa (ac 3) ai))) ai)) (vC (.int 0))) (aa (ac 4) ai)))))
    (bN (vC (.bool false)))
    fB)))))
def DN:FS:=(aE (aF 1 (b_ 1 kP (aa (ac 0) ai)))
    (aE (eV ([2]++([3]++([4]++(([5]++([]++[]))++((([6]++([7]++([]++[])))++[])++([]++[])))))) Jh (af 2) GR)
    (bN (vC (.bool true)))))
def oI:FM:=iY 1 7 ([1]++(([2]++([3]++([4]++(([5]++([]++[]))++((([6]++([7]++([]++[])))++[])++([]++[]))))))++[])) DN
theorem Bi:aM ["_law_script","_law_drawn","_law_k","_law_web_here","_law_due","_law_j","_law_at","_law_fewer"] ["_law_script"] (aw mJ):=⟨rfl,rfl,rfl,by decide+kernel,rfl,by decide+kernel,by decide+kernel⟩
theorem E7(h:bE K mg "law" mJ f fd ["_law_script"])(T:jT mg){Mm:MW}{Mn:Nt}(LN:bE K mg "_law_draws" jM Mm Mn ["_law_script"])(L0:aW P w K mg base cD 2 Mm Mn ["_law_script"] (cO K 1 kP)){ML:MW}{MM:Nt}(Mu:bE K mg "_law_web" qA ML MM ["_law_drawn","_law_most","_law_ties_here"])(MG:aW P w K mg base cD 5 ML MM ["_law_drawn","_law_most","_law_ties_here"] (cO K 3 qm)){Mo:MW}{Mp:Nt}(Lh:bE K mg "bound" jP Mo Mp ["web"])(Lo:aW P w K mg base cD 6 Mo Mp ["web"] (cO K 1 dr)){Mz:MW}{MA:Nt}(LW:bE K mg "_law_less" l_ Mz MA ["_law_one","_law_other"])(L7:aW P w K mg base cD 1 Mz MA ["_law_one","_law_other"] (cO K 2 jh)){MB:MW}{MC:Nt}(L8:bE K mg "_law_same" md MB MC ["_law_found","_law_due"])(Mq:aW P w K mg base cD 1 MB MC ["_law_found","_law_due"] (cO K 2 lY)){Lq:MW}{Lr:Nt}(Kz:bE K mg "_law_next" jr Lq Lr ["_law_drawn"])(KC:aW P w K mg base cD 1 Lq Lr ["_law_drawn"] (cO K 1 bF)){MD:MW}{ME:Nt}(L9:bE K mg "_law_more" ma MD ME ["_law_number","_law_web_here"])(Mr:aW P w K mg base cD 3 MD ME ["_law_number","_law_web_here"] (cO K 2 jj)){L_:MW}{L':Nt}(Lu:bE K mg "_law_turned" iy L_ L' ["_law_number","_law_web_here"])(LO:aW P w K mg base cD 1 L_ L' ["_law_number","_law_web_here"] (cO K 2 gu)):aW P w K mg base cD 7 f fd ["_law_script"] (cO K 1 oI):=by
  have nd:=Bi.nd
  exact h.fn Bi rfl rfl (fun cdv A outer s H E hr=>(@ah _ _ _ _ _ _ _ _ (@aL _ _ _ _ _ 1 _ _ nd rfl ↥3 (@bu _ _ _ _ _ _ _ _ _ _ _ _ _ _ _ LN L0 (hr.mono ⋯) ((¬0)∘ag) ∅ ⋯ ∅ ∅) ∅ (by trivial))
      (@ah _ _ _ _ _ _ _ _ (@gZ _ _ _ _ _ _ _ _ _ _ _ OH rfl (@cW _ _ _ _ _ _ _ rfl T.b_range (ae∘ag) ∅) (@ar _ _ _ 2 _ nd rfl ↥3 (by trivial))
      (@ah _ _ _ _ _ _ _ _ (@aL _ _ _ _ _ 3 _ _ nd rfl ↥3 (@bu _ _ _ _ _ _ _ _ _ _ _ _ _ _ _ Mu MG (hr.mono ⋯) ((¬1)∘(ae∘(ae∘ag))) ∅ ⋯ ∅ ∅) ∅ (by trivial))
      (@ah _ _ _ _ _ _ _ _ (@aL _ _ _ _ _ 4 _ _ nd rfl ↥3 (@aU _ _ _ _ _ _ _ rfl (@bu _ _ _ _ _ _ _ _ _ _ _ _ _ _ _ Lh Lo (hr.mono ⋯) ((¬3)∘ag) ∅ ⋯ ∅ ∅) ae ↥4) ∅ (by trivial))
      (@ah _ _ _ _ _ _ _ _ (@gZ _ _ _ _ _ _ _ _ _ _ _ OH rfl (@cW _ _ _ _ _ _ _ rfl T.b_range (ae∘ag) ∅) (@ar _ _ _ 5 _ nd rfl ↥3 (by trivial))
      (@au _ _ _ _ _ (@fm _ _ _ _ _ _ _ _ _ _ _ (@sE _ _ _ _ (@bu _ _ _ _ _ _ _ _ _ _ _ _ _ _ _ LW L7 (hr.mono ⋯) ((@aU _ _ _ _ _ _ _ rfl (@bu _ _ _ _ _ _ _ _ _ _ _ _ _ _ _ Lh Lo (hr.mono ⋯) ((@bu _ _ _ _ _ _ _ _ _ _ _ _ _ _ _ L9 Mr (hr.mono ⋯) ((@bu _ _ _ _ _ _ _ _ _ _ _ _ _ _ _ Kz KC (hr.mono ⋯) ((¬1)∘ag) ∅ ⋯ ∅ ∅)∘((¬3)∘ag)) ∅ ⋯ ∅ ∅)∘ag) ∅ ⋯ ∅ ∅) ae ↥4)∘((¬4)∘ag)) ∅ ⋯ ∅ ∅) ↥5)
      (@au _ _ _ _ _ (@aX _ _ _ _ _ (@wV _ _ _ _ _)))
      (@cj _ _))) ↥5)
      (@ah _ _ _ _ _ _ _ _ (@fm _ _ _ _ _ _ _ _ _ _ _ (@bH _ _ _ _ _ _ _ _ _ (@yZ _ _ _ rfl hr) (@aU _ _ _ _ _ _ _ rfl (¬3) ae ↥4) (@ba _ _ _ _ _ _ ag) (bi _))
      (@ah _ _ _ _ _ _ _ _ (@aL _ _ _ _ _ 6 _ _ nd rfl ↥3 (@br _ _ _ _ _ _ _ (@bu _ _ _ _ _ _ _ _ _ _ _ _ _ _ _ Kz KC (hr.mono ⋯) ((¬1)∘ag) ∅ ⋯ ∅ ∅) (@bA _ _ _ _ _ _ _ _ _ (@b_len _ _ rfl) ∅ T.b_len ((@aU _ _ _ _ _ _ _ rfl (¬3) ae ↥4)∘ag) ⋯ ⋯ ∅ ∅)) ∅ (by trivial))
      (@ah _ _ _ _ _ _ _ _ (@aL _ _ _ _ _ 7 _ _ nd rfl ↥3 (@ba _ _ _ _ _ _ ((@aU _ _ _ _ _ _ _ rfl (¬3) ae ↥4)∘((@bh _ _ _ _ _ _ _ rfl (@dY _ _ _ _ _ _ _ _ _ _ rfl (@aU _ _ _ _ _ _ _ rfl (¬3) ae ↥4) (@eG _ _) (@du _ _ _ _ (¬6))) (@dY _ _ _ _ _ _ _ _ _ _ rfl (@aU _ _ _ _ _ _ _ rfl (¬3) ae ↥4) (@du _ _ _ _ (@bh _ _ _ _ _ _ _ rfl (¬6) ae)) (@eG _ _)))∘((@aU _ _ _ _ _ _ _ rfl (¬3) ae ↥4)∘((@aU _ _ _ _ _ _ _ rfl (¬3) ae ↥4)∘ag))))) ∅ (by trivial))
      (@au _ _ _ _ _ (@fm _ _ _ _ _ _ _ _ _ _ _ (@sE _ _ _ _ (@bu _ _ _ _ _ _ _ _ _ _ _ _ _ _ _ LW L7 (hr.mono ⋯) ((¬4)∘((@aU _ _ _ _ _ _ _ rfl (@bu _ _ _ _ _ _ _ _ _ _ _ _ _ _ _ Lh Lo (hr.mono ⋯) ((¬7)∘ag) ∅ ⋯ ∅ ∅) ae ↥4)∘ag)) ∅ ⋯ ∅ ∅) ↥5)
      (@au _ _ _ _ _ (@aX _ _ _ _ _ (@wV _ _ _ _ _)))
      (@cj _ _)))))
      (@cj _ _))
      (@au _ _ _ _ _ (@fm _ _ _ _ _ _ _ _ _ _ _ (@FJ _ _ _ _ _ (@sE _ _ _ _ (@bu _ _ _ _ _ _ _ _ _ _ _ _ _ _ _ L8 Mq (hr.mono ⋯) ((@aU _ _ _ _ _ _ _ rfl (@bu _ _ _ _ _ _ _ _ _ _ _ _ _ _ _ Lh Lo (hr.mono ⋯) ((@bu _ _ _ _ _ _ _ _ _ _ _ _ _ _ _ Lu LO (hr.mono ⋯) ((@bu _ _ _ _ _ _ _ _ _ _ _ _ _ _ _ Kz KC (hr.mono ⋯) ((¬1)∘ag) ∅ ⋯ ∅ ∅)∘((¬3)∘ag)) ∅ ⋯ ∅ ∅)∘ag) ∅ ⋯ ∅ ∅) ae ↥4)∘((¬4)∘ag)) ∅ ⋯ ∅ ∅) ↥5))
      (@au _ _ _ _ _ (@aX _ _ _ _ _ (@wV _ _ _ _ _)))
      (@cj _ _))))))) ↥5)
      (@au _ _ _ _ _ (@aX _ _ _ _ _ (@wV _ _ _ _ _))))))
local macro_rules | `(tactic| simp? [$ts,*]) => `(tactic| simp [$ts,*, iY, qp, aE, j3, bN, fB, aF, i3, g_, sM, yp, a9, aq, ny, ac, vC, cC, ai, aa, bI, aJ, b_, mX, Gr, uJ, Du, qM, yG, Bz, pZ, eI, dO, gA, dX, EV, kb, jZ, rl, gh, cg, zo, xA, aV, ao, af, aS, dZ, aN, bL, Ck, f_, nR, j8, rD, rK, rG, rF, rE, nX, nV, nY, lT, nQ, zF, mC, ve, zG, vg, rH, vf, rJ, n_, nZ, lU, oh, zN, nF, qT, qU, qV, za, lM, lL, kz, m9, Np, -Oy, -Nx, -Qp, -QJ, -NI, -Ov, -getElem?_pos, -Qh, zx, zw, zr, zq, zu, zv, zt, zy])
theorem uQ{n k:Int}(h:0 < k):0≤n % k:=Int.emod_nonneg _ (Int.ne_of_gt h)
theorem wn{n k:Int}(h:0 < k):n % k < k:=SC _ h
def nx:List Int→Int
  | []=>0
  | d::_=>d
def jY(ds:List Int):Prop:=∀d∈ds,0≤d∧d < 2147483648
theorem D1{ds:List Int}(h:jY ds):0≤nx ds∧nx ds < 2147483648:=by
  cases ds with
  | nil=>exact⟨Px 0,by show(0:Int) < 2147483648;decide⟩
  | cons d r=>exact h d ↥1
theorem Ik{ds:List Int}(h:jY ds):jY ds.tail:=fun d hd=>h d (List.mem_of_mem_tail hd)
theorem Gg(ds:List Int):bF [.l (ds.map .int)]=some (.d (.int (nx ds)),[.l (ds.tail.map .int)]):=by
  have hq:∀e:En,e[0]?=some (some (.l (ds.map .int)))→cG false e (.s 0) (.l [])=some (.d (.bool (ds.map PyData.int).isEmpty)):=fun e he=>zE he (uA ds).1
  cases ds with
  | nil=>simp? [bF,uV,hq,nx]
  | cons d r=>simp? [bF,uV,hq,nx]
theorem jW{ds:List Int}(hd:jY ds):∃(n:Int) (ds':List Int),bF [.l (ds.map .int)]=some (.d (.int n),[.l (ds'.map .int)])∧0≤n∧n < 2147483648∧jY ds':=⟨nx ds,ds.tail,Gg ds,(D1 hd).1,(D1 hd).2,Ik hd⟩
theorem xx(cell k:Int)(h0:0≤k)(h1:k≤1000):∃r,jJ [.d (.int cell),.d (.int k)]=some (.d (.int r),[.d (.int cell),.d (.int k)])∧0≤r∧r < 2147483648:=by
  have a1:kc (cell % 2147483647) 48271=true:=rZ ⋯ ⋯
  have a2:kc 7919 k=true:=l3 ⋯ ⋯
  have a3:kc (7919*k) k=true:=rZ ↥0 ↥0
  have a4:kc ((cell % 2147483647*48271+7919*k*k+104729) % 2147483647) ((cell % 2147483647*48271+7919*k*k+104729) % 2147483647)=true:=rZ ↥0 ↥0
  refine⟨_,by simp? [jJ,wa,aY,bx,a1,a2,a3,a4];rfl,?_,?_⟩
  · lia
  · lia
theorem rf{ds:List Int}(h:jY ds){r:Int}(h0:0≤r)(h1:r < 2147483648):jY (ds++[r]):=fun d hd=>by
  rcases MS hd with hd | hd
  · exact h d hd
  · simp at hd;subst hd;exact⟨h0,h1⟩
abbrev dE(ns ds:List Int)(v2 v3 v4:Option Sv):En:=[some (.d (.list (ns.map .int))),some (.l (ds.map .int)),v2,v3,v4]
inductive DI (ns:List Int) (i:Nat):En→Prop
  | mk {ds v2 v3 v4} (hd:jY ds) (hl:ds.length≤1000*i):DI ns i (dE ns ds v2 v3 v4)
inductive DJ (ns:List Int) (k cell:Int) (n i:Nat):En→Prop
  | mk {ds v4} (hd:jY ds) (hl:ds.length=n+i):DJ ns k cell n i (dE ns ds (some (.d (.int k))) (some (.d (.int cell))) v4)
inductive DW (ns:List Int) (k:Int) (v4:Option Sv) (n:Nat):En→Prop
  | mk {cell ds} (hc:0≤cell) (hd:jY ds) (hl:ds.length≤max n 900):DW ns k v4 n (dE ns ds (some (.d (.int k))) (some (.d (.int cell))) v4)
theorem Dl(ns:List Int)(hn:ns.length≤63):∃ds,kP [.d (.list (ns.map .int))]=some (.l (ds.map .int),[.d (.list (ns.map .int))])∧jY ds:=by
  have inner:∀(cell k:Int) (ds:List Int) (v4:Option Sv),0≤k→k≤63→jY ds→ds.length≤63000→∃ds' v4',(∀W,eV W jE (af 4) h8 (dE ns ds (some (.d (.int k))) (some (.d (.int cell))) v4)=some (.nx (dE ns ds' (some (.d (.int k))) (some (.d (.int cell))) v4')))∧jY ds'∧ds'.length=ds.length+12:=by
    intro cell k ds v4 k0 k1 hd hl
    obtain⟨e',h1,h2⟩:=dc (own:=[]) (g:=af 4) (f:=h8) (DJ ns k cell ds.length) (bM 0 12) 0 (dE ns ds (some (.d (.int k))) (some (.d (.int cell))) v4) (fun i x e hx hI=>by
      obtain⟨rfl,hi⟩:=iV hx
      obtain⟨hd',hl'⟩:=hI
      rename_i ds' v4'
      obtain⟨r1,c1,_,_⟩:=xx cell (3*(0+(i:Int))+1) ↥0 ↥0
      obtain⟨r2,c2,c3,c4⟩:=xx r1 (0+(i:Int)+k+2) ↥0 ↥0
      have a1:kc 3 (0+(i:Int))=true:=l3 ⋯ ⋯
      refine⟨_,dE ns (ds'++[r2]) (some (.d (.int k))) (some (.d (.int cell))) (some (.d (.int (0+(i:Int))))),rfl,?_,dm,.mk (rf hd' c3 c4) ↥7⟩
      have hlen:ds'.length < 1000000:=by lia
      simp only [Int.zero_add] at a1 c1 c2
      simp? [dE,h8,c1,c2,bx,a1,hlen]) (.mk hd rfl)
    obtain⟨hd',hl'⟩:=h2
    rename_i ds' v4'
    rw [kg] at hl'
    refine⟨ds',v4',fun W=>?_,hd',by lia⟩
    rw [fR (show jE _=some (bM 0 12,[],_) from cJ (n:=12) rfl ⋯ ⋯)]
    exact h1
  have wh:∀(cell k:Int) (ds:List Int) (v4:Option Sv),0≤cell→jY ds→ds.length≤63100→∃cell' ds',iW (2 ^ 4200) fV jw (dE ns ds (some (.d (.int k))) (some (.d (.int cell))) v4)=some (.nx (dE ns ds' (some (.d (.int k))) (some (.d (.int cell'))) v4))∧0≤cell'∧jY ds'∧ds'.length≤max ds.length 900:=by
    intro cell k ds v4 hc hd hl
    have tst:∀(cell:Int) (ds:List Int),fV (dE ns ds (some (.d (.int k))) (some (.d (.int cell))) v4)=some (decide (1000000000000000000≤cell)&&decide ((ds.length:Int) < 900),dE ns ds (some (.d (.int k))) (some (.d (.int cell))) v4):=by
      intro cell ds
      by_cases h:(1000000000000000000:Int)≤cell
      · simp? [dE,fV,kB,kY,h]
      · simp? [dE,fV,kB,kY,h]
    obtain⟨e0,e',h1,hI,h3⟩:=ki (ft:=fV) (f:=jw) (DW ns k v4 ds.length)
      (fun e=>1000000 - DU 1 e) (fun e hI=>by
        obtain⟨hc',hd',hl'⟩:=hI
        rename_i cell' ds'
        rw [tst]
        by_cases c1:(1000000000000000000:Int)≤cell'
        · by_cases c2:(ds'.length:Int) < 900
          · refine .inr ⟨_,dE ns (ds'++[cell' % 2147483629]) (some (.d (.int k))) (some (.d (.int (cell' / 2147483629)))) v4,by rw [decide_eq_true c1,decide_eq_true c2];rfl,?_,.mk ↥0 (rf hd' ↥0 ↥0) ↥7,?_⟩
            · have hlen:ds'.length < 1000000:=by lia
              have b8:Bt 8000 2147483629:=j6 ⋯ ⋯
              simp? [dE,jw,aY,ec,b8,hlen]
            · simp [DU,dE];lia
          · exact .inl ⟨_,by rw [decide_eq_true c1,decide_eq_false c2];rfl,trivial⟩
        · exact .inl ⟨_,by rw [decide_eq_false c1];rfl,trivial⟩) (2 ^ 4200) _ (.mk hc hd ↥0) (rY (m:=20) (Pb (Nat.sub_le _ _) ⋯) ⋯)
    obtain⟨hc',hd',hl'⟩:=hI
    rename_i cell' ds'
    rw [tst] at h3
    have h4:=(Prod.mk.inj (NQ h3)).2
    subst h4
    exact⟨cell',ds',h1,hc',hd',hl'⟩
  have turn:∀(i:Nat) (ds:List Int) (v3 v4:Option Sv) (hi:i < ns.length),jY ds→ds.length≤1000*i→∃ds2 v3' v4',fU (dE ns ds (some (.d (.int (i:Int)))) v3 v4)=some (.nx (dE ns ds2 (some (.d (.int (i:Int)))) v3' v4'))∧jY ds2∧ds2.length≤1000*(i+1):=by
    intro i ds v3 v4 hi hd hl
    have hcell:atI (ns.map PyData.int) (i:Int)=some (.int ns[i]):=by
      rw [iD ↥0 (by rw [Nw];lia)]
      simp [hi]
    have c0:(0:Int)≤(ns[i].natAbs:Int):=by lia
    have st:aF 3 (aJ (g1 vd) (aa (aq a8 (ac 0) (ac 2)) ai)) (dE ns ds (some (.d (.int (i:Int)))) v3 v4)=some (.nx (dE ns ds (some (.d (.int (i:Int)))) (some (.d (.int (ns[i].natAbs:Int)))) v4)):=by
      simp? [dE,hcell]
    generalize (ns[i].natAbs:Int)=cell at c0 st
    have mid:∃ds1 v4',j3 (a9 (aq wz (ac 3) (aq vh (vC (.int 10)) (vC (.int 18))))) (eV ([4]++[]) jE (af 4) h8) fB (dE ns ds (some (.d (.int (i:Int)))) (some (.d (.int cell))) v4)=some (.nx (dE ns ds1 (some (.d (.int (i:Int)))) (some (.d (.int cell))) v4'))∧jY ds1∧ds1.length≤ds.length+12:=by
      by_cases cb:cell < 1000000000000000000
      · obtain⟨ds1,v4',f1,f2,f3⟩:=inner cell (i:Int) ds v4 ↥0 ↥0 hd ↥0
        refine⟨ds1,v4',?_,f2,by lia⟩
        rw [HQ (e1:=dE ns ds (some (.d (.int (i:Int)))) (some (.d (.int cell))) v4) (by simp? [dE,kB,kY,cb])]
        exact f1 _
      · refine⟨ds,v4,?_,hd,by lia⟩
        rw [Ea (e1:=dE ns ds (some (.d (.int (i:Int)))) (some (.d (.int cell))) v4) (by simp? [dE,kB,kY,cb])]
        rfl
    obtain⟨ds1,v4',m1,m2,m3⟩:=mid
    obtain⟨cell2,ds2,w1,w2,w3,w4⟩:=wh cell (i:Int) ds1 v4' c0 m2 ↥0
    by_cases c2:(2147483629:Int)≤cell2
    · refine⟨ds2++[cell2 % 2147483629],some (.d (.int cell2)),v4',?_,rf w3 ↥0 ↥0,by simp;lia⟩
      have hlen:ds2.length < 1000000:=by lia
      unfold fU
      rw [az st,az m1,az w1]
      simp? [dE,c2,aY,hlen]
    · refine⟨ds2,some (.d (.int cell2)),v4',?_,w3,by lia⟩
      unfold fU
      rw [az st,az m1,az w1]
      simp? [dE,c2]
  obtain⟨e',h1,hI⟩:=dc (own:=[]) (g:=af 2) (f:=fU) (DI ns) (bM 0 (min (ns.length:Int) 63).toNat) 0 (dE ns [] none none none) (fun i x e hx hI=>by
    obtain⟨rfl,hi⟩:=iV hx
    obtain⟨hd,hl⟩:=hI
    rename_i ds v2 v3 v4
    rw [PK] at hl ⊢
    obtain⟨ds2,v3',v4',t1,t2,t3⟩:=turn i ds v3 v4 ↥0 hd hl
    exact⟨dE ns ds (some (.d (.int (i:Int)))) v3 v4,_,by simp [af,dE],t1,dm,.mk t2 t3⟩) (.mk (fun d hd=>by cases hd) ↥1)
  obtain⟨hd,hl⟩:=hI
  rename_i ds v2 v3 v4
  refine⟨ds,?_,hd⟩
  have hf:∀W,eV W lV (af 2) fU (dE ns [] none none none)=some (.nx (dE ns ds v2 v3 v4)):=fun W=>by
    rw [fR (show lV _=some (bM 0 (min (ns.length:Int) 63).toNat,[],dE ns [] none none none) from cJ (n:=min (ns.length:Int) 63) (by simp? [dE]) ↥0 ↥0)]
    exact h1
  unfold dE at hf
  simp only [Oy] at hf
  simp? [kP,v_,hf]
theorem Ie(a b:Int)(hb:Bt 4000 b):tX [.d (.int a),.d (.int b)]=some (.d (.int (Nv a b)),[.d (.int a),.d (.int b)]):=by
  have tst:∀x y:Int,ko [some (.d (.int x)),some (.d (.int y))]=some (!(y==0),[some (.d (.int x)),some (.d (.int y))]):=fun x y=>by simp? [ko]
  obtain⟨e0,e',h1,⟨x,y,he,hg,hy⟩,h3⟩:=ki (ft:=ko) (f:=m6) (fun e=>∃x y,e=[some (.d (.int x)),some (.d (.int y))]∧Nv x y=Nv a b∧Bt 4000 y) (qo 1) (fun e ⟨x,y,he,hg,hy⟩=>by
    subst he
    rw [tst]
    by_cases c:y=0
    · subst c;exact .inl ⟨_,rfl,trivial⟩
    · refine .inr ⟨_,[some (.d (.int y)),some (.d (.int (x.fmod y)))],by rw [beq_false_of_ne c];rfl,by simp? [m6,zH c],⟨y,x.fmod y,rfl,by rw [tP,hg],?_⟩,?_⟩
      · have:=gL x c
        exact Bt.of_le hy ↥0
      · have:=gL x c
        simpa [qo] using this) (2 ^ 4200) _ ⟨a,b,rfl,rfl,hb⟩ (rY (m:=4000) (by simpa [qo,Bt] using hb) ⋯)
  subst he
  rw [tst] at h3
  have h4:=Prod.mk.inj (NQ h3)
  have hy0:y=0:=by simpa using h4.1
  subst hy0
  have h5:=h4.2
  subst h5
  have hs:iW (2 ^ 4200) ko m6 [some (.d (.int a)),some (.d (.int b))]=some (.nx [some (.d (.int x)),some (.d (.int 0))]):=h1
  have hg':(x.natAbs:Int)=(Nv a b:Int):=by rw [←hg];simp
  simp only [tX,DH,iY,qp,aE,j3,bN,fB,aF,i3,g_,sM,yp,a9,aq,ny,ac,vC,cC,ai,aa,bI,aJ,b_,mX,Gr,uJ,Du,qM,yG,Bz,pZ,eI,dO,gA,dX,EV,kb,jZ,rl,gh,cg,zo,xA,aV,ao,af,aS,dZ,aN,bL,Ck,f_,nR,j8,rD,rK,rG,rF,rE,nX,nV,nY,lT,nQ,zF,mC,ve,zG,vg,rH,vf,rJ,n_,nZ,lU,oh,zN,nF,qT,qU,qV,za,lM,lL,kz,m9,Np, -Oy, -Nx, -Qp, -QJ, -NI, -Ov, -getElem?_pos, -Qh,zx,zw,zr,zq,zu,zv,zt,zy]
  simp? [hs,hg']
theorem Bp(t b:Int)(hb:0 < b)(h:Bt 4000 b):ji [.d (.int t),.d (.int b)]=some (.d (.tuple [.int (lowM t b).1,.int (lowM t b).2]),[.d (.int t),.d (.int b)]):=by
  have g0:=rM (t:=t) (b:=b) ↥0
  have g1:(Nv t b:Int)≠0:=by lia
  have g8:Bt 8000 (Nv t b:Int):=(zO (t:=t) ↥0 h).mono ⋯
  have e:lowM t b=(t.fdiv (Nv t b:Int),b.fdiv (Nv t b:Int)):=by unfold lowM;rw [if_neg ↥0]
  rw [e]
  simp? [ji,DK,Ie t b h,wy g1 g8]
theorem yY{i:Int}{n:Nat}(h1: -2147483648 < i)(h2:i < 2147483648)(hn:31≤n):Bt n i:=Bt.mono (m:=31) (by unfold Bt;lia) hn
def y8(t b:Int):Prop:=0≤t∧t≤b∧1≤b∧b≤100∧Nv t b=1
theorem Bo(n k:Int)(hn:0≤n):∃t b,fj [.d (.int n),.d (.int k)]=some (.d (.tuple [.int t,.int b]),[.d (.int n),.d (.int k)])∧y8 t b:=by
  have b9:Bt 8000 9:=j6 ⋯ ⋯
  have b100:Bt 8000 100:=j6 ⋯ ⋯
  have low:∀t b:Int,0 < b→0≤t→t≤b→b≤100→y8 (lowM t b).1 (lowM t b).2:=fun t b hb h0 h1 h2=>by
    obtain⟨r1,r2,r3,r4⟩:=oG hb h0 h1 h2
    exact⟨r1,r2,r3,r4,tV ↥0⟩
  by_cases c0:k=0
  · subst c0
    obtain⟨x,hx,ha⟩:=nG (xs:=[PyData.tuple [.int 1,.int 2],.tuple [.int 1,.int 3],.tuple [.int 2,.int 3],.tuple [.int 1,.int 1],.tuple [.int 0,.int 1],.tuple [.int 3,.int 4]]) (i:=n % 6) ↥0 ↥7
    obtain⟨t,b,rfl,hc⟩:∃t b,x=.tuple [.int t,.int b]∧y8 t b:=by
      simp only [NX,Oq,or_false] at hx
      rcases hx with rfl | rfl | rfl | rfl | rfl | rfl<;>exact⟨_,_,rfl,by unfold y8;decide⟩
    exact⟨t,b,by simp? [fj,i7,aY,ha],hc⟩
  · by_cases c1:k=1
    · subst c1
      have hm:(n / 9) % (2+n % 9 - 1) < 2+n % 9 - 1:=SC _ ↥0
      have hm0:0≤(n / 9) % (2+n % 9 - 1):=Int.emod_nonneg _ ↥0
      refine⟨_,_,?_,low (1+(n / 9) % (2+n % 9 - 1)) (2+n % 9) ↥0 ↥0 ↥0 ↥0⟩
      have hpos:∀e:En,bf e (.d (.int (n / 9))) (.d (.int (2+n % 9 - 1)))=_:=fun e=>aY ↥0
      have hl:=Bp (1+(n / 9) % (2+n % 9 - 1)) (2+n % 9) ↥0 (yY ↥0 ↥0 ⋯)
      simp? [fj,i7,aY,ec,b9,hpos,hl]
    · by_cases c2:k=2
      · subst c2
        have hm:(n / 100) % (1+n % 100+1) < 1+n % 100+1:=SC _ ↥0
        have hm0:0≤(n / 100) % (1+n % 100+1):=Int.emod_nonneg _ ↥0
        refine⟨_,_,?_,low ((n / 100) % (1+n % 100+1)) (1+n % 100) ↥0 ↥0 ↥0 ↥0⟩
        have hpos:∀e:En,bf e (.d (.int (n / 100))) (.d (.int (1+n % 100+1)))=_:=fun e=>aY ↥0
        have hl:=Bp ((n / 100) % (1+n % 100+1)) (1+n % 100) ↥0 (yY ↥0 ↥0 ⋯)
        simp? [fj,i7,aY,ec,b100,hpos,hl]
      · refine⟨1,1,?_,by unfold y8;decide⟩
        simp? [fj,i7,c0,c1,c2]
theorem Do(n k:Int):∃r,kR [.d (.int n),.d (.int k)]=some (.d (.int r),[.d (.int n),.d (.int k)])∧0≤r∧r≤1000:=by
  obtain⟨x,hx,ha⟩:=nG (xs:=[PyData.int (n % 7),.int (5+n % 2),.int (n % 1001),.int (1000 - n % 3)]) (i:=k % 4) ↥0 ↥7
  obtain⟨r,rfl,hr⟩:∃r,x=.int r∧0≤r∧r≤1000:=by
    simp only [NX,Oq,or_false] at hx
    rcases hx with rfl | rfl | rfl | rfl<;>exact⟨_,rfl,by lia,by lia⟩
  exact⟨r,by simp? [kR,wb,aY,ha],hr⟩
abbrev tE(ds:List Int)(things many shape odds ws:Int)(ts:List hJ)(v7 v8 v9 v10 v11 v12:Option Sv):En:=[some (.l (ds.map .int)),some (.d (.int things)),some (.d (.int many)),some (.d (.int shape)),some (.d (.int odds)),some (.d (.int ws)),some (.l (ts.map av)),v7,v8,v9,v10,v11,v12]
inductive TR (things many shape odds ws:Int) (ts:List hJ) (k:Option Sv):En→Prop
  | mk {t ds w8 w9 w10 w11 w12} (hd:jY ds) (ht:t.Ok things):TR things many shape odds ws ts k (tE ds things many shape odds ws (ts++[t]) k w8 w9 w10 w11 w12)
inductive TI (things many a b c:Int) (i:Nat):En→Prop
  | mk {ts ds w7 w8 w9 w10 w11 w12} (hd:jY ds) (hl:ts.length=i) (ht:∀t∈ts,t.Ok things):TI things many a b c i (tE ds things many a b c ts w7 w8 w9 w10 w11 w12)
theorem Ig(ds:List Int)(things many shape odds ws:Int)(ts:List hJ)(k:Int)(v8 v9 v10 v11 v12:Option Sv)(hd:jY ds)(h2:2≤things)(h12:things≤100)(s0:0≤shape)(s1:shape < 6)(k0:0≤k)(hl:ts.length≤1000):
    ∃e',h9 (tE ds things many shape odds ws ts (some (.d (.int k))) v8 v9 v10 v11 v12)=some (.nx e')∧TR things many shape odds ws ts (some (.d (.int k))) e':=by
  obtain⟨n,d1,tn, -, -,hd1⟩:=jW hd
  obtain⟨m,d2,tm,m0, -,hd2⟩:=jW hd1
  obtain⟨x,hx,ha⟩:=nG (xs:=[PyData.int (n % things),.int 0,.int (k % things),.int (n % things),.int (n % 2),.int (n % things)]) (i:=shape) s0 ↥7
  have tp:0 < things:=SD ⋯ h2
  have tq:0 < things - 1:=Int.sub_pos_of_lt (SD ⋯ h2)
  have nt:0≤n % things∧n % things < things:=⟨uQ tp,wn tp⟩
  have kt:0≤k % things∧k % things < things:=⟨uQ tp,wn tp⟩
  obtain⟨one,rfl,o0,o1⟩:∃r,x=.int r∧0≤r∧r < things:=by
    simp only [NX,Oq,or_false] at hx
    rcases hx with rfl | rfl | rfl | rfl | rfl | rfl<;>exact⟨_,rfl,by lia,by lia⟩
  have r0:0≤(n / 12) % (things - 1):=uQ tq
  have r1:(n / 12) % (things - 1) < things - 1:=wn tq
  have q0:0≤(one+1+(n / 12) % (things - 1)) % things:=uQ tp
  have q1:(one+1+(n / 12) % (things - 1)) % things < things:=wn tp
  have qn:(one+1+(n / 12) % (things - 1)) % things≠one:=fun z=>by
    by_cases c:one+1+(n / 12) % (things - 1) < things
    · rw [Int.emod_eq_of_lt ↥0 c] at z;lia
    · have e:(one+1+(n / 12) % (things - 1)) % things=(one+1+(n / 12) % (things - 1) - things) % things:=by rw [Int.sub_emod_right]
      rw [e,Int.emod_eq_of_lt ↥0 ↥0] at z;lia
  obtain⟨t,b,c1,c2,c3,c4,c5,c6⟩:=Bo m odds m0
  obtain⟨w,w1,w2,w3⟩:=Do (m / 10007) ws
  have b12:Bt 8000 12:=j6 ⋯ ⋯
  have b107:Bt 8000 10007:=j6 ⋯ ⋯
  have g1:∀(e:En) (i:Int),bf e (.d (.int i)) (.d (.int things))=some (.d (.int (i % things))):=fun e i=>aY tp
  have g2:∀(e:En) (i:Int),bf e (.d (.int i)) (.d (.int (things - 1)))=some (.d (.int (i % (things - 1)))):=fun e i=>aY tq
  have hlen:ts.length < 1000000:=by lia
  by_cases c:shape=4
  · subst c
    refine⟨tE d2 things many 4 odds ws (ts++[⟨0,1,t,b,w⟩]) (some (.d (.int k))) (some (.d (.int n))) (some (.d (.int 0))) (some (.d (.int 1))) (some (.d (.int m))) (some (.d (.tuple [.int 0,.int 1]))),?_,.mk hd2 ⟨by show(0:Int)≤0;decide,by show(0:Int) < 1;decide,by show(1:Int) < things;lia,c2,c3,c4,c5,w2,w3,c6⟩⟩
    simp? [tE,h9,tn,tm,aY,g1,g2,ec,b12,b107,ha,c1,w1,lR,av,hlen]
    decide
  · refine⟨tE d2 things many shape odds ws (ts++[⟨min one ((one+1+(n / 12) % (things - 1)) % things),max one ((one+1+(n / 12) % (things - 1)) % things),t,b,w⟩]) (some (.d (.int k))) (some (.d (.int n))) (some (.d (.int one))) (some (.d (.int ((one+1+(n / 12) % (things - 1)) % things)))) (some (.d (.int m))) (some (.d (.tuple [.int (min one ((one+1+(n / 12) % (things - 1)) % things)),.int (max one ((one+1+(n / 12) % (things - 1)) % things))]))),?_,.mk hd2 ⟨by show 0≤min _ _;lia,by show min _ _ < max _ _;lia,by show max _ _ < _;lia,c2,c3,c4,c5,w2,w3,c6⟩⟩
    simp? [tE,h9,tn,tm,aY,g1,g2,ec,b12,b107,ha,c1,w1,lR,av,hlen,c]
theorem Gi(ds:List Int)(things many:Int)(hd:jY ds)(h2:2≤things)(h12:things≤100)(m0:0≤many)(m1:many≤1000):∃(ts:List hJ) (ds':List Int),oH [.l (ds.map .int),.d (.int things),.d (.int many)]=some (.d (.tuple (ts.map av)),[.l (ds'.map .int),.d (.int things),.d (.int many)])∧jY ds'∧(ts.length:Int)=many∧∀t∈ts,t.Ok things:=by
  obtain⟨n0,d1,t0, -, -,hd1⟩:=jW hd
  obtain⟨n1,d2,t1, -, -,hd2⟩:=jW hd1
  obtain⟨n2,d3,t2, -, -,hd3⟩:=jW hd2
  obtain⟨e',h1,hI⟩:=dc (own:=[]) (g:=af 7) (f:=h9) (TI things many (n0 % 6) (n1 % 4) (n2 % 4)) (bM 0 many.toNat) 0 (tE d3 things many (n0 % 6) (n1 % 4) (n2 % 4) [] none none none none none none) (fun i x e hx hI=>by
    obtain⟨rfl,hi⟩:=iV hx
    obtain⟨hd',hl,ht⟩:=hI
    rename_i ts ds' w7 w8 w9 w10 w11 w12
    obtain⟨e9,s1,⟨s2,s3⟩⟩:=Ig ds' things many (n0 % 6) (n1 % 4) (n2 % 4) ts (0+(i:Int)) w8 w9 w10 w11 w12 hd' h2 h12 (uQ ⋯) (wn ⋯) ↥0 ↥0
    exact⟨_,_,rfl,s1,dm,.mk s2 ↥7 fun z hz=>by
      rcases MS hz with hz | hz
      · exact ht z hz
      · simp at hz;subst hz;exact s3⟩) (.mk hd3 rfl fun t ht=>by cases ht)
  obtain⟨hd',hl,ht⟩:=hI
  rename_i ts ds' w7 w8 w9 w10 w11 w12
  refine⟨ts,ds',?_,hd',by rw [hl,kg];lia,ht⟩
  have hf:∀W,eV W om (af 7) h9 (tE d3 things many (n0 % 6) (n1 % 4) (n2 % 4) [] none none none none none none)=some (.nx (tE ds' things many (n0 % 6) (n1 % 4) (n2 % 4) ts w7 w8 w9 w10 w11 w12)):=fun W=>by
    rw [fR (show om _=some (bM 0 many.toNat,[],tE d3 things many (n0 % 6) (n1 % 4) (n2 % 4) [] none none none none none none) from cJ (n:=many) (by simp? [tE]) ↥0 ↥0)]
    exact h1
  unfold tE at hf
  simp only [Oy] at hf
  simp? [oH,yU,t0,t1,t2,aY,hf]
abbrev wE(ds:List Int)(most tn things many:Int)(ts:List hJ)(way:Int)(ps:List Int)(v8 v9:Option Sv):En:=[some (.l (ds.map .int)),some (.d (.int most)),some (.d (.int tn)),some (.d (.int things)),some (.d (.int many)),some (.d (.tuple (ts.map av))),some (.d (.int way)),some (.l (ps.map .int)),v8,v9]
inductive WI (most tn things many:Int) (ts:List hJ) (way:Int) (i:Nat):En→Prop
  | mk {ps ds w8} (hd:jY ds) (hpl:ps.length=i) (hps:∀p∈ps,0≤p∧p≤20):WI most tn things many ts way i (wE ds most tn things many ts way ps w8 none)
theorem Ih(ds:List Int)(most tn:Int)(hd:jY ds)(m0:0≤most)(m1:most≤12)(k0:0≤tn)(k1:tn≤16):∃(W:bZ) (ds':List Int),qm [.l (ds.map .int),.d (.int most),.d (.int tn)]=some (.d (aB W),[.l (ds'.map .int),.d (.int most),.d (.int tn)])∧jY ds'∧W.Ok∧W.things≤most∧(W.ties.length:Int)≤tn:=by
  obtain⟨n0,d1,t0, -, -,hd1⟩:=jW hd
  obtain⟨n1,d2,t1, -, -,hd2⟩:=jW hd1
  have mp:0 < most+1:=Int.lt_add_one_of_le m0
  have kp:0 < tn+1:=Int.lt_add_one_of_le k0
  have g0:∀(e:En),bf e (.d (.int n0)) (.d (.int (most+1)))=some (.d (.int (n0 % (most+1)))):=fun e=>aY mp
  have g1':∀(e:En),bf e (.d (.int n1)) (.d (.int (tn+1)))=some (.d (.int (n1 % (tn+1)))):=fun e=>aY kp
  have th0:0≤n0 % (most+1):=uQ mp
  have th1:n0 % (most+1) < most+1:=wn mp
  have ti0:0≤n1 % (tn+1):=uQ kp
  have ti1:n1 % (tn+1) < tn+1:=wn kp
  clear mp kp
  generalize n0 % (most+1)=things at th0 th1 g0
  generalize n1 % (tn+1)=tm at ti0 ti1 g1'
  obtain⟨many,hmany,mm,m00,m01⟩:∃many:Int,many=tm*(if decide (1 < things)=true then 1 else 0)∧(1 < things∨many=0)∧0≤many∧many≤tn:=by
    by_cases c:1 < things
    · exact⟨tm,by simp [c],.inl c,ti0,by lia⟩
    · exact⟨0,by simp [c],.inr rfl,by lia,by lia⟩
  have gm:∀e:En,bJ e (.d (.int tm)) (.d (.int (if decide (1 < things)=true then 1 else 0)))=some (.d (.int many)):=fun e=>by
    rw [bx (rZ (by split<;>decide) (by split<;>decide)),hmany]
  have gi:∀e:En,g1 pS e [.d (.bool (decide (1 < things)))]=some (.d (.int (if decide (1 < things)=true then 1 else 0))):=fun e=>rfl
  generalize (if decide (1 < things)=true then 1 else 0:Int)=one at gm gi
  obtain⟨ts,d3,t3,hd3,hlen,hts⟩:=Gi d2 (max 2 things) many hd2 ↥0 ↥0 m00 ↥0
  obtain⟨n4,d4,t4, -, -,hd4⟩:=jW hd3
  obtain⟨e',h1,hI⟩:=dc (own:=[]) (g:=af 8) (f:=m7) (WI most tn things many ts (n4 % 3)) (bM 0 things.toNat) 0 (wE d4 most tn things many ts (n4 % 3) [] none none) (fun i x e hx hI=>by
    obtain⟨rfl,hi⟩:=iV hx
    obtain⟨hd5,hpl,hps⟩:=hI
    rename_i ps d5 w8
    obtain⟨p1,d6,t6, -, -,hd6⟩:=jW hd5
    obtain⟨p2,d7,t7, -, -,hd7⟩:=jW hd6
    obtain⟨z,hz,ha⟩:=nG (xs:=[PyData.int 20,.int (1+p1 % 3),.int (p2 % 21)]) (i:=n4 % 3) (uQ ⋯) (wn (k:=3) ⋯)
    obtain⟨p,rfl,hp⟩:∃r,z=.int r∧0≤r∧r≤20:=by
      simp only [NX,Oq,or_false] at hz
      rcases hz with rfl | rfl | rfl<;>exact⟨_,rfl,by lia,by lia⟩
    refine⟨wE d5 most tn things many ts (n4 % 3) ps (some (.d (.int (0+(i:Int))))) none,wE d7 most tn things many ts (n4 % 3) (ps++[p]) (some (.d (.int (0+(i:Int))))) none,rfl,?_,dm,.mk hd7 ↥7 fun q hq=>by
      rcases MS hq with hq | hq
      · exact hps q hq
      · simp at hq;subst hq;exact hp⟩
    have hlen:ps.length < 1000000:=by lia
    simp? [wE,m7,t6,t7,aY,ha,hlen]) (.mk hd4 rfl fun p hp=>by cases hp)
  obtain⟨hd5,hpl,hps⟩:=hI
  rename_i ps d5 w8
  have hf:∀W,eV W rP (af 8) m7 (wE d4 most tn things many ts (n4 % 3) [] none none)=some (.nx (wE d5 most tn things many ts (n4 % 3) ps w8 none)):=fun W=>by
    rw [fR (show rP _=some (bM 0 things.toNat,[],wE d4 most tn things many ts (n4 % 3) [] none none) from cJ (n:=things) (by simp? [wE]) ↥0 ↥0)]
    exact h1
  obtain⟨p1,d6,t6, -, -,hd6⟩:=jW hd5
  obtain⟨p2,d7,t7, -, -,hd7⟩:=jW hd6
  obtain⟨p3,d8,t8, -, -,hd8⟩:=jW hd7
  have xp:0 < max 1 many:=SD Int.zero_lt_one (Int.le_max_left _ _)
  have gx:∀(e:En),bf e (.d (.int p1)) (.d (.int (max 1 many)))=some (.d (.int (p1 % max 1 many))):=fun e=>aY xp
  have x0:0≤p1 % max 1 many:=uQ xp
  have x1:p1 % max 1 many < max 1 many:=wn xp
  obtain⟨z,hz,ha⟩:=nG (xs:=[PyData.int 40,.int (1+p1 % max 1 many),.int (p2 % 41)]) (i:=p3 % 3) (uQ ⋯) (wn (k:=3) ⋯)
  obtain⟨asks,rfl,hasks⟩:∃r,z=.int r∧0≤r∧r≤40:=by
    simp only [NX,Oq,or_false] at hz
    rcases hz with rfl | rfl | rfl<;>exact⟨_,rfl,by lia,by lia⟩
  rw [kg] at hpl
  refine⟨⟨things,ts,ps,asks⟩,d8,?_,hd8,⟨th0,by show things≤12;lia,fun t ht=>?_,by show ts.length≤16;lia,by show(ps.length:Int)=things;lia,hps,hasks.1,hasks.2⟩,by show things≤most;lia,by show(ts.length:Int)≤tn;lia⟩
  · unfold wE at hf
    simp only [Oy] at hf
    simp? [qm,DM,t0,t1,g0,g1',gm,gi,t3,t4,aY,hf,t6,t7,t8,gx,ha,aB]
  · rcases mm with c | c
    · have:=hts t ht
      rw [show max 2 things=things by lia] at this
      exact this
    · have:ts=[]:=List.length_eq_zero_iff.mp ↥0
      subst this;cases ht
theorem Dm{f:Nat→Int}{o:Nat→Nat}{n k:Nat}(hk:n≤k)(hn:n≤1000):∃res:MY,aP [.d (.list (ap f k)),.l (ap (fun j=>(o j:Int)) n)]=some (.d res,[.d (.list (ap f k)),.l (ap (fun j=>(o j:Int)) n)])∧
    ((res=.none∧∀j,j < n→0≤f j)∨∃c:Nat,res=.int c∧c < n∧f c < 0∧∀j,j < n→f j < 0→o c≤o j):=by
  have hv:=bP (cp:=[(0,"foot")]) (nT:=2) (fi:=fK) (g:=aV (ao (af 1) (ao (af 2) aS))) (ft:=dA) (fe:=dC)
    (e:=[some (.d (.list (ap f k))),some (.l (ap (fun j=>(o j:Int)) n)),none]) (e1:=[some (.d (.list (ap f k))),some (.l (ap (fun j=>(o j:Int)) n)),none]) (own:=[(1,ap (fun j=>(o j:Int)) n)]) (cs:=[some (.d (.list (ap f k)))])
    (item:=fun j=>.tuple [.int (j:Int),.int (o j:Int)]) (b:=fun j=>decide (f j < 0)) (r:=fun j=>.d (.tuple [.int (o j:Int),.int (j:Int)])) (y:=fun j=>.tuple [.int (o j:Int),.int (j:Int)]) (u:=fun j=>[some (.d (.int (j:Int))),some (.d (.int (o j:Int)))]) (Nb n)
    (by
      have e:=lQ (f:=fun j=>PyData.int (o j:Int)) (n:=n)
      show some (gK 0 (ap (fun j=>(o j:Int)) n),_,_)=_
      unfold ap
      rw [e]) ∅ ∅ ∅ (fun j hj=>by
      have jl:=NB.mp hj
      have a:=dQ (f:=fun j=>PyData.int (f j)) (n:=k) (i:=j) ↥0
      refine⟨fun t ht=>?_,rfl,?_,fun _=>⟨?_,rfl⟩⟩
      · match t,ht with
        | [t1,t2],_=>rfl
      · unfold ap
        generalize (Nb k).map (fun j=>PyData.int (f j))=FF at*
        simp? [dA,a]
      · generalize ap f k=FF at*
        simp? [dC]) ↥7
  have em:(((Nb n).filter fun j=>decide (f j < 0)).map fun j=>PyData.tuple [.int (o j:Int),.int (j:Int)])=(((Nb n).filter fun j=>decide (f j < 0)).map fun j=>[(o j:Int),(j:Int)]).map jp:=by
    rw [Os];rfl
  by_cases c:((Nb n).filter fun j=>decide (f j < 0))=[]
  · refine⟨.none,?_,.inl ⟨rfl,fun j hj=>?_⟩⟩
    · rw [c,Oy] at hv
      generalize ap f k=FF at*
      generalize ap (fun j=>(o j:Int)) n=OO at*
      simp? [aP,eE,hv,uL,eX]
    · have:=List.filter_eq_nil_iff.mp c j (NB.mpr hj)
      simpa using this
  · rw [em] at hv
    have hne:(((Nb n).filter fun j=>decide (f j < 0)).map fun j=>[(o j:Int),(j:Int)])≠[]:=by simpa using c
    have hmem:∀r∈(((Nb n).filter fun j=>decide (f j < 0)).map fun j=>[(o j:Int),(j:Int)]),∃j:Nat,j < n∧f j < 0∧r=[(o j:Int),(j:Int)]:=fun r hr=>by
      obtain⟨j,hj,rfl⟩:=MT hr
      have:=PL.mp hj
      exact⟨j,NB.mp this.1,by simpa using this.2,rfl⟩
    have hin:∀j,j < n→f j < 0→[(o j:Int),(j:Int)]∈(((Nb n).filter fun j=>decide (f j < 0)).map fun j=>[(o j:Int),(j:Int)]):=fun j h1 h2=>Pi.mpr ⟨j,PL.mpr ⟨NB.mpr h1,by simpa using h2⟩,rfl⟩
    have hn0:∀r∈(((Nb n).filter fun j=>decide (f j < 0)).map fun j=>[(o j:Int),(j:Int)]),r≠[]:=fun r hr=>by
      obtain⟨j,_,_,rfl⟩:=hmem r hr;simp
    generalize (((Nb n).filter fun j=>decide (f j < 0)).map fun j=>[(o j:Int),(j:Int)])=rs at*
    obtain⟨r,r1,r2,r3⟩:=B3 (e:=[some (.d (.list (ap f k))),some (.l (ap (fun j=>(o j:Int)) n)),some (.l (rs.map jp))]) (i:=2) (rs:=rs) rfl hn0 hne
    obtain⟨j,j1,j2,rfl⟩:=hmem r r1
    have he:(rs.map jp).isEmpty=false:=by
      cases rs with
      | nil=>exact absurd rfl hne
      | cons _ _=>rfl
    refine⟨.int j,?_,.inr ⟨j,rfl,j1,j2,fun i i1 i2=>?_⟩⟩
    · rw [show jp [(o j:Int),(j:Int)]=.tuple [.int (o j:Int),.int (j:Int)] from rfl] at r2
      generalize ap f k=FF at*
      generalize ap (fun j=>(o j:Int)) n=OO at*
      generalize rs.map jp=RR at*
      simp? [aP,eE,hv,uL,eX,he,r2]
    · have:=r3 _ (hin i i1 i2)
      rw [dN] at this
      simp only [decide_eq_false_iff_not,Sx] at this
      lia
theorem Br{n m c i r:Nat}{s:Tb}(S:DG n m s)(hi:i≤m)(hr:r≤m)(hc:c≤n):de [.d (fJ n s c i),.d (fJ n s c r)]=some (.d (.bool (vO n s c i r)),[.d (fJ n s c i),.d (fJ n s c r)]):=by
  have g1:∀e:En,bJ e (.d (.int (s.T i n))) (.d (.int (s.T r c)))=some (.d (.int (s.T i n*s.T r c))):=fun e=>bx (gv ((S.t i hi n (Ny n)).mono ⋯) ((S.t r hr c hc).mono ⋯))
  have g2:∀e:En,bJ e (.d (.int (s.T r n))) (.d (.int (s.T i c)))=some (.d (.int (s.T r n*s.T i c))):=fun e=>bx (gv ((S.t r hr n (Ny n)).mono ⋯) ((S.t i hi c hc).mono ⋯))
  unfold vO fJ
  generalize s.T i n*s.T r c=A at*
  generalize s.T r n*s.T i c=B at*
  by_cases h1:A < B
  · simp? [de,gF,g1,g2,h1]
  · by_cases h2:A=B
    · subst h2
      simp? [de,gF,g1,g2]
    · simp? [de,gF,g1,g2,h1,h2]
def gf(n:Nat)(s:Tb)(c:Nat):Option Nat→MY
  | none=>.none
  | some r=>fJ n s c r
def eR:Option Nat→MY
  | none=>.none
  | some r=>.int (r:Int)
inductive Iy (n m:Nat) (s:Tb) (c i:Nat):En→Prop
  | mk {o:Option Nat} {v5 v6 v7:Option Sv} (h:sY n m s c i o):Iy n m s c i [some (.d (bw n m s)),some (.l (aQ m s)),some (.d (.int (c:Int))),some (.d (gf n s c o)),some (.d (eR o)),v5,v6,v7]
theorem vB{n m c i:Nat}{s:Tb}(S:DG n m s)(hi:i < m)(hc:c < n){e:En}(h:Iy n m s c i e):∃e1 e2,aV (ao (af 5) (ao (af 6) aS)) (.tuple [.int (i:Int),.int (s.win i:Int)]) e=some e1∧bj e1=some (.nx e2)∧keeps [(1,aQ m s)] e2∧Iy n m s c (i+1) e2:=by
  obtain⟨hb⟩:=h
  rename_i o v5 v6 v7
  have a1:=dQ (f:=fun i=>PyData.list (ap (s.T i) (n+1))) (n:=m+1) (i:=i) ↥0
  have a2:=hZ (f:=fun j=>PyData.int (s.T i j)) (n:=n)
  have a3:=dQ (f:=fun j=>PyData.int (s.T i j)) (n:=n+1) (i:=c) ↥0
  refine⟨[some (.d (bw n m s)),some (.l (aQ m s)),some (.d (.int (c:Int))),some (.d (gf n s c o)),some (.d (eR o)),some (.d (.int (i:Int))),some (.d (.int (s.win i:Int))),v7],?_⟩
  have hs:aF 7 (bI (aa (aq a8 (aq a8 (ac 0) (ac 5)) (ny ig (vC (.int 1)))) (aa (aq a8 (aq a8 (ac 0) (ac 5)) (ac 2)) (aa (ac 6) ai)))) [some (.d (bw n m s)),some (.l (aQ m s)),some (.d (.int (c:Int))),some (.d (gf n s c o)),some (.d (eR o)),some (.d (.int (i:Int))),some (.d (.int (s.win i:Int))),v7]=some (.nx [some (.d (bw n m s)),some (.l (aQ m s)),some (.d (.int (c:Int))),some (.d (gf n s c o)),some (.d (eR o)),some (.d (.int (i:Int))),some (.d (.int (s.win i:Int))),some (.d (fJ n s c i))]):=by
    unfold bw fJ
    unfold ap at a1 ⊢
    generalize (Nb (m+1)).map (fun i=>PyData.list ((Nb (n+1)).map fun j=>PyData.int (s.T i j)))=TT at*
    generalize (Nb (n+1)).map (fun j=>PyData.int (s.T i j))=RR at*
    generalize aQ m s=WW at*
    generalize gf n s c o=BB at*
    generalize eR o=PP at*
    simp? [a1,a2,a3]
  have iN:∀e:En,G0 e (.d .none) (.d .none)=some (.d (.bool true)):=fun e=>rfl
  have iT:∀(e:En) (l:List MY),G0 e (.d (.tuple l)) (.d .none)=some (.d (.bool false)):=fun e l=>rfl
  by_cases hp:0 < s.T i c
  · cases o with
    | none=>
      refine⟨[some (.d (bw n m s)),some (.l (aQ m s)),some (.d (.int (c:Int))),some (.d (gf n s c (some i))),some (.d (eR (some i))),some (.d (.int (i:Int))),some (.d (.int (s.win i:Int))),some (.d (fJ n s c i))],rfl,?_,fun p hp=>by simp at hp;subst hp;rfl,.mk (mL.first (m:=m) hb hp)⟩
      unfold bj
      rw [az hs]
      unfold gf eR fJ
      generalize bw n m s=TT at*
      generalize aQ m s=WW at*
      simp? [iN,hp]
    | some r=>
      have hr:r < i:=hb.1
      have ts:=Br (n:=n) (m:=m) (c:=c) (i:=i) (r:=r) S ↥0 ↥0 ↥0
      cases hq:vO n s c i r with
      | true=>
        rw [hq] at ts
        refine⟨[some (.d (bw n m s)),some (.l (aQ m s)),some (.d (.int (c:Int))),some (.d (gf n s c (some i))),some (.d (eR (some i))),some (.d (.int (i:Int))),some (.d (.int (s.win i:Int))),some (.d (fJ n s c i))],rfl,?_,fun p hp=>by simp at hp;subst hp;rfl,.mk (mL.take (m:=m) hb hp hq)⟩
        unfold bj
        rw [az hs]
        unfold gf eR
        unfold fJ at ts ⊢
        generalize bw n m s=TT at*
        generalize aQ m s=WW at*
        simp? [iT,hp,ts]
      | false=>
        rw [hq] at ts
        refine⟨[some (.d (bw n m s)),some (.l (aQ m s)),some (.d (.int (c:Int))),some (.d (gf n s c (some r))),some (.d (eR (some r))),some (.d (.int (i:Int))),some (.d (.int (s.win i:Int))),some (.d (fJ n s c i))],rfl,?_,fun p hp=>by simp at hp;subst hp;rfl,.mk (mL.keep (m:=m) hb hp hq)⟩
        unfold bj
        rw [az hs]
        unfold gf eR
        unfold fJ at ts ⊢
        generalize bw n m s=TT at*
        generalize aQ m s=WW at*
        simp? [iT,hp,ts]
  · refine⟨[some (.d (bw n m s)),some (.l (aQ m s)),some (.d (.int (c:Int))),some (.d (gf n s c o)),some (.d (eR o)),some (.d (.int (i:Int))),some (.d (.int (s.win i:Int))),some (.d (fJ n s c i))],rfl,?_,fun p hp=>by simp at hp;subst hp;rfl,.mk (hb.skip ↥0)⟩
    unfold bj
    rw [az hs]
    unfold fJ
    generalize bw n m s=TT at*
    generalize aQ m s=WW at*
    generalize gf n s c o=BB at*
    generalize eR o=PP at*
    simp? [hp]
theorem Dn{n m c:Nat}{s:Tb}(S:DG n m s)(hc:c < n)(hx:∃i,i < m∧0 < s.T i c):∃r,IP n m s c r∧cy [.d (bw n m s),.l (aQ m s),.d (.int (c:Int))]=some (.d (.int (r:Int)),[.d (bw n m s),.l (aQ m s),.d (.int (c:Int))]):=by
  have hit:eK [some (.d (bw n m s)),some (.l (aQ m s)),some (.d (.int (c:Int))),some (.d .none),some (.d .none),none,none,none]=some ((Nb m).map (fun(i:Nat)=>PyData.tuple [.int (i:Int),.int (s.win i:Int)]),[(1,aQ m s)],[some (.d (bw n m s)),some (.l (aQ m s)),some (.d (.int (c:Int))),some (.d .none),some (.d .none),none,none,none]):=by
    have e:=lQ (f:=fun j=>PyData.int (s.win j:Int)) (n:=m)
    show some (gK 0 (aQ m s),_,_)=_
    unfold aQ ap
    rw [e]
  obtain⟨e',h1,hl⟩:=dc (own:=[(1,aQ m s)]) (g:=aV (ao (af 5) (ao (af 6) aS))) (f:=bj) (fun i e=>Iy n m s c i e) ((Nb m).map fun(i:Nat)=>PyData.tuple [.int (i:Int),.int (s.win i:Int)]) 0 [some (.d (bw n m s)),some (.l (aQ m s)),some (.d (.int (c:Int))),some (.d .none),some (.d .none),none,none,none] (fun i x e hx h=>by
    rw [PK] at*
    rw [NH] at hx
    obtain⟨j,hj,rfl⟩:=MQ hx
    have hij:=MR hj
    obtain⟨z1,z2⟩:=hij
    rw [SE] at z2
    subst z2
    exact vB S (by simpa using z1) hc h) (.mk (o:=none) fun k hk=>by lia)
  rw [PK,Nw,PF] at hl
  obtain⟨hb⟩:=hl
  rename_i o v5 v6 v7
  cases o with
  | none=>
    obtain⟨i,i1,i2⟩:=hx
    have:=hb i i1
    lia
  | some r=>
    refine⟨r,⟨hb.1,hb.2.1,fun i i1 i2=>(hb.2.2 i i1 i2).1,fun i i1 i2=>(hb.2.2 i i1 i2).2⟩,?_⟩
    have hs:∀Wl:List Nat,Wl.contains 1=false→eV Wl eK (aV (ao (af 5) (ao (af 6) aS))) bj [some (.d (bw n m s)),some (.l (aQ m s)),some (.d (.int (c:Int))),some (.d .none),some (.d .none),none,none,none]=some (.nx [some (.d (bw n m s)),some (.l (aQ m s)),some (.d (.int (c:Int))),some (.d (gf n s c (some r))),some (.d (.int (r:Int))),v5,v6,v7]):=fun Wl hW=>by
      unfold eV
      rw [hit,NI,if_pos (by simp;simpa using hW),h1]
      rfl
    have hs':=hs _ (by decide:((([5]++([6]++[]))++([7]++([3,4]++[]))):List Nat).contains 1=false)
    generalize bw n m s=TT at*
    generalize aQ m s=WW at*
    generalize gf n s c (some r)=BB at*
    simp? [cy,i_]
    simp only [QJ,Qp] at hs'
    simp? [hs']
def ce(n:Nat)(s:Tb)(r c k:Nat):List MY:=ap (fun j=>if j=c then - s.T k c else(s.T k j*s.T r c - s.T k c*s.T r j) / s.d) (n+1)
inductive Iw (n m:Nat) (s:Tb) (r c i:Nat):En→Prop
  | mk {v6 v7:Option Sv}:Iw n m s r c i [some (.d (bw n m s)),some (.d (.int s.d)),some (.d (.int (r:Int))),some (.d (.int (c:Int))),some (.d (.int (s.T r c))),some (.n ((Nb i).map (ce n s r c))),v6,v7]
theorem xP{n m r c i:Nat}{s:Tb}(S:DG n m s)(hd:0 < s.d)(hm:m≤1000)(hn:n≤1000)(hi:i≤m)(hr:r≤m)(hc:c < n){e:En}(h:Iw n m s r c i e):∃e1 e2,af 6 (.list (ap (s.T i) (n+1))) e=some e1∧dJ e1=some (.nx e2)∧keeps [] e2∧Iw n m s r c (i+1) e2:=by
  obtain⟨⟩:=h
  rename_i v6 v7
  have a1:=dQ (f:=fun i=>PyData.list (ap (s.T i) (n+1))) (n:=m+1) (i:=r) ↥0
  have a3:=dQ (f:=fun j=>PyData.int (s.T i j)) (n:=n+1) (i:=c) ↥0
  let E (w:Option Sv) (t:List (List MY)):En:=[some (.d (bw n m s)),some (.d (.int s.d)),some (.d (.int (r:Int))),some (.d (.int (c:Int))),some (.d (.int (s.T r c))),some (.n t),some (.d (.list (ap (s.T i) (n+1)))),w]
  have hit:dM (E v7 ((Nb i).map (ce n s r c)))=some ((Nb (n+1)).map (fun(j:Nat)=>PyData.tuple [.int (s.T i j),.int (s.T r j)]),[],E v7 ((Nb i).map (ce n s r c))):=by
    have z:=jv (f:=fun j=>PyData.int (s.T i j)) (h:=fun j=>PyData.int (s.T r j)) (Nb (n+1))
    have fa:(aa (ac 6) (aa (aq a8 (ac 0) (ac 2)) ai)) (E v7 ((Nb i).map (ce n s r c)))=some ([.d (.list (ap (s.T i) (n+1))),.d (.list (ap (s.T r) (n+1)))],E v7 ((Nb i).map (ce n s r c))):=by
      show(aa (ac 6) (aa (aq a8 (ac 0) (ac 2)) ai)) [some (.d (bw n m s)),some (.d (.int s.d)),some (.d (.int (r:Int))),some (.d (.int (c:Int))),some (.d (.int (s.T r c))),some (.n ((Nb i).map (ce n s r c))),some (.d (.list (ap (s.T i) (n+1)))),v7]=some ([.d (.list (ap (s.T i) (n+1))),.d (.list (ap (s.T r) (n+1)))],[some (.d (bw n m s)),some (.d (.int s.d)),some (.d (.int (r:Int))),some (.d (.int (c:Int))),some (.d (.int (s.T r c))),some (.n ((Nb i).map (ce n s r c))),some (.d (.list (ap (s.T i) (n+1)))),v7])
      unfold bw
      generalize (Nb (m+1)).map (fun i=>PyData.list (ap (s.T i) (n+1)))=TT at*
      generalize ap (s.T i) (n+1)=R1 at*
      generalize ap (s.T r) (n+1)=R2 at*
      generalize (Nb i).map (ce n s r c)=NN at*
      simp? [a1]
    unfold dM mF
    rw [fa]
    show some (fF (ap (s.T i) (n+1)) (ap (s.T r) (n+1)),_,_)=_
    unfold ap
    rw [z]
  have hv:=bP (cp:=[(1,"bottom"),(4,"pivot"),(6,"row"),(3,"column")]) (nT:=2) (fi:=dM) (g:=aV (ao (af 4) (ao (af 5) aS))) (ft:=aZ) (fe:=eY)
    (e:=E v7 ((Nb i).map (ce n s r c))) (own:=[]) (cs:=[some (.d (.int s.d)),some (.d (.int (s.T r c))),some (.d (.list (ap (s.T i) (n+1)))),some (.d (.int (c:Int)))])
    (item:=fun(j:Nat)=>.tuple [.int (s.T i j),.int (s.T r j)]) (b:=fun _=>true) (r:=fun j=>.d (.int ((s.T i j*s.T r c - s.T i c*s.T r j) / s.d))) (y:=fun j=>.int ((s.T i j*s.T r c - s.T i c*s.T r j) / s.d)) (u:=fun j=>[some (.d (.int (s.T i j))),some (.d (.int (s.T r j)))]) (Nb (n+1)) hit ∅ ∅ ∅ (fun j hj=>by
      have jl:=NB.mp hj
      refine⟨fun t ht=>?_,rfl,rfl,fun _=>⟨?_,rfl⟩⟩
      · match t,ht with
        | [t1,t2],_=>rfl
      · have g1:∀e:En,bJ e (.d (.int (s.T i j))) (.d (.int (s.T r c)))=some (.d (.int (s.T i j*s.T r c))):=fun e=>bx (gv ((S.t i hi j ↥0).mono ⋯) ((S.t r hr c ↥0).mono ⋯))
        have g2:∀e:En,bJ e (.d (.int (s.T i c))) (.d (.int (s.T r j)))=some (.d (.int (s.T i c*s.T r j))):=fun e=>bx (gv ((S.t i hi c ↥0).mono ⋯) ((S.t r hr j ↥0).mono ⋯))
        have g3:∀(e:En) (x:Int),c_ e (.d (.int x)) (.d (.int s.d))=some (.d (.int (x / s.d))):=fun e x=>ec hd (S.d.mono ⋯)
        unfold ap
        generalize (Nb (n+1)).map (fun j=>PyData.int (s.T i j))=RR at*
        simp? [eY,a3,g1,g2,g3]) ↥7
  rw [OC.mpr ↥4] at hv
  refine⟨E v7 ((Nb i).map (ce n s r c)),[some (.d (bw n m s)),some (.d (.int s.d)),some (.d (.int (r:Int))),some (.d (.int (c:Int))),some (.d (.int (s.T r c))),some (.n ((Nb (i+1)).map (ce n s r c))),some (.d (.list (ap (s.T i) (n+1)))),none],rfl,?_,dm,.mk⟩
  have h1:aF 7 (bb [(1,"bottom"),(4,"pivot"),(6,"row"),(3,"column")] 2 dM (aV (ao (af 4) (ao (af 5) aS))) aZ eY) (E v7 ((Nb i).map (ce n s r c)))=some (.nx (E (some (.l (ap (fun j=>(s.T i j*s.T r c - s.T i c*s.T r j) / s.d) (n+1)))) ((Nb i).map (ce n s r c)))):=by
    unfold aF
    rw [hv]
    rfl
  have h2:lg (ny ig (aq a8 (ac 6) (ac 3))) (ac 7) (ac 3) (E (some (.l (ap (fun j=>(s.T i j*s.T r c - s.T i c*s.T r j) / s.d) (n+1)))) ((Nb i).map (ce n s r c)))=some (.nx (E (some (.l (ce n s r c i))) ((Nb i).map (ce n s r c)))):=by
    have e1:=lc (f:=fun j=>(s.T i j*s.T r c - s.T i c*s.T r j) / s.d) (n:=n+1) (c:=c) (v:= - s.T i c)
    have e2:ce n s r c i=ap (fun j=>if j=c then - s.T i c else(s.T i j*s.T r c - s.T i c*s.T r j) / s.d) (n+1):=rfl
    have hix:m_ (ap (fun j=>(s.T i j*s.T r c - s.T i c*s.T r j) / s.d) (n+1)).length (c:Int)=some c:=by
      unfold m_ ap
      rw [Nw,PF,if_pos ↥0,if_pos ↥0,OF]
    rw [e2,←e1]
    show lg (ny ig (aq a8 (ac 6) (ac 3))) (ac 7) (ac 3) [some (.d (bw n m s)),some (.d (.int s.d)),some (.d (.int (r:Int))),some (.d (.int (c:Int))),some (.d (.int (s.T r c))),some (.n ((Nb i).map (ce n s r c))),some (.d (.list (ap (s.T i) (n+1)))),some (.l (ap (fun j=>(s.T i j*s.T r c - s.T i c*s.T r j) / s.d) (n+1)))]=some (.nx [some (.d (bw n m s)),some (.d (.int s.d)),some (.d (.int (r:Int))),some (.d (.int (c:Int))),some (.d (.int (s.T r c))),some (.n ((Nb i).map (ce n s r c))),some (.d (.list (ap (s.T i) (n+1)))),some (.l ((ap (fun j=>(s.T i j*s.T r c - s.T i c*s.T r j) / s.d) (n+1)).set c (.int (- s.T i c))))])
    have a3':atI (ap (s.T i) (n+1)) (c:Int)=some (.int (s.T i c)):=a3
    generalize ap (fun j=>(s.T i j*s.T r c - s.T i c*s.T r j) / s.d) (n+1)=XX at*
    generalize ap (s.T i) (n+1)=RR at*
    generalize bw n m s=TT at*
    generalize (Nb i).map (ce n s r c)=NN at*
    simp? [lg,mi,hix,a3']
  have h3:sL 5 7 (E (some (.l (ce n s r c i))) ((Nb i).map (ce n s r c)))=some (.nx [some (.d (bw n m s)),some (.d (.int s.d)),some (.d (.int (r:Int))),some (.d (.int (c:Int))),some (.d (.int (s.T r c))),some (.n ((Nb (i+1)).map (ce n s r c))),some (.d (.list (ap (s.T i) (n+1)))),none]):=by
    have l:((Nb i).map (ce n s r c)).length < 1000000:=by simp;lia
    show(if ((Nb i).map (ce n s r c)).length < 1000000 then some (Fl.nx [some (.d (bw n m s)),some (.d (.int s.d)),some (.d (.int (r:Int))),some (.d (.int (c:Int))),some (.d (.int (s.T r c))),some (.n ((Nb i).map (ce n s r c)++[ce n s r c i])),some (.d (.list (ap (s.T i) (n+1)))),none]) else none)=_
    rw [if_pos l,PJ,Oi]
    rfl
  unfold dJ
  rw [az h1,az h2,h3]
theorem uD{n m r c:Nat}{s:Tb}(S:DG n m s)(hd:0 < s.d)(hm:m≤1000)(hn:n≤1000)(hr:r≤m)(hc:c < n):ed [.d (bw n m s),.d (.int s.d),.d (.int (r:Int)),.d (.int (c:Int))]=some (.d (bw n m (piv s r c)),[.d (bw n m s),.d (.int s.d),.d (.int (r:Int)),.d (.int (c:Int))]):=by
  have a1:=dQ (f:=fun i=>PyData.list (ap (s.T i) (n+1))) (n:=m+1) (i:=r) ↥0
  have a3:=dQ (f:=fun j=>PyData.int (s.T r j)) (n:=n+1) (i:=c) ↥0
  let E (t:List (List MY)) (v6 v7:Option Sv):En:=[some (.d (bw n m s)),some (.d (.int s.d)),some (.d (.int (r:Int))),some (.d (.int (c:Int))),some (.d (.int (s.T r c))),some (.n t),v6,v7]
  obtain⟨e',h1,hl⟩:=dc (own:=[]) (g:=af 6) (f:=dJ) (fun i e=>Iw n m s r c i e) ((Nb (m+1)).map fun i=>PyData.list (ap (s.T i) (n+1))) 0 (E [] none none) (fun i x e hx h=>by
    rw [PK] at*
    rw [NH] at hx
    obtain⟨j,hj,rfl⟩:=MQ hx
    obtain⟨z1,z2⟩:=MR hj
    rw [SE] at z2
    subst z2
    exact xP S hd hm hn (by simp at z1;lia) hr hc h) .mk
  rw [PK,Nw,PF] at hl
  obtain⟨⟩:=hl
  rename_i v6 v7
  have hs:∀Wl:List Nat,eV Wl gY (af 6) dJ (E [] none none)=some (.nx (E ((Nb (m+1)).map (ce n s r c)) v6 v7)):=fun Wl=>by
    rw [fR (show gY (E [] none none)=some (((Nb (m+1)).map fun i=>PyData.list (ap (s.T i) (n+1))),[],E [] none none) from wB rfl),h1]
  have hix:∀(L:List (List MY)),L.length=m+1→m_ L.length (r:Int)=some r:=fun L hL=>by
    unfold m_
    rw [hL,if_pos ↥0,if_pos ↥0,OF]
  have h0:aF 4 (aq a8 (aq a8 (ac 0) (ac 2)) (ac 3)) [some (.d (bw n m s)),some (.d (.int s.d)),some (.d (.int (r:Int))),some (.d (.int (c:Int))),none,none,none,none]=some (.nx [some (.d (bw n m s)),some (.d (.int s.d)),some (.d (.int (r:Int))),some (.d (.int (c:Int))),some (.d (.int (s.T r c))),none,none,none]):=by
    unfold bw
    unfold ap at a1 ⊢
    generalize (Nb (m+1)).map (fun i=>PyData.list ((Nb (n+1)).map fun j=>PyData.int (s.T i j)))=TT at*
    generalize (Nb (n+1)).map (fun j=>PyData.int (s.T r j))=RR at*
    simp? [a1,a3]
  have h2:um 5 (aJ (g1 je) (aa (aq a8 (ac 0) (ac 2)) ai)) (ac 2) (E ((Nb (m+1)).map (ce n s r c)) v6 v7)=some (.nx (E ((Nb (m+1)).map fun k=>if k=r then ap (s.T r) (n+1) else ce n s r c k) v6 v7)):=by
    have fv:aJ (g1 je) (aa (aq a8 (ac 0) (ac 2)) ai) (E ((Nb (m+1)).map (ce n s r c)) v6 v7)=some (.l (ap (s.T r) (n+1)),E ((Nb (m+1)).map (ce n s r c)) v6 v7):=by
      have gl:∀(e:En) (l:List MY),g1 je e [.d (.list l)]=some (.l l):=fun e l=>rfl
      show aJ (g1 je) (aa (aq a8 (ac 0) (ac 2)) ai) [some (.d (bw n m s)),some (.d (.int s.d)),some (.d (.int (r:Int))),some (.d (.int (c:Int))),some (.d (.int (s.T r c))),some (.n ((Nb (m+1)).map (ce n s r c))),v6,v7]=some (.l (ap (s.T r) (n+1)),[some (.d (bw n m s)),some (.d (.int s.d)),some (.d (.int (r:Int))),some (.d (.int (c:Int))),some (.d (.int (s.T r c))),some (.n ((Nb (m+1)).map (ce n s r c))),v6,v7])
      unfold bw
      generalize (Nb (m+1)).map (fun i=>PyData.list (ap (s.T i) (n+1)))=TT at*
      generalize ap (s.T r) (n+1)=RR at*
      generalize (Nb (m+1)).map (ce n s r c)=NN at*
      simp? [a1,gl]
    unfold um
    rw [fv]
    show Option.map _ (m_ ((Nb (m+1)).map (ce n s r c)).length (r:Int))=_
    rw [hix _ ↥1,Ov]
    show some (Fl.nx (E (((Nb (m+1)).map (ce n s r c)).set r (ap (s.T r) (n+1))) v6 v7))=_
    rw [uk]
  have h3:w6 5 (ac 1) (ac 2) (t9 3) (E ((Nb (m+1)).map fun k=>if k=r then ap (s.T r) (n+1) else ce n s r c k) v6 v7)=some (.nx (E ((Nb (m+1)).map fun i=>ap ((piv s r c).T i) (n+1)) v6 v7)):=by
    have hg:((Nb (m+1)).map fun k=>if k=r then ap (s.T r) (n+1) else ce n s r c k)[r]?=some (ap (s.T r) (n+1)):=by
      rw [NH,QO ↥0];simp
    have hix2:m_ (ap (s.T r) (n+1)).length (c:Int)=some c:=by
      unfold m_ ap
      rw [Nw,PF,if_pos ↥0,if_pos ↥0,OF]
    show((m_ ((Nb (m+1)).map fun k=>if k=r then ap (s.T r) (n+1) else ce n s r c k).length (r:Int)).bind fun kn=>(((Nb (m+1)).map fun k=>if k=r then ap (s.T r) (n+1) else ce n s r c k)[kn]?).bind fun ys=>Option.map (fun jn=>Fl.nx (E (((Nb (m+1)).map fun k=>if k=r then ap (s.T r) (n+1) else ce n s r c k).set kn (ys.set jn (.int s.d))) v6 v7)) (m_ ys.length (c:Int)))=_
    rw [hix _ ↥1,NI,hg,NI,hix2,Ov,uk,lc]
    congr 4
    funext k
    by_cases e:k=r
    · subst e
      rw [if_pos rfl]
      unfold ap
      exact Ou fun j _=>by simp [piv]
    · rw [if_neg e,if_neg e]
      unfold ce ap
      exact Ou fun j _=>by simp [piv,e]
  have h4:wZ 5 (E ((Nb (m+1)).map fun i=>ap ((piv s r c).T i) (n+1)) v6 v7)=some (.rt (.d (bw n m (piv s r c))) [some (.d (bw n m s)),some (.d (.int s.d)),some (.d (.int (r:Int))),some (.d (.int (c:Int))),some (.d (.int (s.T r c))),some (.d (bw n m (piv s r c))),v6,v7]):=by
    have e:bw n m (piv s r c)=.list (((Nb (m+1)).map fun i=>ap ((piv s r c).T i) (n+1)).map .list):=by
      unfold bw;rw [Os];rfl
    rw [e]
    rfl
  have hb:i8 [some (.d (bw n m s)),some (.d (.int s.d)),some (.d (.int (r:Int))),some (.d (.int (c:Int))),none,none,none,none]=some (.rt (.d (bw n m (piv s r c))) [some (.d (bw n m s)),some (.d (.int s.d)),some (.d (.int (r:Int))),some (.d (.int (c:Int))),some (.d (.int (s.T r c))),some (.d (bw n m (piv s r c))),v6,v7]):=by
    unfold i8
    rw [az h0,az (show Bc 5 _=some (.nx (E [] none none)) from rfl),az (hs _),az h2,az h3,h4]
  generalize bw n m (piv s r c)=T2 at*
  generalize bw n m s=TT at*
  simp? [ed,hb]
def DE(n m:Nat)(s:Tb):MY→Prop
  | .none=>∀j,j < n→0≤s.T m j
  | .int k=>∃c:Nat,k=c∧Iu n m s c
  | _=>False
theorem Eb{n m:Nat}{s:Tb}(hn:n≤1000):∃d:MY,DE n m s d∧aP [.d (.list (ap (s.T m) (n+1))),.l (bg n s)]=some (.d d,[.d (.list (ap (s.T m) (n+1))),.l (bg n s)]):=by
  obtain⟨res,h1,h2⟩:=Dm (f:=s.T m) (o:=s.out) (n:=n) (k:=n+1) ↥0 hn
  refine⟨res,?_,h1⟩
  rcases h2 with ⟨rfl,h⟩ | ⟨c,rfl,a,b,d⟩
  · exact h
  · exact⟨c,rfl,a,b,d⟩
inductive Gy (n m:Nat) (C:Nat→Nat→Int) (G R Lm:Option Sv) (k:Nat):En→Prop
  | mk {st:Nat→Tb} {cs rs:Nat→Nat} {d:MY} {v9 v10:Option Sv} (W:nB n m C st cs rs k) (hd:DE n m (st k) d):Gy n m C G R Lm k [G,R,Lm,some (.d (.int (n:Int))),some (.d (bw n m (st k))),some (.l (bg n (st k))),some (.l (aQ m (st k))),some (.d (.int (st k).d)),some (.d d),v9,v10,none,none]
theorem BQ{n m k c:Nat}{C:Nat→Nat→Int}{G R Lm v9 v10:Option Sv}{st:Nat→Tb}{cs rs:Nat→Nat}(W:nB n m C st cs rs k)(E:Iu n m (st k) c)(S:DG n m (st k))(hm:m≤1000)(hn:n≤1000)(hx:∃i,i < m∧0 < (st k).T i c):
    ∃e2,ck [G,R,Lm,some (.d (.int (n:Int))),some (.d (bw n m (st k))),some (.l (bg n (st k))),some (.l (aQ m (st k))),some (.d (.int (st k).d)),some (.d (.int (c:Int))),v9,v10,none,none]=some (.nx e2)∧Gy n m C G R Lm (k+1) e2:=by
  obtain⟨r,L,tl⟩:=Dn S E.hc hx
  have hr:=L.hr
  have hc:=E.hc
  obtain⟨st',cs',rs',W',w0,w1⟩:=W.more E L
  have te:=uD (n:=n) (m:=m) (r:=r) (c:=c) S (W.iv k (Ny k)).dp hm hn ↥0 hc
  obtain⟨d',hd',tc⟩:=Eb (n:=n) (m:=m) (s:=piv (st k) r c) hn
  generalize st k=s at*
  have a1:=dQ (f:=fun i=>PyData.list (ap (s.T i) (n+1))) (n:=m+1) (i:=r) ↥0
  have a2:atI (ap (s.T r) (n+1)) (c:Int)=some (.int (s.T r c)):=dQ (f:=fun j=>PyData.int (s.T r j)) (n:=n+1) (i:=c) ↥0
  have a3:atI (bg n s) (c:Int)=some (.int (s.out c:Int)):=dQ (f:=fun j=>PyData.int (s.out j:Int)) (n:=n) (i:=c) hc
  have a4:atI (aQ m s) (r:Int)=some (.int (s.win r:Int)):=dQ (f:=fun j=>PyData.int (s.win j:Int)) (n:=m) (i:=r) hr
  have a5:=hZ (f:=fun i=>PyData.list (ap ((piv s r c).T i) (n+1))) (n:=m)
  let F (t o w b col p en:Option Sv):En:=[G,R,Lm,some (.d (.int (n:Int))),t,o,w,b,col,p,en,none,none]
  have h1:aF 9 (b_ 3 cy (aa (ac 4) (aa (ac 6) (aa (ac 8) ai)))) (F (some (.d (bw n m s))) (some (.l (bg n s))) (some (.l (aQ m s))) (some (.d (.int s.d))) (some (.d (.int (c:Int)))) v9 v10)=some (.nx (F (some (.d (bw n m s))) (some (.l (bg n s))) (some (.l (aQ m s))) (some (.d (.int s.d))) (some (.d (.int (c:Int)))) (some (.d (.int (r:Int)))) v10)):=by
    show aF 9 _ [G,R,Lm,some (.d (.int (n:Int))),some (.d (bw n m s)),some (.l (bg n s)),some (.l (aQ m s)),some (.d (.int s.d)),some (.d (.int (c:Int))),v9,v10,none,none]=some (.nx [G,R,Lm,some (.d (.int (n:Int))),some (.d (bw n m s)),some (.l (bg n s)),some (.l (aQ m s)),some (.d (.int s.d)),some (.d (.int (c:Int))),some (.d (.int (r:Int))),v10,none,none])
    generalize bw n m s=TT at*
    generalize bg n s=OO at*
    generalize aQ m s=WW at*
    have u:gE (dD [.d TT,.s 6,.d (.int (c:Int))]) [some (.d TT),some (.l WW),some (.d (.int (c:Int)))] [G,R,Lm,some (.d (.int (n:Int))),some (.d TT),some (.l OO),some (.l WW),some (.d (.int s.d)),some (.d (.int (c:Int))),v9,v10,none,none]=[G,R,Lm,some (.d (.int (n:Int))),some (.d TT),some (.l OO),some (.l WW),some (.d (.int s.d)),some (.d (.int (c:Int))),v9,v10,none,none]:=sT rfl rfl
    simp? [tl,u]
  have h2:g_ (bI (aa (b_ 4 ed (aa (ac 4) (aa (ac 7) (aa (ac 9) (aa (ac 8) ai))))) (aa (aq a8 (aq a8 (ac 4) (ac 9)) (ac 8)) ai))) (aV (ao (af 4) (ao (af 7) aS))) (F (some (.d (bw n m s))) (some (.l (bg n s))) (some (.l (aQ m s))) (some (.d (.int s.d))) (some (.d (.int (c:Int)))) (some (.d (.int (r:Int)))) v10)=some (.nx (F (some (.d (bw n m (piv s r c)))) (some (.l (bg n s))) (some (.l (aQ m s))) (some (.d (.int (s.T r c)))) (some (.d (.int (c:Int)))) (some (.d (.int (r:Int)))) v10)):=by
    show g_ _ _ [G,R,Lm,some (.d (.int (n:Int))),some (.d (bw n m s)),some (.l (bg n s)),some (.l (aQ m s)),some (.d (.int s.d)),some (.d (.int (c:Int))),some (.d (.int (r:Int))),v10,none,none]=some (.nx [G,R,Lm,some (.d (.int (n:Int))),some (.d (bw n m (piv s r c))),some (.l (bg n s)),some (.l (aQ m s)),some (.d (.int (s.T r c))),some (.d (.int (c:Int))),some (.d (.int (r:Int))),v10,none,none])
    generalize bw n m (piv s r c)=T2 at*
    unfold bw at te ⊢
    generalize (Nb (m+1)).map (fun i=>PyData.list (ap (s.T i) (n+1)))=TT at*
    generalize ap (s.T r) (n+1)=RR at*
    generalize bg n s=OO at*
    generalize aQ m s=WW at*
    have u:gE (dD [.d (.list TT),.d (.int s.d),.d (.int (r:Int)),.d (.int (c:Int))]) [some (.d (.list TT)),some (.d (.int s.d)),some (.d (.int (r:Int))),some (.d (.int (c:Int)))] [G,R,Lm,some (.d (.int (n:Int))),some (.d (.list TT)),some (.l OO),some (.l WW),some (.d (.int s.d)),some (.d (.int (c:Int))),some (.d (.int (r:Int))),v10,none,none]=[G,R,Lm,some (.d (.int (n:Int))),some (.d (.list TT)),some (.l OO),some (.l WW),some (.d (.int s.d)),some (.d (.int (c:Int))),some (.d (.int (r:Int))),v10,none,none]:=bR rfl
    simp? [te,u,a1,a2]
  have h3:aF 10 (aq a8 (ac 5) (ac 8)) (F (some (.d (bw n m (piv s r c)))) (some (.l (bg n s))) (some (.l (aQ m s))) (some (.d (.int (s.T r c)))) (some (.d (.int (c:Int)))) (some (.d (.int (r:Int)))) v10)=some (.nx (F (some (.d (bw n m (piv s r c)))) (some (.l (bg n s))) (some (.l (aQ m s))) (some (.d (.int (s.T r c)))) (some (.d (.int (c:Int)))) (some (.d (.int (r:Int)))) (some (.d (.int (s.out c:Int)))))):=by
    show aF 10 _ [G,R,Lm,some (.d (.int (n:Int))),some (.d (bw n m (piv s r c))),some (.l (bg n s)),some (.l (aQ m s)),some (.d (.int (s.T r c))),some (.d (.int (c:Int))),some (.d (.int (r:Int))),v10,none,none]=some (.nx [G,R,Lm,some (.d (.int (n:Int))),some (.d (bw n m (piv s r c))),some (.l (bg n s)),some (.l (aQ m s)),some (.d (.int (s.T r c))),some (.d (.int (c:Int))),some (.d (.int (r:Int))),some (.d (.int (s.out c:Int))),none,none])
    generalize bw n m (piv s r c)=T2 at*
    generalize bg n s=OO at*
    generalize aQ m s=WW at*
    simp? [a3]
  have h4:lg (aq a8 (ac 6) (ac 9)) (ac 5) (ac 8) (F (some (.d (bw n m (piv s r c)))) (some (.l (bg n s))) (some (.l (aQ m s))) (some (.d (.int (s.T r c)))) (some (.d (.int (c:Int)))) (some (.d (.int (r:Int)))) (some (.d (.int (s.out c:Int)))))=some (.nx (F (some (.d (bw n m (piv s r c)))) (some (.l (bg n (piv s r c)))) (some (.l (aQ m s))) (some (.d (.int (s.T r c)))) (some (.d (.int (c:Int)))) (some (.d (.int (r:Int)))) (some (.d (.int (s.out c:Int)))))):=by
    rw [←As (m:=m)]
    have hl:m_ (bg n s).length (c:Int)=some c:=by rw [show(bg n s).length=n from lb];exact wF hc
    show lg _ _ _ [G,R,Lm,some (.d (.int (n:Int))),some (.d (bw n m (piv s r c))),some (.l (bg n s)),some (.l (aQ m s)),some (.d (.int (s.T r c))),some (.d (.int (c:Int))),some (.d (.int (r:Int))),some (.d (.int (s.out c:Int))),none,none]=some (.nx [G,R,Lm,some (.d (.int (n:Int))),some (.d (bw n m (piv s r c))),some (.l ((bg n s).set c (.int (s.win r:Int)))),some (.l (aQ m s)),some (.d (.int (s.T r c))),some (.d (.int (c:Int))),some (.d (.int (r:Int))),some (.d (.int (s.out c:Int))),none,none])
    generalize bw n m (piv s r c)=T2 at*
    generalize bg n s=OO at*
    generalize aQ m s=WW at*
    simp? [lg,mi,a4,hl]
  have h5:lg (ac 10) (ac 6) (ac 9) (F (some (.d (bw n m (piv s r c)))) (some (.l (bg n (piv s r c)))) (some (.l (aQ m s))) (some (.d (.int (s.T r c)))) (some (.d (.int (c:Int)))) (some (.d (.int (r:Int)))) (some (.d (.int (s.out c:Int)))))=some (.nx (F (some (.d (bw n m (piv s r c)))) (some (.l (bg n (piv s r c)))) (some (.l (aQ m (piv s r c)))) (some (.d (.int (s.T r c)))) (some (.d (.int (c:Int)))) (some (.d (.int (r:Int)))) (some (.d (.int (s.out c:Int)))))):=by
    rw [←BA]
    have hl:m_ (aQ m s).length (r:Int)=some r:=by rw [show(aQ m s).length=m from lb];exact wF hr
    show lg _ _ _ [G,R,Lm,some (.d (.int (n:Int))),some (.d (bw n m (piv s r c))),some (.l (bg n (piv s r c))),some (.l (aQ m s)),some (.d (.int (s.T r c))),some (.d (.int (c:Int))),some (.d (.int (r:Int))),some (.d (.int (s.out c:Int))),none,none]=some (.nx [G,R,Lm,some (.d (.int (n:Int))),some (.d (bw n m (piv s r c))),some (.l (bg n (piv s r c))),some (.l ((aQ m s).set r (.int (s.out c:Int)))),some (.d (.int (s.T r c))),some (.d (.int (c:Int))),some (.d (.int (r:Int))),some (.d (.int (s.out c:Int))),none,none])
    generalize bw n m (piv s r c)=T2 at*
    generalize bg n (piv s r c)=OO at*
    generalize aQ m s=WW at*
    simp? [lg,mi,hl]
  have h6:aF 8 (b_ 2 aP (aa (aq a8 (ac 4) (ny ig (vC (.int 1)))) (aa (ac 5) ai))) (F (some (.d (bw n m (piv s r c)))) (some (.l (bg n (piv s r c)))) (some (.l (aQ m (piv s r c)))) (some (.d (.int (s.T r c)))) (some (.d (.int (c:Int)))) (some (.d (.int (r:Int)))) (some (.d (.int (s.out c:Int)))))=some (.nx (F (some (.d (bw n m (piv s r c)))) (some (.l (bg n (piv s r c)))) (some (.l (aQ m (piv s r c)))) (some (.d (.int (s.T r c)))) (some (.d d')) (some (.d (.int (r:Int)))) (some (.d (.int (s.out c:Int)))))):=by
    show aF 8 _ [G,R,Lm,some (.d (.int (n:Int))),some (.d (bw n m (piv s r c))),some (.l (bg n (piv s r c))),some (.l (aQ m (piv s r c))),some (.d (.int (s.T r c))),some (.d (.int (c:Int))),some (.d (.int (r:Int))),some (.d (.int (s.out c:Int))),none,none]=some (.nx [G,R,Lm,some (.d (.int (n:Int))),some (.d (bw n m (piv s r c))),some (.l (bg n (piv s r c))),some (.l (aQ m (piv s r c))),some (.d (.int (s.T r c))),some (.d d'),some (.d (.int (r:Int))),some (.d (.int (s.out c:Int))),none,none])
    unfold bw
    generalize (Nb (m+1)).map (fun i=>PyData.list (ap ((piv s r c).T i) (n+1)))=T2 at*
    generalize ap ((piv s r c).T m) (n+1)=R2 at*
    generalize bg n (piv s r c)=OO at*
    generalize aQ m (piv s r c)=WW at*
    have u:gE (dD [.d (.list R2),.s 5]) [some (.d (.list R2)),some (.l OO)] [G,R,Lm,some (.d (.int (n:Int))),some (.d (.list T2)),some (.l OO),some (.l WW),some (.d (.int (s.T r c))),some (.d (.int (c:Int))),some (.d (.int (r:Int))),some (.d (.int (s.out c:Int))),none,none]=[G,R,Lm,some (.d (.int (n:Int))),some (.d (.list T2)),some (.l OO),some (.l WW),some (.d (.int (s.T r c))),some (.d (.int (c:Int))),some (.d (.int (r:Int))),some (.d (.int (s.out c:Int))),none,none]:=sT rfl rfl
    simp? [tc,u,a5]
  refine⟨_,?_,Gy.mk (st:=st') (cs:=cs') (rs:=rs') (d:=d') (v9:=some (.d (.int (r:Int)))) (v10:=some (.d (.int (s.out c:Int)))) W' (by rw [w1];exact hd')⟩
  unfold ck
  rw [az h1,az h2,az h3,az h4,az h5,h6,w1]
  rfl
theorem BP{n m:Nat}{C:Nat→Nat→Int}{G R Lm:Option Sv}{B:Nat}{U:Rat}(hB:∀a i,(C a i).natAbs≤B)(hs:wu (m+1)*B ^ (m+1) < 2 ^ 1900)(hm:m≤1000)(hn:n≤1000)(hU:∀x,nA n m C x→(∀v,v < n+m→0≤x v)→x (n+m)≤U){e:En}(h:Gy n m C G R Lm 0 e):
    ∃(s:Tb) (v9 v10:Option Sv),Iv n m C s∧(∀j,j < n→0≤s.T m j)∧iW (2 ^ 4200) cQ ck e=some (.nx [G,R,Lm,some (.d (.int (n:Int))),some (.d (bw n m s)),some (.l (bg n s)),some (.l (aQ m s)),some (.d (.int s.d)),some (.d .none),v9,v10,none,none]):=by
  have nN:∀e:En,nU e (.d .none) (.d .none)=some (.d (.bool false)):=fun e=>rfl
  have nI:∀(e:En) (k:Int),nU e (.d (.int k)) (.d .none)=some (.d (.bool true)):=fun e k=>rfl
  obtain⟨e',h1,h2⟩:=pJ (ft:=cQ) (f:=ck) (Q:=fun e'=>∃(s:Tb) (v9 v10:Option Sv),Iv n m C s∧(∀j,j < n→0≤s.T m j)∧e'=[G,R,Lm,some (.d (.int (n:Int))),some (.d (bw n m s)),some (.l (bg n s)),some (.l (aQ m s)),some (.d (.int s.d)),some (.d .none),v9,v10,none,none])
    (fun k e=>Gy n m C G R Lm k e) (2 ^ (n+m+1)) (fun k e ⟨W,_⟩=>W.short) (fun k e h=>by
      obtain⟨W,hd⟩:=h
      rename_i st cs rs d v9 v10
      have I:=W.iv k (Ny k)
      cases d with
      | none=>
        refine .inl ⟨_,?_,st k,v9,v10,I,hd,rfl⟩
        generalize bw n m (st k)=TT at*
        generalize bg n (st k)=OO at*
        generalize aQ m (st k)=WW at*
        simp? [cQ,nN]
      | int kk=>
        obtain⟨c,rfl,E⟩:=hd
        obtain⟨e2,h3,h4⟩:=BQ (G:=G) (R:=R) (Lm:=Lm) (v9:=v9) (v10:=v10) W E (I.sml hB hs) hm hn (I.leave E.hc E.neg hU)
        refine .inr ⟨_,e2,?_,h3,h4⟩
        generalize bw n m (st k)=TT at*
        generalize bg n (st k)=OO at*
        generalize aQ m (st k)=WW at*
        simp? [cQ,nI]
      | _=>exact hd.elim) (2 ^ 4200) 0 e h (Ru ⋯ ↥0)
  obtain⟨s,v9,v10,I,hz,rfl⟩:=h2
  exact⟨s,v9,v10,I,hz,h1⟩
def bY(m n:Nat)(A:Nat→Nat→Int):List MY:=(Nb m).map fun i=>.list (ap (A i) n)
theorem yW{n m:Nat}{g:Nat→Int}{A:Nat→Nat→Int}{b:Nat→Int}(hb:∀i,i < m→0≤b i)(hm:m≤1000)(hn:n≤900):
    ∃e,Gy n m (jI n m g A b) (some (.l (ap g n))) (some (.d (.list (bY m n A)))) (some (.d (.list (ap b m)))) 0 e∧∀k:FS,(aE (aF 3 (aJ (g1 cY) (aa (ac 0) ai)))
    (aE (aF 4 (sU (aq aO (bb [] 2 bU (aV (ao (af 0) (ao (af 1) aS))) aZ bD) (cC (aa (aq aO (bb [] 1 bo (af 0) aZ a_) (cC (aa (vC (.int 0)) ai))) ai)))))
    (aE (qB 5 6 (jS (aa (ac 3) ai)) (iB (aa (ac 3) (aa (aq aO (ac 3) (aJ (g1 cY) (aa (ac 1) ai))) ai))))
    (aE (aF 7 (vC (.int 1)))
    (aE (aF 8 (b_ 2 aP (aa (aq a8 (ac 4) (ny ig (vC (.int 1)))) (aa (ac 5) ai)))) k))))) [some (.l (ap g n)),some (.d (.list (bY m n A))),some (.d (.list (ap b m))),none,none,none,none,none,none,none,none,none,none]=k e:=by
  let F (x t o w b' c:Option Sv):En:=[some (.l (ap g n)),some (.d (.list (bY m n A))),some (.d (.list (ap b m))),x,t,o,w,b',c,none,none,none,none]
  have h1:aF 3 (aJ (g1 cY) (aa (ac 0) ai)) (F none none none none none none)=some (.nx (F (some (.d (.int (n:Int)))) none none none none none)):=by
    have gl:g1 cY (F none none none none none none) [.s 0]=some (.d (.int (n:Int))):=by rw [rJ (xs:=ap g n) rfl,lb]
    show(Option.bind (Option.bind (some ([Rv.s 0],F none none none none none none)) fun p=>(g1 cY p.2 p.1).map fun z=>(z,p.2)) fun p=>(yp 3 p.1 p.2).map Fl.nx)=_
    rw [NI,gl]
    rfl
  have hv1:=bP (cp:=[]) (nT:=2) (fi:=bU) (g:=aV (ao (af 0) (ao (af 1) aS))) (ft:=aZ) (fe:=bD) (e:=F (some (.d (.int (n:Int)))) none none none none none) (e1:=F (some (.d (.int (n:Int)))) none none none none none) (own:=[]) (cs:=[])
    (item:=fun i=>.tuple [.list (ap (A i) n),.int (b i)]) (b:=fun _=>true) (r:=fun i=>.l (ap (A i) n++[.int (b i)])) (y:=fun i=>.list (ap (A i) n++[.int (b i)])) (u:=fun i=>[some (.d (.list (ap (A i) n))),some (.d (.int (b i)))]) (Nb m)
    (by
      show some (fF (bY m n A) (ap b m),_,_)=_
      unfold bY ap
      rw [jv]) ∅ ∅ ∅ (fun i hi=>by
      refine⟨fun t ht=>?_,rfl,rfl,fun _=>⟨?_,rfl⟩⟩
      · match t,ht with
        | [t1,t2],_=>rfl
      · have gl:∀(e:En) (l:List MY),g1 je e [.d (.list l)]=some (.l l):=fun e l=>rfl
        have gc:∀(e:En) (x:MY),aO e (.l (ap (A i) n)) (.l [x])=some (.l (ap (A i) n++[x])):=fun e x=>iL (by rw [lb];simp;lia)
        generalize ap (A i) n=RR at*
        simp? [bD,gl,gc]) ↥7
  rw [OC.mpr ↥4] at hv1
  have hv2:=bP (cp:=[]) (nT:=1) (fi:=bo) (g:=af 0) (ft:=aZ) (fe:=a_) (e:=F (some (.d (.int (n:Int)))) none none none none none) (e1:=F (some (.d (.int (n:Int)))) none none none none none) (own:=[(0,ap g n)]) (cs:=[])
    (item:=fun j=>.int (g j)) (b:=fun _=>true) (r:=fun j=>.d (.int (- g j))) (y:=fun j=>.int (- g j)) (u:=fun j=>[some (.d (.int (g j)))]) (Nb n) rfl ∅ ∅ ∅ (fun j hj=>by
      refine⟨fun t ht=>?_,rfl,rfl,fun _=>⟨?_,rfl⟩⟩
      · match t,ht with
        | [t1],_=>rfl
      · simp? [a_]) ↥7
  rw [OC.mpr ↥4] at hv2
  have et:PyData.list ((Nb m).map (fun i=>PyData.list (ap (A i) n++[.int (b i)]))++[.list ((Nb n).map (fun j=>PyData.int (- g j))++[.int 0])])=bw n m (pC n m (jI n m g A b)):=by
    unfold bw
    rw [PJ,Oi]
    congr 2
    · refine Ou fun i hi=>?_
      have il:=NB.mp hi
      unfold ap
      rw [PJ,Oi]
      congr 2
      · refine Ou fun j hj=>?_
        have jl:=NB.mp hj
        simp [pC,jI,il,jl,NJ jl]
      · simp [pC,jI,il]
        lia
    · simp only [Nx,Oy]
      unfold ap
      rw [PJ,Oi]
      congr 3
      · refine Ou fun j hj=>?_
        have jl:=NB.mp hj
        simp [pC,jI,jl,NJ jl]
      · simp [pC,jI]
        lia
  have h2:aF 4 (sU (aq aO (bb [] 2 bU (aV (ao (af 0) (ao (af 1) aS))) aZ bD) (cC (aa (aq aO (bb [] 1 bo (af 0) aZ a_) (cC (aa (vC (.int 0)) ai))) ai)))) (F (some (.d (.int (n:Int)))) none none none none none)=some (.nx (F (some (.d (.int (n:Int)))) (some (.d (bw n m (pC n m (jI n m g A b))))) none none none none)):=by
    rw [←et]
    have c1:∀(e:En) (x:MY),aO e (.l ((Nb n).map (fun j=>PyData.int (- g j)))) (.l [x])=some (.l ((Nb n).map (fun j=>PyData.int (- g j))++[x])):=fun e x=>iL ↥7
    have c2:∀(e:En) (x:MY),aO e (.l ((Nb m).map (fun i=>PyData.list (ap (A i) n++[.int (b i)])))) (.l [x])=some (.l ((Nb m).map (fun i=>PyData.list (ap (A i) n++[.int (b i)]))++[x])):=fun e x=>iL ↥7
    generalize (Nb n).map (fun j=>PyData.int (- g j))=A1 at*
    generalize (Nb m).map (fun i=>PyData.list (ap (A i) n++[.int (b i)]))=A2 at*
    have f1:(aq aO (bb [] 1 bo (af 0) aZ a_) (cC (aa (vC (.int 0)) ai))) (F (some (.d (.int (n:Int)))) none none none none none)=some (.l (A1++[.int 0]),F (some (.d (.int (n:Int)))) none none none none none):=by
      unfold aq
      rw [hv2]
      show((aO (F (some (.d (.int (n:Int)))) none none none none none) (.l A1) (.l [.int 0])).map fun z=>(z,F (some (.d (.int (n:Int)))) none none none none none))=_
      rw [c1];rfl
    have f2':∀V1:FE,V1 (F (some (.d (.int (n:Int)))) none none none none none)=some (.l (A1++[.int 0]),F (some (.d (.int (n:Int)))) none none none none none)→cC (aa V1 ai) (F (some (.d (.int (n:Int)))) none none none none none)=some (.l [.list (A1++[.int 0])],F (some (.d (.int (n:Int)))) none none none none none):=fun V1 h=>by
      unfold cC aa
      rw [h]
      rfl
    have f2:=f2' _ f1
    have f3:(aq aO (bb [] 2 bU (aV (ao (af 0) (ao (af 1) aS))) aZ bD) (cC (aa (aq aO (bb [] 1 bo (af 0) aZ a_) (cC (aa (vC (.int 0)) ai))) ai))) (F (some (.d (.int (n:Int)))) none none none none none)=some (.l (A2++[.list (A1++[.int 0])]),F (some (.d (.int (n:Int)))) none none none none none):=by
      generalize cC (aa (aq aO (bb [] 1 bo (af 0) aZ a_) (cC (aa (vC (.int 0)) ai))) ai)=V2 at*
      unfold aq
      rw [hv1,NI,f2]
      show((aO (F (some (.d (.int (n:Int)))) none none none none none) (.l A2) (.l [.list (A1++[.int 0])])).map fun z=>(z,F (some (.d (.int (n:Int)))) none none none none none))=_
      rw [c2];rfl
    generalize aq aO (bb [] 2 bU (aV (ao (af 0) (ao (af 1) aS))) aZ bD) (cC (aa (aq aO (bb [] 1 bo (af 0) aZ a_) (cC (aa (vC (.int 0)) ai))) ai))=V3 at*
    unfold aF sU
    rw [f3]
    rfl
  generalize hs0:pC n m (jI n m g A b)=s0 at*
  have eo:(mV n).map PyData.int=bg n s0:=by
    unfold mV bg ap
    rw [Os,←hs0]
    refine Ou fun j hj=>?_
    have jl:=NB.mp hj
    simp [pC,NJ jl]
  have ew:(mU (n:Int) m).map PyData.int=aQ m s0:=by
    unfold mU aQ ap
    rw [Os,←hs0]
    refine Ou fun j hj=>?_
    simp [pC]
  have h3:qB 5 6 (jS (aa (ac 3) ai)) (iB (aa (ac 3) (aa (aq aO (ac 3) (aJ (g1 cY) (aa (ac 1) ai))) ai))) (F (some (.d (.int (n:Int)))) (some (.d (bw n m s0))) none none none none)=some (.nx (F (some (.d (.int (n:Int)))) (some (.d (bw n m s0))) (some (.l (bg n s0))) (some (.l (aQ m s0))) none none)):=by
    rw [←eo,←ew]
    have f1:jS (aa (ac 3) ai) (F (some (.d (.int (n:Int)))) (some (.d (bw n m s0))) none none none none)=some (.l ((mV n).map .int),F (some (.d (.int (n:Int)))) (some (.d (bw n m s0))) none none none none):=by
      show(if 0≤(n:Int)∧(n:Int)≤100000 then some (Rv.l ((mV (n:Int).toNat).map .int),F (some (.d (.int (n:Int)))) (some (.d (bw n m s0))) none none none none) else none)=_
      rw [if_pos ↥0,OF]
    have f2:iB (aa (ac 3) (aa (aq aO (ac 3) (aJ (g1 cY) (aa (ac 1) ai))) ai)) (F (some (.d (.int (n:Int)))) (some (.d (bw n m s0))) none none none none)=some (.l ((mU (n:Int) m).map .int),F (some (.d (.int (n:Int)))) (some (.d (bw n m s0))) none none none none):=by
      have hl:((bY m n A).length:Int)=(m:Int):=by simp [bY]
      show(if 0≤(n:Int)∧(n:Int)≤100000∧0≤(n:Int)+((bY m n A).length:Int)∧(n:Int)+((bY m n A).length:Int)≤100000 then some (Rv.l ((mU (n:Int) ((n:Int)+((bY m n A).length:Int) - (n:Int)).toNat).map .int),F (some (.d (.int (n:Int)))) (some (.d (bw n m s0))) none none none none) else none)=_
      rw [hl,if_pos ↥0,show((n:Int)+(m:Int) - (n:Int)).toNat=m by lia]
    unfold qB
    rw [f1,NI,f2]
    rfl
  obtain⟨d,hd,tc⟩:=Eb (n:=n) (m:=m) (s:=s0) ↥0
  refine⟨F (some (.d (.int (n:Int)))) (some (.d (bw n m s0))) (some (.l (bg n s0))) (some (.l (aQ m s0))) (some (.d (.int s0.d))) (some (.d d)),.mk (st:=fun _=>s0) (cs:=fun _=>0) (rs:=fun _=>0) (nB.one (by rw [←hs0];exact Hf hb)) hd,fun k=>?_⟩
  have a5:=hZ (f:=fun i=>PyData.list (ap (s0.T i) (n+1))) (n:=m)
  have h4:aF 7 (vC (.int 1)) (F (some (.d (.int (n:Int)))) (some (.d (bw n m s0))) (some (.l (bg n s0))) (some (.l (aQ m s0))) none none)=some (.nx (F (some (.d (.int (n:Int)))) (some (.d (bw n m s0))) (some (.l (bg n s0))) (some (.l (aQ m s0))) (some (.d (.int s0.d))) none)):=by
    rw [show s0.d=1 by rw [←hs0];rfl]
    rfl
  have h5:aF 8 (b_ 2 aP (aa (aq a8 (ac 4) (ny ig (vC (.int 1)))) (aa (ac 5) ai))) (F (some (.d (.int (n:Int)))) (some (.d (bw n m s0))) (some (.l (bg n s0))) (some (.l (aQ m s0))) (some (.d (.int s0.d))) none)=some (.nx (F (some (.d (.int (n:Int)))) (some (.d (bw n m s0))) (some (.l (bg n s0))) (some (.l (aQ m s0))) (some (.d (.int s0.d))) (some (.d d)))):=by
    show aF 8 _ [some (.l (ap g n)),some (.d (.list (bY m n A))),some (.d (.list (ap b m))),some (.d (.int (n:Int))),some (.d (bw n m s0)),some (.l (bg n s0)),some (.l (aQ m s0)),some (.d (.int s0.d)),none,none,none,none,none]=some (.nx [some (.l (ap g n)),some (.d (.list (bY m n A))),some (.d (.list (ap b m))),some (.d (.int (n:Int))),some (.d (bw n m s0)),some (.l (bg n s0)),some (.l (aQ m s0)),some (.d (.int s0.d)),some (.d d),none,none,none,none])
    unfold bw
    generalize (Nb (m+1)).map (fun i=>PyData.list (ap (s0.T i) (n+1)))=T2 at*
    generalize ap (s0.T m) (n+1)=R2 at*
    generalize bg n s0=OO at*
    generalize aQ m s0=WW at*
    generalize ap g n=GG at*
    generalize bY m n A=AA at*
    generalize ap b m=BB at*
    have u:gE (dD [.d (.list R2),.s 5]) [some (.d (.list R2)),some (.l OO)] [some (.l GG),some (.d (.list AA)),some (.d (.list BB)),some (.d (.int (n:Int))),some (.d (.list T2)),some (.l OO),some (.l WW),some (.d (.int s0.d)),none,none,none,none,none]=[some (.l GG),some (.d (.list AA)),some (.d (.list BB)),some (.d (.int (n:Int))),some (.d (.list T2)),some (.l OO),some (.l WW),some (.d (.int s0.d)),none,none,none,none,none]:=sT rfl rfl
    simp? [tc,u,a5]
  rw [az h1,az h2,az h3,az h4,az h5]
theorem mn(a b:Int)(hb:Bt 4000 b):cw [.d (.int a),.d (.int b)]=some (.d (.int (Nv a b)),[.d (.int a),.d (.int b)]):=by
  have tst:∀x y:Int,bW [some (.d (.int x)),some (.d (.int y))]=some (!(y==0),[some (.d (.int x)),some (.d (.int y))]):=fun x y=>by simp? [bW]
  obtain⟨e0,e',h1,⟨x,y,he,hg,hy⟩,h3⟩:=ki (ft:=bW) (f:=cF) (fun e=>∃x y,e=[some (.d (.int x)),some (.d (.int y))]∧Nv x y=Nv a b∧Bt 4000 y) (qo 1) (fun e ⟨x,y,he,hg,hy⟩=>by
    subst he
    rw [tst]
    by_cases c:y=0
    · subst c;exact .inl ⟨_,rfl,trivial⟩
    · refine .inr ⟨_,[some (.d (.int y)),some (.d (.int (x.fmod y)))],by rw [beq_false_of_ne c];rfl,by simp? [cF,zH c],⟨y,x.fmod y,rfl,by rw [tP,hg],?_⟩,?_⟩
      · have:=gL x c
        exact Bt.of_le hy ↥0
      · have:=gL x c
        simpa [qo] using this) (2 ^ 4200) _ ⟨a,b,rfl,rfl,hb⟩ (rY (m:=4000) (by simpa [qo,Bt] using hb) ⋯)
  subst he
  rw [tst] at h3
  have h4:=Prod.mk.inj (NQ h3)
  have hy0:y=0:=by simpa using h4.1
  subst hy0
  have h5:=h4.2
  subst h5
  have hs:iW (2 ^ 4200) bW cF [some (.d (.int a)),some (.d (.int b))]=some (.nx [some (.d (.int x)),some (.d (.int 0))]):=h1
  have hg':(x.natAbs:Int)=(Nv a b:Int):=by rw [←hg];simp
  simp only [cw,h_,iY,qp,aE,j3,bN,fB,aF,i3,g_,sM,yp,a9,aq,ny,ac,vC,cC,ai,aa,bI,aJ,b_,mX,Gr,uJ,Du,qM,yG,Bz,pZ,eI,dO,gA,dX,EV,kb,jZ,rl,gh,cg,zo,xA,aV,ao,af,aS,dZ,aN,bL,Ck,f_,nR,j8,rD,rK,rG,rF,rE,nX,nV,nY,lT,nQ,zF,mC,ve,zG,vg,rH,vf,rJ,n_,nZ,lU,oh,zN,nF,qT,qU,qV,za,lM,lL,kz,m9,Np, -Oy, -Nx, -Qp, -QJ, -NI, -Ov, -getElem?_pos, -Qh,zx,zw,zr,zq,zu,zv,zt,zy]
  simp? [hs,hg']
theorem pA(t b:Int)(hb:0 < b)(h:Bt 4000 b):dg [.d (.int t),.d (.int b)]=some (.d (dF (lowM t b)),[.d (.int t),.d (.int b)]):=by
  have g0:=rM (t:=t) (b:=b) ↥0
  have g1:(Nv t b:Int)≠0:=by lia
  have g8:Bt 8000 (Nv t b:Int):=(zO (t:=t) ↥0 h).mono ⋯
  have e:lowM t b=(t.fdiv (Nv t b:Int),b.fdiv (Nv t b:Int)):=by unfold lowM;rw [if_neg ↥0]
  have nb:¬b < 0:=by lia
  rw [e]
  simp? [dg,tD,mn t b h,wy g1 g8,nb,dF]
theorem sR{a b:Fr}{n:Nat}(a2:0 < a.2)(b2:0 < b.2)(ha1:Bt n a.1)(ha:Bt n a.2)(hb1:Bt n b.1)(hb:Bt n b.2)(hn:n≤1900):fQ [.d (dF a),.d (dF b)]=some (.d (dF (tm a b)),[.d (dF a),.d (dF b)]):=by
  have g1:∀e:En,bJ e (.d (.int a.1)) (.d (.int b.1))=some (.d (.int (a.1*b.1))):=fun e=>bx (gv (ha1.mono ↥0) (hb1.mono ↥0))
  have g2:∀e:En,bJ e (.d (.int a.2)) (.d (.int b.2))=some (.d (.int (a.2*b.2))):=fun e=>bx (gv (ha.mono ↥0) (hb.mono ↥0))
  have tl:=pA (a.1*b.1) (a.2*b.2) (Qc a2 b2) ((ha.mul hb).mono ↥0)
  unfold tm
  unfold dF at*
  simp? [fQ,wc,g1,g2,tl]
theorem Gh{a b:Fr}{n:Nat}(a2:0 < a.2)(b2:0 < b.2)(ha1:Bt n a.1)(ha:Bt n a.2)(hb1:Bt n b.1)(hb:Bt n b.2)(hn:n≤1900):oJ [.d (dF a),.d (dF b)]=some (.d (dF (pl a b)),[.d (dF a),.d (dF b)]):=by
  have g1:∀e:En,bJ e (.d (.int a.1)) (.d (.int b.2))=some (.d (.int (a.1*b.2))):=fun e=>bx (gv (ha1.mono ↥0) (hb.mono ↥0))
  have g3:∀e:En,bJ e (.d (.int b.1)) (.d (.int a.2))=some (.d (.int (b.1*a.2))):=fun e=>bx (gv (hb1.mono ↥0) (ha.mono ↥0))
  have g2:∀e:En,bJ e (.d (.int a.2)) (.d (.int b.2))=some (.d (.int (a.2*b.2))):=fun e=>bx (gv (ha.mono ↥0) (hb.mono ↥0))
  have tl:=pA (a.1*b.2+b.1*a.2) (a.2*b.2) (Qc a2 b2) ((ha.mul hb).mono ↥0)
  unfold pl
  unfold dF at*
  simp? [oJ,yV,g1,g2,g3,tl]
def lW(n m:Nat)(s:Tb)(v:Nat):Fr:=(((Nb m).find? fun i=>(s.win i:Int)==(v:Int)).map fun i=>lowM (s.T i n) s.d).getD (0,1)
def jV(n m:Nat)(s:Tb)(v:Nat):Fr:=(((Nb n).find? fun j=>(s.out j:Int)==(v:Int)).map fun j=>lowM (s.T m j) s.d).getD (0,1)
theorem Ew{n m:Nat}{C:Nat→Nat→Int}{s:Tb}{G R Lm v9 v10:Option Sv}(I:Iv n m C s)(S:DG n m s)(hm:m≤1000)(hn:n≤900){rws:List MY}(hR:R=some (.d (.list rws)))(hrl:rws.length=m):∃e',
    (aE (aF 11 (eH [(7,"bottom")] 2 dW (aV (ao (af 1) (ao (af 2) aS))) 1 cT))
    (aE (aF 12 (eH [(7,"bottom")] 2 cU (aV (ao (af 1) (ao (af 2) aS))) 1 cS))
    (bN (bI (aa (aJ (g1 cZ) (aa (bb [(11,"levels")] 1 dU (af 1) aZ dS) ai)) (aa (aJ (g1 cZ) (aa (bb [(12,"prices")] 1 fy (af 1) aZ dR) ai)) ai))))))
    [G,R,Lm,some (.d (.int (n:Int))),some (.d (bw n m s)),some (.l (bg n s)),some (.l (aQ m s)),some (.d (.int s.d)),some (.d .none),v9,v10,none,none]=some (.rt (.d (.tuple [.tuple ((Nb n).map fun v=>dF (lW n m s v)),.tuple ((Nb m).map fun i=>dF (jV n m s (n+i)))])) ([G,R,Lm]++e')):=by
  let F (x y:Option Sv):En:=[G,R,Lm,some (.d (.int (n:Int))),some (.d (bw n m s)),some (.l (bg n s)),some (.l (aQ m s)),some (.d (.int s.d)),some (.d .none),v9,v10,x,y]
  have low:∀x:Int,dg [.d (.int x),.d (.int s.d)]=some (.d (dF (lowM x s.d)),[.d (.int x),.d (.int s.d)]):=fun x=>pA x s.d I.dp (S.d.mono ⋯)
  have a5:=hZ (f:=fun i=>PyData.list (ap (s.T i) (n+1))) (n:=m)
  have lev:∀i,i < m→True:=fun _ _=>trivial
  have hv1:=pF (cp:=[(7,"bottom")]) (nT:=2) (fi:=dW) (g:=aV (ao (af 1) (ao (af 2) aS))) (ik:=1) (fv:=cT) (e:=F none none) (e1:=F none none) (own:=[(6,aQ m s)]) (cs:=[some (.d (.int s.d))])
    (item:=fun i=>.tuple [.int (s.win i:Int),.list (ap (s.T i) (n+1))]) (key:=fun i=>(s.win i:Int)) (y:=fun i=>lowM (s.T i n) s.d) (u:=fun i=>[some (.d (.int (s.win i:Int))),some (.d (.list (ap (s.T i) (n+1))))]) (Nb m)
    (by
      show some (fF (aQ m s) ((Nb (m+1)).map fun i=>PyData.list (ap (s.T i) (n+1))),_,_)=_
      rw [PJ,Oi]
      unfold aQ
      rw [show ap (fun j=>(s.win j:Int)) m=(Nb m).map (fun i=>PyData.int (s.win i:Int)) from rfl,mr]) ∅ ∅ (by intro p hp;simp at hp;subst hp;rfl) (fun i hi=>by
      refine⟨fun t ht=>?_,rfl,rfl,?_⟩
      · match t,ht with
        | [t1,t2],_=>rfl
      · have a2:atI (ap (s.T i) (n+1)) (-1)=some (.int (s.T i n)):=hZ (f:=fun j=>PyData.int (s.T i j)) (n:=n)
        have lw:=low (s.T i n)
        unfold dF at lw
        generalize ap (s.T i) (n+1)=RR at*
        generalize lowM (s.T i n) s.d=q at*
        simp? [cT,a2,lw,bR]) (by
      rw [List.nodup_iff_pairwise_ne,List.pairwise_map]
      refine(Su).imp_of_mem fun{a b} ha hb hab z=>?_
      have:=I.wi a (by have:=NB.mp ha;lia) b (by have:=NB.mp hb;lia) ↥0
      lia) ↥7
  have hv2:=pF (cp:=[(7,"bottom")]) (nT:=2) (fi:=cU) (g:=aV (ao (af 1) (ao (af 2) aS))) (ik:=1) (fv:=cS) (e:=F (some (.d (.dict (((Nb m).map fun i=>((s.win i:Int),lowM (s.T i n) s.d)).map pD)))) none) (e1:=F (some (.d (.dict (((Nb m).map fun i=>((s.win i:Int),lowM (s.T i n) s.d)).map pD)))) none) (own:=[(5,bg n s)]) (cs:=[some (.d (.int s.d))])
    (item:=fun j=>.tuple [.int (s.out j:Int),.int (s.T m j)]) (key:=fun j=>(s.out j:Int)) (y:=fun j=>lowM (s.T m j) s.d) (u:=fun j=>[some (.d (.int (s.out j:Int))),some (.d (.int (s.T m j)))]) (Nb n)
    (by
      have fa:(aa (ac 5) (aa (aq a8 (ac 4) (ny ig (vC (.int 1)))) ai)) (F (some (.d (.dict (((Nb m).map fun i=>((s.win i:Int),lowM (s.T i n) s.d)).map pD)))) none)=some ([.s 5,.d (.list (ap (s.T m) (n+1)))],F (some (.d (.dict (((Nb m).map fun i=>((s.win i:Int),lowM (s.T i n) s.d)).map pD)))) none):=by
        generalize ((Nb m).map fun i=>((s.win i:Int),lowM (s.T i n) s.d)).map pD=DD at*
        show(aa (ac 5) (aa (aq a8 (ac 4) (ny ig (vC (.int 1)))) ai)) [G,R,Lm,some (.d (.int (n:Int))),some (.d (bw n m s)),some (.l (bg n s)),some (.l (aQ m s)),some (.d (.int s.d)),some (.d .none),v9,v10,some (.d (.dict DD)),none]=some ([.s 5,.d (.list (ap (s.T m) (n+1)))],[G,R,Lm,some (.d (.int (n:Int))),some (.d (bw n m s)),some (.l (bg n s)),some (.l (aQ m s)),some (.d (.int s.d)),some (.d .none),v9,v10,some (.d (.dict DD)),none])
        unfold bw
        generalize (Nb (m+1)).map (fun i=>PyData.list (ap (s.T i) (n+1)))=T2 at*
        generalize ap (s.T m) (n+1)=R2 at*
        generalize bg n s=OO at*
        generalize aQ m s=WW at*
        simp? [a5]
      unfold cU mF
      rw [fa]
      show some (fF (bg n s) (ap (s.T m) (n+1)),_,_)=_
      rw [show ap (s.T m) (n+1)=(Nb n).map (fun j=>PyData.int (s.T m j))++[.int (s.T m n)] by unfold ap;rw [PJ,Oi];rfl]
      unfold bg
      rw [show ap (fun j=>(s.out j:Int)) n=(Nb n).map (fun i=>PyData.int (s.out i:Int)) from rfl,mr]) ∅ ∅ (by intro p hp;simp at hp;subst hp;rfl) (fun j hj=>by
      refine⟨fun t ht=>?_,rfl,rfl,?_⟩
      · match t,ht with
        | [t1,t2],_=>rfl
      · have lw:=low (s.T m j)
        unfold dF at lw
        generalize lowM (s.T m j) s.d=q at*
        simp? [cS,lw,bR]) (by
      rw [List.nodup_iff_pairwise_ne,List.pairwise_map]
      refine(Su).imp_of_mem fun{a b} ha hb hab z=>?_
      have:=I.oi a (by have:=NB.mp ha;lia) b (by have:=NB.mp hb;lia) ↥0
      lia) ↥7
  have eL:∀v:Nat,dG ((Nb m).map fun i=>((s.win i:Int),lowM (s.T i n) s.d)) (v:Int) (0,1)=lW n m s v:=fun v=>u_ _
  have eP:∀v:Nat,dG ((Nb n).map fun j=>((s.out j:Int),lowM (s.T m j) s.d)) (v:Int) (0,1)=jV n m s v:=fun v=>u_ _
  generalize ((Nb m).map fun i=>((s.win i:Int),lowM (s.T i n) s.d))=M1 at*
  generalize ((Nb n).map fun j=>((s.out j:Int),lowM (s.T m j) s.d))=M2 at*
  have hw1:=bP (cp:=[(11,"levels")]) (nT:=1) (fi:=dU) (g:=af 1) (ft:=aZ) (fe:=dS) (e:=F (some (.d (.dict (M1.map pD)))) (some (.d (.dict (M2.map pD))))) (e1:=F (some (.d (.dict (M1.map pD)))) (some (.d (.dict (M2.map pD))))) (own:=[]) (cs:=[some (.d (.dict (M1.map pD)))])
    (item:=fun(v:Nat)=>.int (v:Int)) (b:=fun _=>true) (r:=fun v=>.d (dF (lW n m s v))) (y:=fun v=>dF (lW n m s v)) (u:=fun(v:Nat)=>[some (.d (.int (v:Int)))]) (Nb n)
    (by
      have:=cJ (fs:=aa (ac 3) ai) (e:=F (some (.d (.dict (M1.map pD)))) (some (.d (.dict (M2.map pD))))) (e1:=F (some (.d (.dict (M1.map pD)))) (some (.d (.dict (M2.map pD))))) (n:=(n:Int)) rfl ↥0 ↥0
      unfold dU
      rw [this]
      unfold bM
      rw [OF]
      simp only [Int.zero_add]) ∅ ∅ ∅ (fun v hv=>by
      refine⟨fun t ht=>?_,rfl,rfl,fun _=>⟨?_,rfl⟩⟩
      · match t,ht with
        | [t1],_=>rfl
      · unfold dS
        rw [qN (m:=M1) (k:=(v:Int)) (z:=(0,1)) rfl rfl rfl,eL v]
        rfl) ↥7
  rw [OC.mpr ↥4] at hw1
  have hw2:=bP (cp:=[(12,"prices")]) (nT:=1) (fi:=fy) (g:=af 1) (ft:=aZ) (fe:=dR) (e:=F (some (.d (.dict (M1.map pD)))) (some (.d (.dict (M2.map pD))))) (e1:=F (some (.d (.dict (M1.map pD)))) (some (.d (.dict (M2.map pD))))) (own:=[]) (cs:=[some (.d (.dict (M2.map pD)))])
    (item:=fun(v:Nat)=>.int ((n:Int)+(v:Int))) (b:=fun _=>true) (r:=fun v=>.d (dF (jV n m s (n+v)))) (y:=fun v=>dF (jV n m s (n+v))) (u:=fun(v:Nat)=>[some (.d (.int ((n:Int)+(v:Int))))]) (Nb m)
    (by
      subst hR
      have rb:∀k:Nat,k≤2000→oW (k:Int)=true:=fun k hk=>by unfold oW;simp;lia
      show(if (oW (n:Int)&&oW ((n:Int)+(rws.length:Int)))=true then some (bM (n:Int) ((n:Int)+(rws.length:Int) - (n:Int)).toNat,_,_) else none)=_
      rw [hrl,if_pos,show((n:Int)+(m:Int) - (n:Int)).toNat=m by lia]
      · rfl
      · rw [rb n ↥0,show(n:Int)+(m:Int)=((n+m:Nat):Int) by lia,rb _ ↥0];rfl) ∅ ∅ ∅ (fun v hv=>by
      refine⟨fun t ht=>?_,rfl,rfl,fun _=>⟨?_,rfl⟩⟩
      · match t,ht with
        | [t1],_=>rfl
      · unfold dR
        rw [qN (m:=M2) (k:=(n:Int)+(v:Int)) (z:=(0,1)) rfl rfl rfl,show(n:Int)+(v:Int)=((n+v:Nat):Int) by lia,eP (n+v)]
        rfl) ↥7
  rw [OC.mpr ↥4] at hw2
  have h1:aF 11 (eH [(7,"bottom")] 2 dW (aV (ao (af 1) (ao (af 2) aS))) 1 cT) (F none none)=some (.nx (F (some (.d (.dict (M1.map pD)))) none)):=by
    unfold aF
    rw [hv1]
    rfl
  have h2:aF 12 (eH [(7,"bottom")] 2 cU (aV (ao (af 1) (ao (af 2) aS))) 1 cS) (F (some (.d (.dict (M1.map pD)))) none)=some (.nx (F (some (.d (.dict (M1.map pD)))) (some (.d (.dict (M2.map pD)))))):=by
    unfold aF
    rw [hv2]
    rfl
  have h3:∀(V1 V2:FE) (L1 L2:List MY) (E:En),V1 E=some (.l L1,E)→V2 E=some (.l L2,E)→bN (bI (aa (aJ (g1 cZ) (aa V1 ai)) (aa (aJ (g1 cZ) (aa V2 ai)) ai))) E=some (.rt (.d (.tuple [.tuple L1,.tuple L2])) E):=fun V1 V2 L1 L2 E q1 q2=>by
    simp? [q1,q2]
  refine⟨[some (.d (.int (n:Int))),some (.d (bw n m s)),some (.l (bg n s)),some (.l (aQ m s)),some (.d (.int s.d)),some (.d .none),v9,v10,some (.d (.dict (M1.map pD))),some (.d (.dict (M2.map pD)))],?_⟩
  rw [az h1,az h2,h3 _ _ _ _ _ hw1 hw2]
  rfl
theorem pX{n m B:Nat}{g:Nat→Int}{A:Nat→Nat→Int}{b:Nat→Int}{U:Rat}(hb:∀i,i < m→0≤b i)(hB:∀v i,(jI n m g A b v i).natAbs≤B)(hs:wu (m+1)*B ^ (m+1) < 2 ^ 1900)(hm:m≤1000)(hn:n≤900)(hU:∀x,nA n m (jI n m g A b) x→(∀v,v < n+m→0≤x v)→x (n+m)≤U):
    ∃s,Iv n m (jI n m g A b) s∧(∀j,j < n→0≤s.T m j)∧cc [.l (ap g n),.d (.list (bY m n A)),.d (.list (ap b m))]=some (.d (.tuple [.tuple ((Nb n).map fun v=>dF (lW n m s v)),.tuple ((Nb m).map fun i=>dF (jV n m s (n+i)))]),[.l (ap g n),.d (.list (bY m n A)),.d (.list (ap b m))]):=by
  obtain⟨e0,h0,k0⟩:=yW (g:=g) (A:=A) (b:=b) hb hm hn
  obtain⟨s,v9,v10,I,hz,h1⟩:=BP hB hs hm ↥0 hU h0
  obtain⟨e',h2⟩:=Ew (G:=some (.l (ap g n))) (R:=some (.d (.list (bY m n A)))) (Lm:=some (.d (.list (ap b m)))) (v9:=v9) (v10:=v10) I (I.sml hB hs) hm hn rfl (by simp [bY])
  refine⟨s,I,hz,?_⟩
  have hbb:gW [some (.l (ap g n)),some (.d (.list (bY m n A))),some (.d (.list (ap b m))),none,none,none,none,none,none,none,none,none,none]=some (.rt (.d (.tuple [.tuple ((Nb n).map fun v=>dF (lW n m s v)),.tuple ((Nb m).map fun i=>dF (jV n m s (n+i)))])) ([some (.l (ap g n)),some (.d (.list (bY m n A))),some (.d (.list (ap b m)))]++e')):=by
    unfold gW
    rw [k0,az h1,h2]
  generalize (Nb n).map (fun v=>dF (lW n m s v))=L1 at*
  generalize (Nb m).map (fun i=>dF (jV n m s (n+i)))=L2 at*
  generalize ap g n=GG at*
  generalize bY m n A=AA at*
  generalize ap b m=BB at*
  simp? [cc,hbb]
theorem nu{W:bZ}:W.ties.map av=(Nb W.ties.length).map fun j=>av (tj W j):=by
  conv=>lhs;rw [←uF (W:=W),Os]
  rfl
theorem yA{W:bZ}(ok:W.Ok):eh [.d (aB W)]=some (.l (bY (wM W) W.ties.length (jU W)),[.d (aB W)]):=by
  have t0:=ok.t0;have t1:=ok.t1;have wl:=ok.len
  have eT:(wT W:Int)=W.things:=by unfold wT;lia
  have tl:wT W≤12:=by lia
  let n:=W.ties.length
  let TT:MY:=.tuple ((Nb n).map fun j=>av (tj W j))
  let E (k b a o:Option Sv):En:=[some (.d (aB W)),some (.d (.int W.things)),some (.d TT),k,b,a,o]
  have h1:g_ (pZ (ac 0) eI (dO (vC (.int 2)))) (aV (ao (af 1) (ao (af 2) aS))) [some (.d (aB W)),none,none,none,none,none,none]=some (.nx (E none none none none)):=by
    show _=some (Fl.nx [some (.d (aB W)),some (.d (.int W.things)),some (.d (.tuple ((Nb n).map fun j=>av (tj W j)))),none,none,none,none])
    rw [←nu,bX]
    generalize W.ties.map av=TZ at*
    generalize W.pat.map PyData.int=PZ at*
    simp? [Np]
  have rg:∀(e:En),e[1]?=some (some (.d (.int W.things)))→cI (aa (ac 1) ai) e=some ((Nb (wT W)).map (fun(k:Nat)=>PyData.int (k:Int)),[],e):=fun e he=>by
    have:=cJ (fs:=aa (ac 1) ai) (e:=e) (e1:=e) (n:=W.things) (by simp [aa,ac,he,ai]) ↥0 ↥0
    rw [this]
    unfold bM wT
    simp only [Int.zero_add]
  have inr:∀(k:Nat) (j:Nat) (e:En),B1 false e (.d (.int (k:Int))) (.d (.tuple [.int (tj W j).one,.int (tj W j).other]))=some (.d (.bool (gq (k:Int) (tj W j)))):=fun k j e=>by rw [m9];rfl
  have hk:=bP (cp:=[(2,"ties")]) (nT:=1) (fi:=iM) (g:=af 1) (ft:=aZ) (fe:=iK) (e:=E none none none none) (e1:=E none none none none) (own:=[]) (cs:=[some (.d TT)]) (item:=fun(k:Nat)=>.int (k:Int)) (b:=fun _=>true)
    (r:=fun k=>.l (ap (fun j=>if gq (k:Int) (tj W j)=true then(tj W j).top else 0) n)) (y:=fun k=>.list (ap (fun j=>if gq (k:Int) (tj W j)=true then(tj W j).top else 0) n)) (u:=fun(k:Nat)=>[some (.d (.int (k:Int)))]) (Nb (wT W)) (rg _ rfl) ∅ ∅ ∅ (fun k hk=>by
      refine⟨fun t ht=>?_,rfl,rfl,fun _=>⟨?_,rfl⟩⟩
      · match t,ht with
        | [t1],_=>rfl
      · have hi:=bP (cp:=[(1,"thing")]) (nT:=1) (fi:=kL) (g:=af 1) (ft:=aZ) (fe:=fN) (e:=[some (.d TT),some (.d (.int (k:Int)))]) (e1:=[some (.d TT),some (.d (.int (k:Int)))]) (own:=[]) (cs:=[some (.d (.int (k:Int)))]) (item:=fun j=>av (tj W j)) (b:=fun _=>true)
          (r:=fun j=>.d (.int (if gq (k:Int) (tj W j)=true then(tj W j).top else 0))) (y:=fun j=>.int (if gq (k:Int) (tj W j)=true then(tj W j).top else 0)) (u:=fun j=>[some (.d (av (tj W j)))]) (Nb n) (oo rfl) ∅ ∅ ∅ (fun j hj=>by
            refine⟨fun t ht=>?_,rfl,rfl,fun _=>⟨?_,rfl⟩⟩
            · match t,ht with
              | [t1],_=>rfl
            · have ir:=inr k j
              unfold av
              cases hb:gq (k:Int) (tj W j) with
              | true=>rw [hb] at ir;simp? [fN,ir]
              | false=>rw [hb] at ir;simp? [fN,ir]) ↥7
        rw [OC.mpr ↥4] at hi
        exact hi) ↥7
  rw [OC.mpr ↥4] at hk
  have hb:=fun(x:Option Sv)=>bP (cp:=[(2,"ties")]) (nT:=1) (fi:=jg) (g:=af 1) (ft:=aZ) (fe:=iJ) (e:=E x none none none) (e1:=E x none none none) (own:=[]) (cs:=[some (.d TT)]) (item:=fun(k:Nat)=>.int (k:Int)) (b:=fun _=>true)
    (r:=fun k=>.l (ap (fun j=>if gq (k:Int) (tj W j)=true then(tj W j).bot else 0) n)) (y:=fun k=>.list (ap (fun j=>if gq (k:Int) (tj W j)=true then(tj W j).bot else 0) n)) (u:=fun(k:Nat)=>[some (.d (.int (k:Int)))]) (Nb (wT W)) (rg _ rfl) ∅ ∅ ∅ (fun k hk=>by
      refine⟨fun t ht=>?_,rfl,rfl,fun _=>⟨?_,rfl⟩⟩
      · match t,ht with
        | [t1],_=>rfl
      · have hi:=bP (cp:=[(1,"thing")]) (nT:=1) (fi:=mH) (g:=af 1) (ft:=aZ) (fe:=gJ) (e:=[some (.d TT),some (.d (.int (k:Int)))]) (e1:=[some (.d TT),some (.d (.int (k:Int)))]) (own:=[]) (cs:=[some (.d (.int (k:Int)))]) (item:=fun j=>av (tj W j)) (b:=fun _=>true)
          (r:=fun j=>.d (.int (if gq (k:Int) (tj W j)=true then(tj W j).bot else 0))) (y:=fun j=>.int (if gq (k:Int) (tj W j)=true then(tj W j).bot else 0)) (u:=fun j=>[some (.d (av (tj W j)))]) (Nb n) (oo rfl) ∅ ∅ ∅ (fun j hj=>by
            refine⟨fun t ht=>?_,rfl,rfl,fun _=>⟨?_,rfl⟩⟩
            · match t,ht with
              | [t1],_=>rfl
            · have ir:=inr k j
              unfold av
              cases hb:gq (k:Int) (tj W j) with
              | true=>rw [hb] at ir;simp? [gJ,ir]
              | false=>rw [hb] at ir;simp? [gJ,ir]) ↥7
        rw [OC.mpr ↥4] at hi
        exact hi) ↥7
  have ha:=fun(x y:Option Sv)=>bP (cp:=[]) (nT:=1) (fi:=jf) (g:=af 0) (ft:=aZ) (fe:=gH) (e:=E x y none none) (e1:=E x y none none) (own:=[]) (cs:=[]) (item:=fun j=>av (tj W j)) (b:=fun _=>true)
    (r:=fun j=>.d (.int (tj W j).bot)) (y:=fun j=>.int (tj W j).bot) (u:=fun j=>[some (.d (av (tj W j)))]) (Nb n) (oo rfl) ∅ ∅ ∅ (fun j hj=>by
      refine⟨fun t ht=>?_,rfl,rfl,fun _=>⟨?_,rfl⟩⟩
      · match t,ht with
        | [t1],_=>rfl
      · unfold av
        simp? [gH]) ↥7
  let AK:List MY:=ap (fun j=>(tj W j).bot) n
  have ho:=fun(x y:Option Sv)=>bP (cp:=[(5,"asking")]) (nT:=1) (fi:=gM) (g:=af 1) (ft:=aZ) (fe:=jd) (e:=E x y (some (.d (.list AK))) none) (e1:=E x y (some (.d (.list AK))) none) (own:=[]) (cs:=[some (.d (.list AK))]) (item:=fun(k:Nat)=>.int (k:Int)) (b:=fun _=>true)
    (r:=fun k=>.l (ap (fun j=>if j=k then(tj W j).bot else 0) n)) (y:=fun k=>.list (ap (fun j=>if j=k then(tj W j).bot else 0) n)) (u:=fun(k:Nat)=>[some (.d (.int (k:Int)))]) (Nb n) (by
      have:=cJ (fs:=aa (aJ (g1 cY) (aa (ac 2) ai)) ai) (e:=E x y (some (.d (.list AK))) none) (e1:=E x y (some (.d (.list AK))) none) (n:=(n:Int)) (by
        have gl:∀e:En,g1 cY e [.d TT]=some (.d (.int (n:Int))):=fun e=>by
          show some (Rv.d (.int ((((Nb n).map fun j=>av (tj W j)).length:Nat):Int)))=_
          simp
        have fin:∀(E0:En),E0[2]?=some (some (.d TT))→aa (aJ (g1 cY) (aa (ac 2) ai)) ai E0=some ([.d (.int (n:Int))],E0):=fun E0 h0=>by
          simp only [aa,aJ,ac,ai,h0,NI,Ov,gl]
        exact fin _ rfl) ↥0 ↥0
      unfold gM
      rw [this]
      unfold bM
      rw [OF]
      simp only [Int.zero_add]) ∅ ∅ ∅ (fun k hk=>by
      refine⟨fun t ht=>?_,rfl,rfl,fun _=>⟨?_,rfl⟩⟩
      · match t,ht with
        | [t1],_=>rfl
      · have hi:=bP (cp:=[(1,"place")]) (nT:=2) (fi:=mG) (g:=aV (ao (af 1) (ao (af 2) aS))) (ft:=aZ) (fe:=gG) (e:=[some (.d (.list AK)),some (.d (.int (k:Int)))]) (e1:=[some (.d (.list AK)),some (.d (.int (k:Int)))]) (own:=[]) (cs:=[some (.d (.int (k:Int)))]) (item:=fun j=>.tuple [.int (j:Int),.int (tj W j).bot]) (b:=fun _=>true)
          (r:=fun j=>.d (.int (if j=k then(tj W j).bot else 0))) (y:=fun j=>.int (if j=k then(tj W j).bot else 0)) (u:=fun j=>[some (.d (.int (j:Int))),some (.d (.int (tj W j).bot))]) (Nb n) (by
            have e:=lQ (f:=fun j=>PyData.int (tj W j).bot) (n:=n)
            show some (gK 0 (ap (fun j=>(tj W j).bot) n),_,_)=_
            unfold ap
            rw [e]) ∅ ∅ ∅ (fun j hj=>by
            refine⟨fun t ht=>?_,rfl,rfl,fun _=>⟨?_,rfl⟩⟩
            · match t,ht with
              | [t1,t2],_=>rfl
            · by_cases e:j=k
              · subst e;simp? [gG]
              · have e2:¬(j:Int)=(k:Int):=by lia
                simp? [gG,e,e2]) ↥7
        rw [OC.mpr ↥4] at hi
        exact hi) ↥7
  let KK:List MY:=(Nb (wT W)).map fun(k:Nat)=>.list (ap (fun j=>if gq (k:Int) (tj W j)=true then(tj W j).top else 0) n)
  let BB:List MY:=(Nb (wT W)).map fun(k:Nat)=>.list (ap (fun j=>if gq (k:Int) (tj W j)=true then(tj W j).bot else 0) n)
  let OO:List MY:=(Nb n).map fun k=>.list (ap (fun j=>if j=k then(tj W j).bot else 0) n)
  have h2:aF 3 (bb [(2,"ties")] 1 iM (af 1) aZ iK) (E none none none none)=some (.nx (E (some (.l KK)) none none none)):=by
    unfold aF;rw [hk];rfl
  have h3:aF 4 (bb [(2,"ties")] 1 jg (af 1) aZ iJ) (E (some (.l KK)) none none none)=some (.nx (E (some (.l KK)) (some (.l BB)) none none)):=by
    have:=hb (some (.l KK))
    rw [OC.mpr ↥4] at this
    unfold aF;rw [this];rfl
  have h4:aF 5 (sU (bb [] 1 jf (af 0) aZ gH)) (E (some (.l KK)) (some (.l BB)) none none)=some (.nx (E (some (.l KK)) (some (.l BB)) (some (.d (.list AK))) none)):=by
    have:=ha (some (.l KK)) (some (.l BB))
    rw [OC.mpr ↥4] at this
    unfold aF sU;rw [this];rfl
  have h5:aF 6 (bb [(5,"asking")] 1 gM (af 1) aZ jd) (E (some (.l KK)) (some (.l BB)) (some (.d (.list AK))) none)=some (.nx (E (some (.l KK)) (some (.l BB)) (some (.d (.list AK))) (some (.l OO)))):=by
    have:=ho (some (.l KK)) (some (.l BB))
    rw [OC.mpr ↥4] at this
    unfold aF;rw [this];rfl
  have er:bY (wM W) n (jU W)=KK++BB++[.list AK]++OO:=by
    unfold bY wM
    rw [RO,show 2*wT W+1=wT W+wT W+1 by lia,PJ,RO]
    simp only [Oi,Os,Nx,Oy]
    congr 1
    · congr 1
      · congr 1
        · refine Ou fun k hk=>?_
          have:=NB.mp hk
          congr 1
          unfold ap
          refine Ou fun j _=>?_
          unfold jU;rw [if_pos this]
        · refine Ou fun k hk=>?_
          have:=NB.mp hk
          show PyData.list (ap (jU W (wT W+k)) n)=_
          congr 1
          unfold ap
          refine Ou fun j _=>?_
          unfold jU;rw [if_neg ↥0,if_pos ↥0,show wT W+k - wT W=k by lia]
      · congr 2
        unfold ap
        refine Ou fun j _=>?_
        unfold jU;rw [if_neg ↥0,if_neg ↥0,if_pos ↥0]
    · refine Ou fun k hk=>?_
      show PyData.list (ap (jU W (wT W+wT W+1+k)) n)=_
      congr 1
      unfold ap
      refine Ou fun j _=>?_
      unfold jU;rw [if_neg ↥0,if_neg ↥0,if_neg ↥0,show wT W+wT W+1+k - (2*wT W+1)=k by lia]
  have lK:KK.length≤12:=by simp [KK];lia
  have lB:BB.length≤12:=by simp [BB];lia
  have lO:OO.length≤16:=by simp [OO,n];lia
  have h6:bN (aq aO (aq aO (aq aO (ac 3) (ac 4)) (cC (aa (ac 5) ai))) (ac 6)) (E (some (.l KK)) (some (.l BB)) (some (.d (.list AK))) (some (.l OO)))=some (.rt (.l (KK++BB++[.list AK]++OO)) (E (some (.l KK)) (some (.l BB)) (some (.d (.list AK))) (some (.l OO)))):=by
    show bN _ [some (.d (aB W)),some (.d (.int W.things)),some (.d TT),some (.l KK),some (.l BB),some (.d (.list AK)),some (.l OO)]=some (.rt (.l (KK++BB++[.list AK]++OO)) [some (.d (aB W)),some (.d (.int W.things)),some (.d TT),some (.l KK),some (.l BB),some (.d (.list AK)),some (.l OO)])
    generalize aB W=WW at*
    generalize TT=T2 at*
    generalize KK=K2 at*
    generalize BB=B2 at*
    generalize AK=A2 at*
    generalize OO=O2 at*
    have c1:aO [some (.d WW),some (.d (.int W.things)),some (.d T2),some (.l K2),some (.l B2),some (.d (.list A2)),some (.l O2)] (.s 3) (.s 4)=some (.l (K2++B2)):=by
      show(if K2.length+B2.length≤1000000 then some (Rv.l (K2++B2)) else none)=_
      rw [if_pos ↥0]
    have c2:∀(e:En) (x:MY),aO e (.l (K2++B2)) (.l [x])=some (.l (K2++B2++[x])):=fun e x=>iL ↥7
    have c3:∀(x:MY),aO [some (.d WW),some (.d (.int W.things)),some (.d T2),some (.l K2),some (.l B2),some (.d (.list A2)),some (.l O2)] (.l (K2++B2++[x])) (.s 6)=some (.l (K2++B2++[x]++O2)):=fun x=>by
      show(if (K2++B2++[x]).length+O2.length≤1000000 then some (Rv.l (K2++B2++[x]++O2)) else none)=_
      rw [if_pos ↥7]
    generalize K2++B2=KB at*
    simp? [c1,c2,c3]
  have hbb:jx [some (.d (aB W)),none,none,none,none,none,none]=some (.rt (.l (bY (wM W) n (jU W))) (E (some (.l KK)) (some (.l BB)) (some (.d (.list AK))) (some (.l OO)))):=by
    unfold jx
    rw [az h1,az h2,az h3,az h4,az h5,h6,er]
  have hbb':jx [some (.d (aB W)),none,none,none,none,none,none]=some (.rt (.l (bY (wM W) n (jU W))) [some (.d (aB W)),some (.d (.int W.things)),some (.d TT),some (.l KK),some (.l BB),some (.d (.list AK)),some (.l OO)]):=hbb
  show eh [.d (aB W)]=some (.l (bY (wM W) n (jU W)),[.d (aB W)])
  generalize bY (wM W) n (jU W)=RR at*
  generalize aB W=WW at*
  generalize TT=T2 at*
  generalize KK=K2 at*
  generalize BB=B2 at*
  generalize AK=A2 at*
  generalize OO=O2 at*
  simp? [eh,hbb']
theorem uE{W:bZ}(ok:W.Ok):eg [.d (aB W)]=some (.l (ap (kO W) (wM W)),[.d (aB W)]):=by
  have t0:=ok.t0;have t1:=ok.t1;have wl:=ok.len;have pl:=ok.pl
  have eT:(wT W:Int)=W.things:=by unfold wT;lia
  have er:ap (kO W) (wM W)=Np (wT W) (.int 1)++W.pat.map .int++[.int W.asks]++Np W.ties.length (.int 1):=by
    unfold ap wM
    rw [RO,show 2*wT W+1=wT W+wT W+1 by lia,PJ,RO]
    simp only [Oi,Os,Nx,Oy]
    congr 1
    · congr 1
      · congr 1
        · rw [List.eq_replicate_iff]
          refine⟨by simp,fun x hx=>?_⟩
          obtain⟨k,hk,rfl⟩:=MT hx
          have:=NB.mp hk
          unfold kO;rw [if_pos this]
        · refine Ot fun k=>?_
          rw [NH,NH]
          by_cases h:k < wT W
          · rw [QO h,Ov,NL (show k < W.pat.length by lia),Ov]
            show some (PyData.int (kO W (wT W+k)))=_
            unfold kO;rw [if_neg ↥0,if_pos ↥0,show wT W+k - wT W=k by lia]
            simp [show k < W.pat.length by lia]
          · rw [Qx ↥7,Qx ↥0];rfl
      · congr 2
        unfold kO;rw [if_neg ↥0,if_neg ↥0,if_pos ↥0]
    · rw [List.eq_replicate_iff]
      refine⟨by simp,fun x hx=>?_⟩
      obtain⟨k,hk,rfl⟩:=MT hx
      show PyData.int (kO W (wT W+wT W+1+k))=_
      unfold kO;rw [if_neg ↥0,if_neg ↥0,if_neg ↥0]
  have gm:∀(e:En) (k:Nat),k≤100→bJ e (.l [.int 1]) (.d (.int (k:Int)))=some (.l (Np k (.int 1))):=fun e k hk=>by
    show(if -100000≤(k:Int)∧(k:Int)≤100000∧([PyData.int 1].length)*(k:Int).toNat≤1000000 then some (Rv.l (Np (k:Int).toNat [PyData.int 1]).flatten) else none)=_
    rw [if_pos ⟨by lia,by lia,by simp;lia⟩,OF]
    simp
  have g1':=fun e=>gm e (wT W) ↥0
  rw [eT] at g1'
  have g2':=fun e=>gm e W.ties.length ↥0
  have gl:∀e:En,g1 cY e [.d (.tuple (W.ties.map av))]=some (.d (.int (W.ties.length:Int))):=fun e=>by
    show some (Rv.d (.int ((W.ties.map av).length:Int)))=_
    rw [Nw]
  have gp:∀e:En,g1 je e [.d (.tuple (W.pat.map .int))]=some (.l (W.pat.map .int)):=fun e=>rfl
  have l2:(W.pat.map PyData.int).length≤12:=by rw [Nw];lia
  have c1:∀e:En,aO e (.l (Np (wT W) (.int 1))) (.l (W.pat.map .int))=some (.l (Np (wT W) (.int 1)++W.pat.map .int)):=fun e=>iL (by rw [Qi];lia)
  have c2:∀e:En,aO e (.l (Np (wT W) (.int 1)++W.pat.map .int)) (.l [.int W.asks])=some (.l (Np (wT W) (.int 1)++W.pat.map .int++[.int W.asks])):=fun e=>iL (by rw [Ox,Qi];simp at*;lia)
  have c3:∀e:En,aO e (.l (Np (wT W) (.int 1)++W.pat.map .int++[.int W.asks])) (.l (Np W.ties.length (.int 1)))=some (.l (Np (wT W) (.int 1)++W.pat.map .int++[.int W.asks]++Np W.ties.length (.int 1))):=fun e=>iL (by rw [Ox,Ox,Qi,Qi];simp at*;lia)
  rw [er,bX]
  generalize Np (wT W) (PyData.int 1)=R1 at*
  generalize Np W.ties.length (PyData.int 1)=R2 at*
  generalize W.ties.map av=TZ at*
  generalize W.pat.map PyData.int=PZ at*
  generalize R1++PZ=RP at*
  generalize RP++[.int W.asks]=RQ at*
  simp only [eg,my,iY]
  simp? [g1',g2',gl,gp,c1,c2,c3, -Np, -List.append_assoc]
theorem Dq{n:Nat}{d:Int}{k:Nat→Int}(hn:n≤1000)(hd:0 < d)(hk:∀j,j < n→0≤k j)(b1:Bt 1100 d)(b2:Bt 1100 (sm k n)):kS [.d (.list ((Nb n).map fun j=>dF (lowM (k j) d)))]=some (.d (dF (lowM (sm k n) d)),[.d (.list ((Nb n).map fun j=>dF (lowM (k j) d)))]):=by
  have mono:∀i,i≤n→0≤sm k i∧sm k i≤sm k n:=by
    intro i hi
    refine⟨Bl fun j hj=>hk j ↥0,?_⟩
    obtain⟨r,rfl⟩:∃r,n=i+r:=⟨n - i,by lia⟩
    clear b2 hn
    induction r with
    | zero=>exact Px _
    | succ r ih=>
      have:=ih (fun j hj=>hk j ↥0) ↥0
      rw [show i+(r+1)=i+r+1 by lia,sm]
      have:=hk (i+r) ↥0
      lia
  have bt:∀i,i≤n→Bt 1100 (sm k i):=fun i hi=>by
    have:=mono i hi
    unfold Bt at*
    lia
  let N:Option Sv:=some (.d (.list ((Nb n).map fun j=>dF (lowM (k j) d))))
  obtain⟨e',h1,v2,he⟩:=dc (own:=[]) (g:=af 2) (f:=ia) (fun i e=>∃v2,e=[N,some (.d (dF (lowM (sm k i) d))),v2]) ((Nb n).map fun j=>dF (lowM (k j) d)) 0 [N,some (.d (dF (lowM (sm k 0) d))),none] (fun i x e hx ⟨v2,he⟩=>by
    subst he
    rw [PK] at*
    rw [NH] at hx
    obtain⟨j,hj,rfl⟩:=MQ hx
    obtain⟨z1,z2⟩:=MR hj
    rw [SE] at z2
    subst z2
    rw [PF] at z1
    have m1:=mono i ↥0
    have m2:=mono (i+1) ↥0
    rw [sm] at m2
    obtain⟨p1,p2,p3,p4⟩:=lX hd m1.1 (bt i ↥0) b1
    obtain⟨q1,q2,q3,q4⟩:=lX (n:=1100) hd (hk i z1) (by have:=bt (i+1) ↥0;unfold Bt at*;rw [sm] at this;have:=hk i z1;lia) b1
    have tp:=Gh (n:=1100) p3 q3 p1 p2 q1 q2 ⋯
    rw [Fu hd,show sm k i+k i=sm k (i+1) from rfl] at tp
    refine⟨[N,some (.d (dF (lowM (sm k i) d))),some (.d (dF (lowM (k i) d)))],[N,some (.d (dF (lowM (sm k (i+1)) d))),some (.d (dF (lowM (k i) d)))],rfl,?_,dm,_,rfl⟩
    generalize dF (lowM (sm k i) d)=A at*
    generalize dF (lowM (sm k (i+1)) d)=B at*
    generalize dF (lowM (k i) d)=C at*
    generalize N=NN at*
    simp? [ia,tp]) ⟨none,rfl⟩
  rw [PK,Nw,PF] at he
  subst he
  have hs:∀Wl,eV Wl jH (af 2) ia [N,some (.d (.tuple [.int 0,.int 1])),none]=some (.nx [N,some (.d (dF (lowM (sm k n) d))),v2]):=fun Wl=>by
    rw [fR (show jH [N,some (.d (.tuple [.int 0,.int 1])),none]=some ((Nb n).map (fun j=>dF (lowM (k j) d)),[],[N,some (.d (.tuple [.int 0,.int 1])),none]) from wB rfl)]
    rw [show(PyData.tuple [.int 0,.int 1])=dF (lowM (sm k 0) d) by rw [show sm k 0=0 from rfl,tW hd];rfl]
    exact h1
  have hs':∀Wl,eV Wl jH (af 2) ia [some (.d (.list ((Nb n).map fun j=>dF (lowM (k j) d)))),some (.d (.tuple [.int 0,.int 1])),none]=some (.nx [some (.d (.list ((Nb n).map fun j=>dF (lowM (k j) d)))),some (.d (dF (lowM (sm k n) d))),v2]):=hs
  generalize (Nb n).map (fun j=>dF (lowM (k j) d))=LL at*
  generalize dF (lowM (sm k n) d)=VV at*
  simp? [kS,wd,hs']
theorem Kd{W:bZ}(e:En):a8 e (.d (aB W)) (.d (.int 0))=some (.d (.int W.things)):=by rw [bX,mC,nF];rfl
theorem JS{W:bZ}(e:En):a8 e (.d (aB W)) (.d (.int 1))=some (.d (.tuple (W.ties.map av))):=by rw [bX,mC,qT];rfl
theorem Ke{W:bZ}(e:En):a8 e (.d (aB W)) (.d (.int 2))=some (.d (.tuple (W.pat.map .int))):=by rw [bX,mC,qU];rfl
theorem Kf{W:bZ}(e:En):a8 e (.d (aB W)) (.d (.int 3))=some (.d (.int W.asks)):=by rw [bX,mC,qV];rfl
theorem yy{n:Int}{t:hJ}(tk:t.Ok n):ip [.d (av t)]=some (.d (dF (lowM (t.top*t.worth) t.bot)),[.d (av t)]):=by
  have h1:=tk.c0;have h2:=tk.c1;have h3:=tk.b0;have h4:=tk.b1;have h5:=tk.w0;have h6:=tk.w1
  have tt:=sR (a:=(t.top,t.bot)) (b:=(t.worth,1)) (n:=64) (by show 0 < t.bot;lia) Rl (by unfold Bt;show t.top.natAbs < _;lia) (by unfold Bt;show t.bot.natAbs < _;lia) (by unfold Bt;show t.worth.natAbs < _;lia) (show Bt 64 1 by unfold Bt;decide) ⋯
  rw [Ce ↥0] at tt
  unfold av
  rw [show dF (t.top,t.bot)=.tuple [.int t.top,.int t.bot] from rfl,show dF (t.worth,1)=.tuple [.int t.worth,.int 1] from rfl] at tt
  generalize dF (lowM (t.top*t.worth) t.bot)=VV at*
  simp? [ip,p8,tt]
theorem pB{W:bZ}(ok:W.Ok){d:Int}{l:Nat→Int}(hd:0 < d)(hl:∀j,j < W.ties.length→0≤l j)(b1:Bt 1000 d)(b2:∀j,j < W.ties.length→Bt 1000 (l j)):
    bG [.d (aB W),.d (.tuple ((Nb W.ties.length).map fun j=>dF (lowM (l j*(tj W j).bot) d)))]=some (.d (dF (lowM (sm (fun j=>l j*io W j) W.ties.length) d)),[.d (aB W),.d (.tuple ((Nb W.ties.length).map fun j=>dF (lowM (l j*(tj W j).bot) d)))]):=by
  have wl:=ok.len
  let S:List MY:=(Nb W.ties.length).map fun j=>dF (lowM (l j*(tj W j).bot) d)
  have gp:∀j,j < W.ties.length→0≤io W j∧io W j≤100000:=fun j hj=>by
    have tk:=ok.ties _ (jt hj)
    have h1:=tk.c0;have h2:=tk.c1;have h4:=tk.b1;have h5:=tk.w0;have h6:=tk.w1
    unfold io
    refine⟨PH h1 h5,?_⟩
    have:(tj W j).top*(tj W j).worth≤100*1000:=Int.mul_le_mul ↥0 h6 h5 ↥0
    lia
  have hv:=bP (cp:=[]) (nT:=2) (fi:=eM) (g:=aV (ao (af 0) (ao (af 1) aS))) (ft:=aZ) (fe:=cu) (e:=[some (.d (aB W)),some (.d (.tuple S))]) (e1:=[some (.d (aB W)),some (.d (.tuple S))]) (own:=[]) (cs:=[])
    (item:=fun j=>.tuple [dF (lowM (l j*(tj W j).bot) d),av (tj W j)]) (b:=fun _=>true) (r:=fun j=>.d (dF (lowM (l j*io W j) d))) (y:=fun j=>dF (lowM (l j*io W j) d)) (u:=fun j=>[some (.d (dF (lowM (l j*(tj W j).bot) d))),some (.d (av (tj W j)))]) (Nb W.ties.length)
    (by
      have z:=jv (f:=fun j=>dF (lowM (l j*(tj W j).bot) d)) (h:=fun j=>av (tj W j)) (Nb W.ties.length)
      show some (fF S (W.ties.map av),_,_)=_
      rw [nu]
      show some (fF ((Nb W.ties.length).map fun j=>dF (lowM (l j*(tj W j).bot) d)) _,_,_)=_
      rw [z]) ∅ ∅ ∅ (fun j hj=>by
      have jl:=NB.mp hj
      have tk:=ok.ties _ (jt jl)
      refine⟨fun t ht=>?_,rfl,rfl,fun _=>⟨?_,rfl⟩⟩
      · match t,ht with
        | [t1,t2],_=>rfl
      · have tg:=yy tk
        have q0:=tk.b0;have q1:=tk.b1;have gg:=gp j jl
        have l0:=hl j jl
        obtain⟨p1,p2,p3,p4⟩:=lX (n:=1100) (t:=l j*(tj W j).bot) hd (PH l0 ↥0) (((b2 j jl).mul (show Bt 64 (tj W j).bot by unfold Bt;lia)).mono ⋯) (b1.mono ⋯)
        obtain⟨s1,s2,s3,s4⟩:=lX (n:=1100) (t:=(tj W j).top*(tj W j).worth) (b:=(tj W j).bot) ↥0 gg.1 (Bt.mono (m:=64) (by unfold Bt;show(io W j).natAbs < _;lia) ⋯) (Bt.mono (m:=64) (by unfold Bt;lia) ⋯)
        have tt:=sR (n:=1100) p3 s3 p1 p2 s1 s2 ⋯
        rw [Dp hd ↥0] at tt
        show cu [some (.d (dF (lowM (l j*(tj W j).bot) d))),some (.d (av (tj W j)))]=some (.d (dF (lowM (l j*((tj W j).top*(tj W j).worth)) d)),[some (.d (dF (lowM (l j*(tj W j).bot) d))),some (.d (av (tj W j)))])
        generalize dF (lowM (l j*((tj W j).top*(tj W j).worth)) d)=V1 at*
        generalize dF (lowM ((tj W j).top*(tj W j).worth) (tj W j).bot)=V2 at*
        generalize dF (lowM (l j*(tj W j).bot) d)=V3 at*
        generalize av (tj W j)=V4 at*
        simp? [cu,tg,tt,bR]) ↥7
  rw [OC.mpr ↥4] at hv
  have k0:∀j,j < W.ties.length→0≤l j*io W j:=fun j hj=>PH (hl j hj) (gp j hj).1
  have bs:Bt 1100 (sm (fun j=>l j*io W j) W.ties.length):=by
    have a:=vM (f:=fun j=>l j*io W j) (n:=W.ties.length) (B:=2 ^ 1000*100000) fun j hj=>by
      rw [Qq]
      have h1:=b2 j hj
      have h2:=gp j hj
      unfold Bt at h1
      exact Nat.mul_le_mul (Qz h1) ↥0
    unfold Bt
    refine Pb a (Pb (Sb _ wl) ?_)
    decide
  have tt:=Dq (n:=W.ties.length) (d:=d) (k:=fun j=>l j*io W j) ↥0 hd k0 (b1.mono ⋯) bs
  have hb:f9 [some (.d (aB W)),some (.d (.tuple S))]=some (.rt (.d (dF (lowM (sm (fun j=>l j*io W j) W.ties.length) d))) [some (.d (aB W)),some (.d (.tuple S))]):=by
    generalize (Nb W.ties.length).map (fun j=>dF (lowM (l j*io W j) d))=LL at*
    generalize dF (lowM (sm (fun j=>l j*io W j) W.ties.length) d)=VV at*
    generalize S=S2 at*
    generalize aB W=WW at*
    unfold f9
    generalize bb [] 2 eM (aV (ao (af 0) (ao (af 1) aS))) aZ cu=VC at*
    simp? [hv,tt,bR]
  show bG [.d (aB W),.d (.tuple S)]=some (.d (dF (lowM (sm (fun j=>l j*io W j) W.ties.length) d)),[.d (aB W),.d (.tuple S)])
  generalize dF (lowM (sm (fun j=>l j*io W j) W.ties.length) d)=VV at*
  generalize S=S2 at*
  generalize aB W=WW at*
  simp? [bG,hb]
theorem Dj{W:bZ}(ok:W.Ok)(h10:W.ties.length≤10)(hw:wM W≤40):∃(s:Tb) (pr:MY),Iv W.ties.length (wM W) (jI W.ties.length (wM W) (io W) (jU W) (kO W)) s∧(∀j,j < W.ties.length→0≤s.T (wM W) j)∧
    cE [.d (aB W),.d (.tuple ((Nb (wM W)).map fun i=>dF (jV W.ties.length (wM W) s (W.ties.length+i))))]=some (.d pr,[.d (aB W),.d (.tuple ((Nb (wM W)).map fun i=>dF (jV W.ties.length (wM W) s (W.ties.length+i))))])∧
    dr [.d (aB W)]=some (.d (.tuple [dF (lowM (s.T (wM W) W.ties.length) s.d),.tuple ((Nb W.ties.length).map fun j=>dF (lowM (kj W.ties.length (wM W) s j*(tj W j).bot) s.d)),pr]),[.d (aB W)])∧
    pM W ((s.T (wM W) W.ties.length:Rat) / (s.d:Rat))∧0≤s.T (wM W) W.ties.length∧Bt 1100 (s.T (wM W) W.ties.length)∧Bt 1100 s.d:=by
  have wl:=ok.len;have t0:=ok.t0;have t1:=ok.t1
  have eT:(wT W:Int)=W.things:=by unfold wT;lia
  have hsm:=xQ hw
  have hs19:wu (wM W+1)*100000 ^ (wM W+1) < 2 ^ 1900:=NV hsm (Ru ⋯ ⋯)
  obtain⟨s,I,hz,tb⟩:=pX (n:=W.ties.length) (m:=wM W) (B:=100000) (g:=io W) (A:=jU W) (b:=kO W) (U:=sq (fun j=>(io W j:Rat)) W.ties.length) (fun i _=>EU ok i) (Af ok) hs19 ↥0 ↥0 (fun x o x0=>by
    obtain⟨f1,f2⟩:=ww o x0
    rw [←f2]
    exact Io ok f1)
  obtain⟨sd,stt⟩:=I.small (Af ok)
  obtain⟨X,x1,x2,x3,x4,x5⟩:=I.max hz
  have dB:Bt 1000 s.d:=Pb sd hsm
  have lB:∀j,j < W.ties.length→0≤kj W.ties.length (wM W) s j∧Bt 1000 (kj W.ties.length (wM W) s j):=fun j hj=>by
    obtain⟨_,h2,h3⟩:=Ag I hj x4 x5
    refine⟨h2,?_⟩
    rcases h3 with h3 | ⟨i,hi,h3⟩
    · rw [h3];unfold Bt;decide
    · rw [h3];exact Pb (stt _ ↥8 i ↥0) hsm
  have val:sm (fun j=>kj W.ties.length (wM W) s j*io W j) W.ties.length=s.T (wM W) W.ties.length:=by
    have e1:l4 W.ties.length (io W) X=sq (fun j=>(((kj W.ties.length (wM W) s j*io W j:Int)):Rat)*(1 / (s.d:Rat))+0*(((kj W.ties.length (wM W) s j*io W j:Int)):Rat)) W.ties.length:=bB fun j hj=>by
      rw [(Ag I hj x4 x5).1,OT];grind
    have e2:sq (fun j=>(((kj W.ties.length (wM W) s j*io W j:Int)):Rat)*(1 / (s.d:Rat))+0*(((kj W.ties.length (wM W) s j*io W j:Int)):Rat)) W.ties.length=sq (fun j=>(1 / (s.d:Rat))*(((kj W.ties.length (wM W) s j*io W j:Int)):Rat)+0*(((kj W.ties.length (wM W) s j*io W j:Int)):Rat)) W.ties.length:=bB fun j hj=>by grind
    rw [e2,mj,←xi,x2] at e1
    have dp:=dh I.dp
    have:((sm (fun j=>kj W.ties.length (wM W) s j*io W j) W.ties.length:Int):Rat)=(s.T (wM W) W.ties.length:Rat):=by
      generalize ((sm (fun j=>kj W.ties.length (wM W) s j*io W j) W.ties.length:Int):Rat)=a at*
      generalize (s.T (wM W) W.ties.length:Rat)=c at*
      generalize (s.d:Rat)=z at*
      grind
    exact_mod_cast this
  have gv0:0≤s.T (wM W) W.ties.length:=by
    rw [←val]
    exact Bl fun j hj=>PH (lB j hj).1 (by
      have tk:=ok.ties _ (jt hj)
      exact PH tk.c0 tk.w0)
  have tsw:=pB ok (d:=s.d) (l:=kj W.ties.length (wM W) s) I.dp (fun j hj=>(lB j hj).1) dB (fun j hj=>(lB j hj).2)
  rw [val] at tsw
  have trw:=yA ok
  have tlm:=uE ok
  have pl:((Nb (wM W)).map fun i=>dF (jV W.ties.length (wM W) s (W.ties.length+i))).length=wM W:=by simp
  obtain⟨pr,tap⟩:∃pr,cE [.d (aB W),.d (.tuple ((Nb (wM W)).map fun i=>dF (jV W.ties.length (wM W) s (W.ties.length+i))))]=some (.d pr,[.d (aB W),.d (.tuple ((Nb (wM W)).map fun i=>dF (jV W.ties.length (wM W) s (W.ties.length+i))))]):=by
    have a:=dQ (f:=fun i=>dF (jV W.ties.length (wM W) s (W.ties.length+i))) (n:=wM W) (i:=2*wT W) (by unfold wM;lia)
    have e2:((2*wT W:Nat):Int)=2*W.things:=by lia
    rw [e2] at a
    have g2:∀e:En,bJ e (.d (.int 2)) (.d (.int W.things))=some (.d (.int (2*W.things))):=fun e=>bx (l3 ⋯ ⋯)
    rw [bX]
    generalize (Nb (wM W)).map (fun i=>dF (jV W.ties.length (wM W) s (W.ties.length+i)))=PP at*
    generalize dF (jV W.ties.length (wM W) s (W.ties.length+2*wT W))=AA at*
    generalize W.ties.map av=TZ at*
    generalize W.pat.map PyData.int=PZ at*
    simp? [cE,mx,a,g2]
  refine⟨s,pr,I,hz,tap,?_,Dy ok x1 x2 x3,gv0,(show Bt 1000 _ from Pb (stt _ ↥8 _ ↥8) hsm).mono ⋯,dB.mono ⋯⟩
  let n:=W.ties.length
  let LV:List MY:=(Nb n).map fun v=>dF (lW n (wM W) s v)
  let PC:List MY:=(Nb (wM W)).map fun i=>dF (jV n (wM W) s (n+i))
  let SH:List MY:=(Nb n).map fun j=>dF (lowM (kj n (wM W) s j*(tj W j).bot) s.d)
  have ref:cx [.d (.int (n:Int)),.d (.int 10)]=some (.d .none,[.d (.int (n:Int)),.d (.int 10)]):=by
    have c:¬(10 < (n:Int)):=by show ¬(10 < ((W.ties.length:Nat):Int));lia
    simp? [cx,i9,c]
  have gl:∀e:En,g1 cY e [.d (.tuple (W.ties.map av))]=some (.d (.int (n:Int))):=fun e=>by
    show some (Rv.d (.int ((W.ties.map av).length:Int)))=_
    rw [Nw]
  have g1':=JS (W:=W)
  have hg:=bP (cp:=[]) (nT:=1) (fi:=jG) (g:=af 0) (ft:=aZ) (fe:=jA) (e:=[some (.d (aB W)),none,none,none,none]) (e1:=[some (.d (aB W)),none,none,none,none]) (own:=[]) (cs:=[]) (item:=fun j=>av (tj W j)) (b:=fun _=>true)
    (r:=fun j=>.d (.int (io W j))) (y:=fun j=>.int (io W j)) (u:=fun j=>[some (.d (av (tj W j)))]) (Nb n) (by
      unfold jG
      rw [oo (xs:=W.ties.map av) (e1:=[some (.d (aB W)),none,none,none,none]) (by
        generalize W.ties.map av=TZ at*
        generalize aB W=WW at*
        simp? [g1']),nu]) ∅ ∅ ∅ (fun j hj=>by
      have jl:=NB.mp hj
      have tk:=ok.ties _ (jt jl)
      refine⟨fun t ht=>?_,rfl,rfl,fun _=>⟨?_,rfl⟩⟩
      · match t,ht with
        | [t1],_=>rfl
      · have h1:=tk.c0;have h2:=tk.c1;have h4:=tk.b1
        have gm:∀e:En,bJ e (.d (.int (tj W j).top)) (.d (.int (tj W j).worth))=some (.d (.int (io W j))):=fun e=>bx (l3 ↥0 ↥0)
        unfold av
        simp? [jA,gm]) ↥7
  rw [OC.mpr ↥4] at hg
  let GG:List MY:=ap (io W) n
  have h1:i3 (b_ 2 cx (aa (aJ (g1 cY) (aa (aq a8 (ac 0) (vC (.int 1))) ai)) (aa (vC (.int (10))) ai))) [some (.d (aB W)),none,none,none,none]=some (.nx [some (.d (aB W)),none,none,none,none]):=by
    generalize W.ties.map av=TZ at*
    generalize aB W=WW at*
    simp? [g1',gl,ref,bR]
  have h2:aF 1 (bb [] 1 jG (af 0) aZ jA) [some (.d (aB W)),none,none,none,none]=some (.nx [some (.d (aB W)),some (.l GG),none,none,none]):=by
    unfold aF;rw [hg];rfl
  have h3:g_ (b_ 3 cc (aa (ac 1) (aa (b_ 1 eh (aa (ac 0) ai)) (aa (b_ 1 eg (aa (ac 0) ai)) ai)))) (aV (ao (af 2) (ao (af 3) aS))) [some (.d (aB W)),some (.l GG),none,none,none]=some (.nx [some (.d (aB W)),some (.l GG),some (.d (.tuple LV)),some (.d (.tuple PC)),none]):=by
    have tb':cc [.l GG,.d (.list (bY (wM W) n (jU W))),.d (.list (ap (kO W) (wM W)))]=some (.d (.tuple [.tuple LV,.tuple PC]),[.l GG,.d (.list (bY (wM W) n (jU W))),.d (.list (ap (kO W) (wM W)))]):=tb
    have trw':eh [.d (aB W)]=some (.l (bY (wM W) n (jU W)),[.d (aB W)]):=trw
    generalize bY (wM W) n (jU W)=R1 at*
    generalize ap (kO W) (wM W)=R2 at*
    generalize GG=G2 at*
    generalize LV=L2 at*
    generalize PC=P2 at*
    generalize aB W=WW at*
    have u:gE (dD [.s 1,.l R1,.l R2]) [some (.l G2),some (.d (.list R1)),some (.d (.list R2))] [some (.d WW),some (.l G2),none,none,none]=[some (.d WW),some (.l G2),none,none,none]:=pE rfl rfl
    simp? [tb',trw',tlm,u,bR]
  have hsh:=bP (cp:=[]) (nT:=2) (fi:=jF) (g:=aV (ao (af 0) (ao (af 1) aS))) (ft:=aZ) (fe:=ie) (e:=[some (.d (aB W)),some (.l GG),some (.d (.tuple LV)),some (.d (.tuple PC)),none]) (e1:=[some (.d (aB W)),some (.l GG),some (.d (.tuple LV)),some (.d (.tuple PC)),none]) (own:=[]) (cs:=[])
    (item:=fun j=>.tuple [dF (lW n (wM W) s j),av (tj W j)]) (b:=fun _=>true) (r:=fun j=>.d (dF (lowM (kj n (wM W) s j*(tj W j).bot) s.d))) (y:=fun j=>dF (lowM (kj n (wM W) s j*(tj W j).bot) s.d)) (u:=fun j=>[some (.d (dF (lW n (wM W) s j))),some (.d (av (tj W j)))]) (Nb n) (by
      have z:=jv (f:=fun j=>dF (lW n (wM W) s j)) (h:=fun j=>av (tj W j)) (Nb n)
      have fa:(aa (ac 2) (aa (aq a8 (ac 0) (vC (.int 1))) ai)) [some (.d (aB W)),some (.l GG),some (.d (.tuple LV)),some (.d (.tuple PC)),none]=some ([.d (.tuple LV),.d (.tuple (W.ties.map av))],[some (.d (aB W)),some (.l GG),some (.d (.tuple LV)),some (.d (.tuple PC)),none]):=by
        generalize W.ties.map av=TZ at*
        generalize GG=G2 at*
        generalize LV=L2 at*
        generalize PC=P2 at*
        generalize aB W=WW at*
        simp? [g1']
      unfold jF tR
      rw [fa,nu]
      show some (fF ((Nb n).map fun v=>dF (lW n (wM W) s v)) _,_,_)=_
      rw [z]) ∅ ∅ ∅ (fun j hj=>by
      have jl:j < W.ties.length:=NB.mp hj
      have tk:=ok.ties _ (jt jl)
      refine⟨fun t ht=>?_,rfl,rfl,fun _=>⟨?_,rfl⟩⟩
      · match t,ht with
        | [t1,t2],_=>rfl
      · have q0:=tk.b0;have q1:=tk.b1
        have el:lW n (wM W) s j=lowM (kj n (wM W) s j) s.d:=Cg I.dp
        obtain⟨p1,p2,p3,p4⟩:=lX (n:=1000) I.dp (lB j jl).1 (lB j jl).2 dB
        have tt:=sR (a:=lowM (kj n (wM W) s j) s.d) (b:=((tj W j).bot,1)) (n:=1000) p3 Rl p1 p2 (Bt.mono (m:=64) (by unfold Bt;show(tj W j).bot.natAbs < _;lia) ⋯) (Bt.mono (m:=64) (show Bt 64 1 by unfold Bt;decide) ⋯) ⋯
        rw [Gj I.dp,show dF ((tj W j).bot,1)=.tuple [.int (tj W j).bot,.int 1] from rfl] at tt
        rw [el]
        show ie [some (.d (dF (lowM (kj n (wM W) s j) s.d))),some (.d (av (tj W j)))]=some (.d (dF (lowM (kj n (wM W) s j*(tj W j).bot) s.d)),[some (.d (dF (lowM (kj n (wM W) s j) s.d))),some (.d (av (tj W j)))])
        generalize dF (lowM (kj n (wM W) s j*(tj W j).bot) s.d)=V1 at*
        generalize dF (lowM (kj n (wM W) s j) s.d)=V2 at*
        unfold av
        simp? [ie,tt,bR]) ↥7
  rw [OC.mpr ↥4] at hsh
  have h4:aF 4 (aJ (g1 cZ) (aa (bb [] 2 jF (aV (ao (af 0) (ao (af 1) aS))) aZ ie) ai)) [some (.d (aB W)),some (.l GG),some (.d (.tuple LV)),some (.d (.tuple PC)),none]=some (.nx [some (.d (aB W)),some (.l GG),some (.d (.tuple LV)),some (.d (.tuple PC)),some (.d (.tuple SH))]):=by
    unfold aF aJ aa
    rw [hsh]
    rfl
  have tsw':bG [.d (aB W),.d (.tuple SH)]=some (.d (dF (lowM (s.T (wM W) W.ties.length) s.d)),[.d (aB W),.d (.tuple SH)]):=tsw
  have tap':cE [.d (aB W),.d (.tuple PC)]=some (.d pr,[.d (aB W),.d (.tuple PC)]):=tap
  show dr [.d (aB W)]=some (.d (.tuple [dF (lowM (s.T (wM W) W.ties.length) s.d),.tuple SH,pr]),[.d (aB W)])
  generalize dF (lowM (s.T (wM W) W.ties.length) s.d)=VV at*
  have h5:bN (bI (aa (b_ 2 bG (aa (ac 0) (aa (ac 4) ai))) (aa (ac 4) (aa (b_ 2 cE (aa (ac 0) (aa (ac 3) ai))) ai)))) [some (.d (aB W)),some (.l GG),some (.d (.tuple LV)),some (.d (.tuple PC)),some (.d (.tuple SH))]=some (.rt (.d (.tuple [VV,.tuple SH,pr])) [some (.d (aB W)),some (.l GG),some (.d (.tuple LV)),some (.d (.tuple PC)),some (.d (.tuple SH))]):=by
    generalize GG=G2 at*
    generalize LV=L2 at*
    generalize PC=P2 at*
    generalize SH=S2 at*
    generalize aB W=WW at*
    simp? [tsw',tap',bR]
  have hb:qW [some (.d (aB W)),none,none,none,none]=some (.rt (.d (.tuple [VV,.tuple SH,pr])) [some (.d (aB W)),some (.l GG),some (.d (.tuple LV)),some (.d (.tuple PC)),some (.d (.tuple SH))]):=by
    unfold qW
    rw [az h1,az h2,az h3,az h4,h5]
  generalize GG=G2 at*
  generalize LV=L2 at*
  generalize PC=P2 at*
  generalize SH=S2 at*
  generalize aB W=WW at*
  simp? [dr,hb]
theorem uZ{xs:List MY}{i:Nat}:cutD xs none (some (i:Int))=xs.take i:=by
  unfold L2.cutD
  rw [HT.sIx_none,HT.sIx_nat,List.drop_zero,Nat.sub_zero]
  by_cases h:i≤xs.length
  · rw [Nat.min_eq_left h]
  · rw [Nat.min_eq_right ↥0,SF ↥8,SF ↥0]
theorem uY{xs:List MY}{i:Nat}:cutD xs (some (i:Int)) none=xs.drop i:=by
  unfold L2.cutD
  rw [HT.sIx_none,HT.sIx_nat]
  by_cases h:i≤xs.length
  · rw [Nat.min_eq_left h,SF (by rw [OZ];lia)]
  · rw [Nat.min_eq_right ↥0,Re ↥8,Re ↥0,List.take_nil]
theorem Ec{xs:List MY}{i:Nat}{x:MY}(hl:xs.length≤100)(hi:i < xs.length):kQ [.d (.tuple xs),.d (.int (i:Int)),.d x]=some (.d (.tuple (xs.set i x)),[.d (.tuple xs),.d (.int (i:Int)),.d x]):=by
  have c1:=uZ (xs:=xs) (i:=i)
  have c2:=uY (xs:=xs) (i:=i+1)
  rw [show((i+1:Nat):Int)=(i:Int)+1 by lia] at c2
  have g1':∀e:En,aO e (.d (.tuple (xs.take i))) (.d (.tuple [x]))=some (.d (.tuple (xs.take i++[x]))):=fun e=>lR (by rw [OK];simp;lia)
  have g2':∀e:En,aO e (.d (.tuple (xs.take i++[x]))) (.d (.tuple (xs.drop (i+1))))=some (.d (.tuple (xs.take i++[x]++xs.drop (i+1)))):=fun e=>lR (by rw [Ox,OK,OZ];simp;lia)
  have e:xs.set i x=xs.take i++[x]++xs.drop (i+1):=by
    rw [List.set_eq_take_append_cons_drop,if_pos hi];simp
  rw [e]
  generalize xs.take i++[x]++xs.drop (i+1)=R at*
  generalize xs.take i=A at*
  generalize xs.drop (i+1)=B at*
  generalize A++[x]=C at*
  simp? [kQ,DL,c1,c2,g1',g2']
theorem Jo{a b c d:Int}(hb:0 < b)(hd:0 < d)(h:(a:Rat) / (b:Rat)≤(c:Rat) / (d:Rat)):¬c*b < a*d:=by
  intro z
  have z':(c:Rat)*(b:Rat) < (a:Rat)*(d:Rat):=by exact_mod_cast z
  have p1:(0:Rat) < (b:Rat):=dh hb
  have p2:(0:Rat) < (d:Rat):=dh hd
  have k:=QP h (Qw (Qv p1 p2))
  generalize (a:Rat)=A at*
  generalize (b:Rat)=B at*
  generalize (c:Rat)=C at*
  generalize (d:Rat)=D at*
  have e1:A / B*(B*D)=A*D:=by grind
  have e2:C / D*(B*D)=C*B:=by grind
  grind
structure El (W W':bZ):Prop where
  ok:W'.Ok
  th:W'.things=W.things
  tl:W'.ties.length=W.ties.length
  le:∀V V',pM W V→pM W' V'→V≤V'
theorem Bw{W:bZ}{i:Nat}{t t':hJ}{r:Rat}(hi:W.ties[i]?=some t)(u:Up t t' r){V V':Rat}(h:pM W V)(h':pM ⟨W.things,W.ties.set i t',W.pat,W.asks⟩ V'):V≤V':=by
  refine h.up h' rfl ↥1 (fun j a b ha hb=>?_) (fun _=>Px _) (Px _)
  dsimp only at hb
  rw [Pv] at hb
  by_cases e:i=j
  · subst e
    rw [if_pos rfl,if_pos (MR hi).1] at hb
    rw [hi] at ha
    cases ha;cases hb
    exact⟨r,u⟩
  · rw [if_neg e,ha] at hb
    cases hb
    exact⟨1,Up.refl⟩
theorem Bj{W:bZ}(ok:W.Ok){i:Nat}{t':hJ}(h:t'.Ok W.things):(⟨W.things,W.ties.set i t',W.pat,W.asks⟩:bZ).Ok:=
  ⟨ok.t0,ok.t1,fun x hx=>(RM hx).elim (ok.ties x) fun e=>e ▸ h,by simp;exact ok.len,ok.pl,ok.pat,ok.a0,ok.a1⟩
abbrev mE(nn:Int)(W:bZ)(k a o p c w:Option Sv):En:=[some (.d (.int nn)),some (.d (aB W)),some (.d (.int W.things)),some (.d (.tuple (W.ties.map av))),some (.d (.tuple (W.pat.map .int))),some (.d (.int W.asks)),k,a,o,p,c,w]
theorem Gf{nn:Int}{W:bZ}(ok:W.Ok)(n0:0≤nn)(n1:nn < 2147483648):∃W',El W W'∧jj [.d (.int nn),.d (aB W)]=some (.d (aB W'),[.d (.int nn),.d (aB W)]):=by
  have t0:=ok.t0;have t1:=ok.t1;have wl:=ok.len;have pl:=ok.pl;have a0:=ok.a0;have a1:=ok.a1
  have s0:g_ (ac 1) (aV (ao (af 2) (ao (af 3) (ao (af 4) (ao (af 5) aS))))) [some (.d (.int nn)),some (.d (aB W)),none,none,none,none,none,none,none,none,none,none]=some (.nx (mE nn W none none none none none none)):=by
    show _=some (Fl.nx [some (.d (.int nn)),some (.d (aB W)),some (.d (.int W.things)),some (.d (.tuple (W.ties.map av))),some (.d (.tuple (W.pat.map .int))),some (.d (.int W.asks)),none,none,none,none,none,none])
    rw [bX]
    generalize W.ties.map av=TZ at*
    generalize W.pat.map PyData.int=PZ at*
    simp? [Np]
  have m4:∀e:En,bf e (.d (.int nn)) (.d (.int 4))=some (.d (.int (nn % 4))):=fun e=>aY ⋯
  have k0:=uQ (n:=nn) (k:=4) ⋯;have k1:=wn (n:=nn) (k:=4) ⋯
  have s1:aF 6 (aq bf (ac 0) (vC (.int 4))) (mE nn W none none none none none none)=some (.nx (mE nn W (some (.d (.int (nn % 4)))) none none none none none)):=by
    simp only [mE]
    generalize aB W=WW at*
    generalize W.ties.map av=TZ at*
    generalize W.pat.map PyData.int=PZ at*
    simp? [m4]
  have z1:∀e:En,cG true e (.d (.tuple (W.ties.map av))) (.d (.tuple []))=some (.d (.bool (!(W.ties.map av).isEmpty))):=fun e=>nS (neg:=true) ((Sh.tup (n:=6) fun d hd=>by
    obtain⟨t,_,rfl⟩:=MT hd;exact Sh.tie).ok ⋯)
  have z2:∀e:En,cG true e (.d (.tuple (W.pat.map .int))) (.d (.tuple []))=some (.d (.bool (!(W.pat.map PyData.int).isEmpty))):=fun e=>nS (neg:=true) (Sh.ints.ok ⋯)
  have f4:∀e:En,c_ e (.d (.int nn)) (.d (.int 4))=some (.d (.int (nn / 4))):=fun e=>ec ⋯ (j6 ⋯ ⋯)
  have ie1:(W.ties.map av).isEmpty=W.ties.isEmpty:=by cases W.ties<;>rfl
  have ie2:(W.pat.map PyData.int).isEmpty=W.pat.isEmpty:=by cases W.pat<;>rfl
  rw [ie1] at z1
  rw [ie2] at z2
  have gl:∀e:En,g1 cY e [.d (.tuple (W.ties.map av))]=some (.d (.int (W.ties.length:Int))):=fun e=>by
    show some (Rv.d (.int ((W.ties.map av).length:Int)))=_
    rw [Nw]
  by_cases hA:W.ties.isEmpty=false∧nn % 4 < 2
  · -- a tie
    have hpos:0 < W.ties.length:=SG.mpr (by intro e;rw [e] at hA;simp at hA)
    have ml:∀e:En,bf e (.d (.int (nn / 4))) (.d (.int (W.ties.length:Int)))=some (.d (.int (nn / 4 % (W.ties.length:Int)))):=fun e=>aY ↥0
    have a0':=uQ (n:=nn / 4) (k:=(W.ties.length:Int)) ↥0;have a1':=wn (n:=nn / 4) (k:=(W.ties.length:Int)) ↥0
    obtain⟨i,hi⟩:∃i:Nat,nn / 4 % (W.ties.length:Int)=(i:Int):=⟨(nn / 4 % (W.ties.length:Int)).toNat,by lia⟩
    rw [hi] at ml a1'
    have il:i < W.ties.length:=by lia
    obtain⟨t,ht⟩:∃t,W.ties[i]?=some t:=⟨_,NL il⟩
    have tk:=ok.ties t (MV ht)
    have h1:=tk.c0;have h2:=tk.c1;have h3:=tk.b0;have h4:=tk.b1;have h5:=tk.w0;have h6:=tk.w1
    have at1:atI (W.ties.map av) (i:Int)=some (av t):=by
      rw [iD ↥0 (by rw [Nw];lia),OF,NH,ht];rfl
    have dT:av t=.tuple [.int t.one,.int t.other,.tuple [.int t.top,.int t.bot],.int t.worth]:=rfl
    have put:∀t':hJ,kQ [.d (.tuple (W.ties.map av)),.d (.int (i:Int)),.d (av t')]=some (.d (.tuple ((W.ties.set i t').map av)),[.d (.tuple (W.ties.map av)),.d (.int (i:Int)),.d (av t')]):=fun t'=>by
      rw [Ec (by rw [Nw];lia) (by rw [Nw];exact il),List.map_set]
    by_cases hk:nn % 4=0
    · -- its chance
      obtain⟨a,b,ht',tk',r,u,hch⟩:∃a b:Int,(∀e:En,(aq a8 (cC (aa (b_ 2 ji (aa (aq aO (aq bJ (vC (.int 2)) (aq a8 (ac 10) (vC (.int 0)))) (vC (.int 1))) (aa (aq aO (aq bJ (vC (.int 2)) (aq a8 (ac 10) (vC (.int 1)))) (vC (.int 1))) ai))) (aa (bI (aa (vC (.int 1)) (aa (vC (.int 1)) ai))) ai))) (aJ (g1 pS) (aa (aq BJ (aq a8 (ac 10) (vC (.int 1))) (vC (.int 49))) ai))) (mE nn W (some (.d (.int 0))) (some (.d (.int (i:Int)))) (some (.d (.int t.one))) (some (.d (.int t.other))) (some (.d (.tuple [.int t.top,.int t.bot]))) (some (.d (.int t.worth))))=some (.d (.tuple [.int a,.int b]),mE nn W (some (.d (.int 0))) (some (.d (.int (i:Int)))) (some (.d (.int t.one))) (some (.d (.int t.other))) (some (.d (.tuple [.int t.top,.int t.bot]))) (some (.d (.int t.worth)))))∧(⟨t.one,t.other,a,b,t.worth⟩:hJ).Ok W.things∧∃r,Up t ⟨t.one,t.other,a,b,t.worth⟩ r∧True:=by
        have gm1:∀e:En,bJ e (.d (.int 2)) (.d (.int t.top))=some (.d (.int (2*t.top))):=fun e=>bx (l3 ⋯ ⋯)
        have gm2:∀e:En,bJ e (.d (.int 2)) (.d (.int t.bot))=some (.d (.int (2*t.bot))):=fun e=>bx (l3 ⋯ ⋯)
        have tl:=Bp (2*t.top+1) (2*t.bot+1) ↥0 (yY ↥0 ↥0 ⋯)
        by_cases hb:49 < t.bot
        · refine⟨1,1,fun _=>?_,⟨tk.o0,tk.o1,tk.o2,by show(0:Int)≤1;decide,by show(1:Int)≤1;decide,by show(1:Int)≤1;decide,by show(1:Int)≤100;decide,h5,h6,by show Nv 1 1=1;decide⟩,(t.top:Rat),⟨rfl,rfl,by exact_mod_cast h1,?_,?_,?_⟩,trivial⟩
          · simp only [mE]
            generalize aB W=WW at*
            generalize W.ties.map av=TZ at*
            generalize W.pat.map PyData.int=PZ at*
            generalize (lowM (2*t.top+1) (2*t.bot+1)).1=l1 at*
            generalize (lowM (2*t.top+1) (2*t.bot+1)).2=l2 at*
            simp? [gm1,gm2,tl,hb,bR]
          · show((1:Int):Rat)*(t.top:Rat)≤(t.top:Rat);simp only [RK];grind
          · show((1:Int):Rat)*(t.top:Rat)≤(t.bot:Rat)
            have:(t.top:Rat)≤(t.bot:Rat):=by exact_mod_cast h2
            simp only [RK];grind
          · show((t.top*t.worth:Int):Rat)≤((1*t.worth:Int):Rat)*(t.top:Rat)
            rw [Int.one_mul,OT];grind
        · have lr:=oG (t:=2*t.top+1) (b:=2*t.bot+1) ↥0 ↥0 ↥0 ↥0
          have cr:=oF (t:=2*t.top+1) (b:=2*t.bot+1) ↥0
          have cp:=(lF.lowM (t:=2*t.top+1) (b:=2*t.bot+1) ↥0).cop
          generalize (lowM (2*t.top+1) (2*t.bot+1)).1=l1 at*
          generalize (lowM (2*t.top+1) (2*t.bot+1)).2=l2 at*
          have l1p:0 < l1:=by
            apply Qd
            intro z
            have z0:l1=0:=by lia
            rw [z0,Int.zero_mul] at cr
            have:=Qc (show 0 < l2 by lia) (show 0 < 2*t.top+1 by lia)
            lia
          have key:l2*t.top≤t.bot*l1:=by
            refine Int.le_of_mul_le_mul_right (a:=2*t.top+1) ?_ ↥0
            have e1:l2*t.top*(2*t.top+1)=(l1*(2*t.bot+1))*t.top:=by rw [cr];grind
            have e2:t.bot*l1*(2*t.top+1) - (l1*(2*t.bot+1))*t.top=l1*(t.bot - t.top):=by grind
            have:0≤l1*(t.bot - t.top):=PH ↥0 ↥0
            lia
          have l1r:(0:Rat) < (l1:Rat):=dh l1p
          refine⟨l1,l2,fun _=>?_,⟨tk.o0,tk.o1,tk.o2,lr.1,lr.2.1,lr.2.2.1,lr.2.2.2,h5,h6,cp⟩,(t.top:Rat) / (l1:Rat),⟨rfl,rfl,?_,?_,?_,?_⟩,trivial⟩
          · simp only [mE]
            generalize aB W=WW at*
            generalize W.ties.map av=TZ at*
            generalize W.pat.map PyData.int=PZ at*
            simp? [gm1,gm2,tl,hb,bR]
          · rw [Rat.div_def];exact Pw (by exact_mod_cast h1) (Qw (Rat.inv_pos.mpr l1r))
          · show(l1:Rat)*((t.top:Rat) / (l1:Rat))≤(t.top:Rat)
            have:(l1:Rat)*((t.top:Rat) / (l1:Rat))=(t.top:Rat):=by grind
            grind
          · show(l2:Rat)*((t.top:Rat) / (l1:Rat))≤(t.bot:Rat)
            have k':(l2:Rat)*(t.top:Rat)≤(t.bot:Rat)*(l1:Rat):=by exact_mod_cast key
            have k2:=QP k' (Qw (Rat.inv_pos.mpr l1r))
            have e1:(l2:Rat)*(t.top:Rat)*(l1:Rat)⁻¹=(l2:Rat)*((t.top:Rat) / (l1:Rat)):=by rw [Rat.div_def];grind
            have e2:(t.bot:Rat)*(l1:Rat)*(l1:Rat)⁻¹=(t.bot:Rat):=by grind
            grind
          · show((t.top*t.worth:Int):Rat)≤((l1*t.worth:Int):Rat)*((t.top:Rat) / (l1:Rat))
            rw [OT,OT]
            have:(l1:Rat)*(t.worth:Rat)*((t.top:Rat) / (l1:Rat))=(t.top:Rat)*(t.worth:Rat):=by grind
            grind
      refine⟨⟨W.things,W.ties.set i ⟨t.one,t.other,a,b,t.worth⟩,W.pat,W.asks⟩,⟨Bj ok tk',rfl,by simp,fun V V' hv hv'=>Bw ht u hv hv'⟩,?_⟩
      have pt:=put ⟨t.one,t.other,a,b,t.worth⟩
      have hch:=ht' []
      rw [bX ⟨W.things,W.ties.set i ⟨t.one,t.other,a,b,t.worth⟩,W.pat,W.asks⟩]
      rw [show av ⟨t.one,t.other,a,b,t.worth⟩=.tuple [.int t.one,.int t.other,.tuple [.int a,.int b],.int t.worth] from rfl] at pt
      rw [dT] at at1
      rw [hk] at s1
      have hq:iE [some (.d (.int nn)),some (.d (aB W)),none,none,none,none,none,none,none,none,none,none]=some (.rt (.d (.tuple [.int W.things,.tuple ((W.ties.set i ⟨t.one,t.other,a,b,t.worth⟩).map av),.tuple (W.pat.map .int),.int W.asks])) (mE nn W (some (.d (.int 0))) (some (.d (.int (i:Int)))) (some (.d (.int t.one))) (some (.d (.int t.other))) (some (.d (.tuple [.int a,.int b]))) (some (.d (.int t.worth))))):=by
        unfold iE
        rw [az s0,az s1]
        simp only [mE] at hch ⊢
        generalize aq a8 (cC (aa (b_ 2 ji (aa (aq aO (aq bJ (vC (.int 2)) (aq a8 (ac 10) (vC (.int 0)))) (vC (.int 1))) (aa (aq aO (aq bJ (vC (.int 2)) (aq a8 (ac 10) (vC (.int 1)))) (vC (.int 1))) ai))) (aa (bI (aa (vC (.int 1)) (aa (vC (.int 1)) ai))) ai))) (aJ (g1 pS) (aa (aq BJ (aq a8 (ac 10) (vC (.int 1))) (vC (.int 49))) ai))=CH at*
        have z1t:∀e:En,cG true e (.d (.tuple (W.ties.map av))) (.d (.tuple []))=some (.d (.bool true)):=fun e=>by rw [z1 e,hA.1];rfl
        rw [hi] at*
        generalize (W.ties.set i ⟨t.one,t.other,a,b,t.worth⟩).map av=T2 at*
        generalize aB W=WW at*
        generalize W.ties.map av=TZ at*
        generalize W.pat.map PyData.int=PZ at*
        simp? [z1t,f4,gl,ml,at1,hch,pt,bR]
      simp only [mE] at hq
      generalize (W.ties.set i ⟨t.one,t.other,a,b,t.worth⟩).map av=T2 at*
      generalize aB W=WW at*
      generalize W.ties.map av=TZ at*
      generalize W.pat.map PyData.int=PZ at*
      simp? [jj,hq]
    · -- its worth
      have k1':nn % 4=1:=by have:=hA.2;lia
      have f100:∀e:En,c_ e (.d (.int nn)) (.d (.int 100))=some (.d (.int (nn / 100))):=fun e=>ec ⋯ (j6 ⋯ ⋯)
      have m40:∀e:En,bf e (.d (.int (nn / 100))) (.d (.int 40))=some (.d (.int (nn / 100 % 40))):=fun e=>aY ⋯
      have q0:=uQ (n:=nn / 100) (k:=40) ⋯
      generalize nn / 100 % 40=q at*
      let w':Int:=min 1000 (t.worth+1+q)
      have w0:t.worth≤w':=by show _≤min _ _;lia
      have w1:w'≤1000:=by show min _ _≤_;lia
      have tk':(⟨t.one,t.other,t.top,t.bot,w'⟩:hJ).Ok W.things:=⟨tk.o0,tk.o1,tk.o2,h1,h2,h3,h4,by show 0≤w';lia,w1,tk.cop⟩
      have u:Up t ⟨t.one,t.other,t.top,t.bot,w'⟩ 1:=⟨rfl,rfl,by grind,by show(t.top:Rat)*1≤_;grind,by show(t.bot:Rat)*1≤_;grind,by
        show((t.top*t.worth:Int):Rat)≤((t.top*w':Int):Rat)*1
        have:t.top*t.worth≤t.top*w':=Rz w0 h1
        have:((t.top*t.worth:Int):Rat)≤((t.top*w':Int):Rat):=by exact_mod_cast this
        grind⟩
      refine⟨⟨W.things,W.ties.set i ⟨t.one,t.other,t.top,t.bot,w'⟩,W.pat,W.asks⟩,⟨Bj ok tk',rfl,by simp,fun V V' hv hv'=>Bw ht u hv hv'⟩,?_⟩
      have pt:=put ⟨t.one,t.other,t.top,t.bot,w'⟩
      rw [bX ⟨W.things,W.ties.set i ⟨t.one,t.other,t.top,t.bot,w'⟩,W.pat,W.asks⟩]
      rw [show av ⟨t.one,t.other,t.top,t.bot,w'⟩=.tuple [.int t.one,.int t.other,.tuple [.int t.top,.int t.bot],.int (min 1000 (t.worth+1+q))] from rfl] at pt
      rw [dT] at at1
      rw [k1'] at s1
      have hq:iE [some (.d (.int nn)),some (.d (aB W)),none,none,none,none,none,none,none,none,none,none]=some (.rt (.d (.tuple [.int W.things,.tuple ((W.ties.set i ⟨t.one,t.other,t.top,t.bot,w'⟩).map av),.tuple (W.pat.map .int),.int W.asks])) (mE nn W (some (.d (.int 1))) (some (.d (.int (i:Int)))) (some (.d (.int t.one))) (some (.d (.int t.other))) (some (.d (.tuple [.int t.top,.int t.bot]))) (some (.d (.int (min 1000 (t.worth+1+q))))))):=by
        unfold iE
        rw [az s0,az s1]
        simp only [mE]
        have z1t:∀e:En,cG true e (.d (.tuple (W.ties.map av))) (.d (.tuple []))=some (.d (.bool true)):=fun e=>by rw [z1 e,hA.1];rfl
        rw [hi] at*
        generalize (W.ties.set i ⟨t.one,t.other,t.top,t.bot,w'⟩).map av=T2 at*
        generalize aB W=WW at*
        generalize W.ties.map av=TZ at*
        generalize W.pat.map PyData.int=PZ at*
        simp? [z1t,f4,gl,ml,at1,f100,m40,pt,bR]
      simp only [mE] at hq
      generalize (W.ties.set i ⟨t.one,t.other,t.top,t.bot,w'⟩).map av=T2 at*
      generalize aB W=WW at*
      generalize W.ties.map av=TZ at*
      generalize W.pat.map PyData.int=PZ at*
      simp? [jj,hq]
  · -- no tie
    have skip:∀(k:FS),aE (j3 (mX (a9 (aq (cG true) (ac 3) (bI ai))) (a9 (aq wz (ac 6) (vC (.int 2)))))
    (aE (aF 7 (aq bf (aq c_ (ac 0) (vC (.int 4))) (aJ (g1 cY) (aa (ac 3) ai))))
    (aE (g_ (aq a8 (ac 3) (ac 7)) (aV (ao (af 8) (ao (af 9) (ao (af 10) (ao (af 11) aS))))))
    (aE (j3 (a9 (aq (cG false) (ac 6) (vC (.int 0))))
    (aF 10 (aq a8 (cC (aa (b_ 2 ji (aa (aq aO (aq bJ (vC (.int 2)) (aq a8 (ac 10) (vC (.int 0)))) (vC (.int 1))) (aa (aq aO (aq bJ (vC (.int 2)) (aq a8 (ac 10) (vC (.int 1)))) (vC (.int 1))) ai))) (aa (bI (aa (vC (.int 1)) (aa (vC (.int 1)) ai))) ai))) (aJ (g1 pS) (aa (aq BJ (aq a8 (ac 10) (vC (.int 1))) (vC (.int 49))) ai))))
    (aF 11 (aJ (g2 rL) (aa (vC (.int 1000)) (aa (aq aO (aq aO (ac 11) (vC (.int 1))) (aq bf (aq c_ (ac 0) (vC (.int 100))) (vC (.int 40)))) ai)))))
    (bN (bI (aa (ac 2) (aa (b_ 3 kQ (aa (ac 3) (aa (ac 7) (aa (bI (aa (ac 8) (aa (ac 9) (aa (ac 10) (aa (ac 11) ai))))) ai)))) (aa (ac 4) (aa (ac 5) ai)))))))))
    fB) k (mE nn W (some (.d (.int (nn % 4)))) none none none none none)=k (mE nn W (some (.d (.int (nn % 4)))) none none none none none):=fun k=>by
      refine az ?_
      have ht:mX (a9 (aq (cG true) (ac 3) (bI ai))) (a9 (aq wz (ac 6) (vC (.int 2)))) (mE nn W (some (.d (.int (nn % 4)))) none none none none none)=some (false,mE nn W (some (.d (.int (nn % 4)))) none none none none none):=by
        simp only [mE]
        generalize aB W=WW at*
        by_cases c:W.ties.isEmpty=true
        · rw [c] at z1
          generalize W.ties.map av=TZ at*
          generalize W.pat.map PyData.int=PZ at*
          simp? [z1]
        · have c':W.ties.isEmpty=false:=by simpa using c
          have c2:¬nn % 4 < 2:=fun z=>hA ⟨c',z⟩
          rw [c'] at z1
          generalize W.ties.map av=TZ at*
          generalize W.pat.map PyData.int=PZ at*
          simp? [z1,c2]
      rw [Ea ht];rfl
    by_cases hB:W.pat.isEmpty=false∧nn % 4=2
    · have hpos:0 < W.pat.length:=SG.mpr (by intro e;rw [e] at hB;simp at hB)
      have ml:∀e:En,bf e (.d (.int (nn / 4))) (.d (.int W.things))=some (.d (.int (nn / 4 % W.things))):=fun e=>aY ↥0
      have a0':=uQ (n:=nn / 4) (k:=W.things) ↥0;have a1':=wn (n:=nn / 4) (k:=W.things) ↥0
      obtain⟨i,hi⟩:∃i:Nat,nn / 4 % W.things=(i:Int):=⟨(nn / 4 % W.things).toNat,by lia⟩
      rw [hi] at ml a1'
      have il:i < W.pat.length:=by lia
      obtain⟨p,hp⟩:∃p,W.pat[i]?=some p:=⟨_,NL il⟩
      have pk:=ok.pat p (MV hp)
      have at1:atI (W.pat.map PyData.int) (i:Int)=some (.int p):=by
        rw [iD ↥0 (by rw [Nw];lia),OF,NH,hp];rfl
      have pt:kQ [.d (.tuple (W.pat.map .int)),.d (.int (i:Int)),.d (.int (min 20 (p+1)))]=some (.d (.tuple ((W.pat.set i (min 20 (p+1))).map .int)),[.d (.tuple (W.pat.map .int)),.d (.int (i:Int)),.d (.int (min 20 (p+1)))]):=by
        rw [Ec (by rw [Nw];lia) (by rw [Nw];exact il),List.map_set]
      have gd:∀k,W.pat.getD k 0≤(W.pat.set i (min 20 (p+1))).getD k 0:=fun k=>by
        rw [Pf,Pf,Pv]
        by_cases e:i=k
        · subst e
          rw [if_pos rfl,if_pos il,hp]
          show p≤min 20 (p+1)
          lia
        · rw [if_neg e];exact Px _
      refine⟨⟨W.things,W.ties,W.pat.set i (min 20 (p+1)),W.asks⟩,⟨⟨t0,t1,ok.ties,wl,by simp;exact pl,fun x hx=>(RM hx).elim (ok.pat x) fun e=>by subst e;lia,a0,a1⟩,rfl,rfl,fun V V' hv hv'=>hv.up hv' rfl rfl (fun j a b ha hb=>by
        dsimp only at hb
        rw [ha] at hb;cases hb;exact⟨1,Up.refl⟩) gd (Px _)⟩,?_⟩
      rw [bX ⟨W.things,W.ties,W.pat.set i (min 20 (p+1)),W.asks⟩]
      have hq:iE [some (.d (.int nn)),some (.d (aB W)),none,none,none,none,none,none,none,none,none,none]=some (.rt (.d (.tuple [.int W.things,.tuple (W.ties.map av),.tuple ((W.pat.set i (min 20 (p+1))).map .int),.int W.asks])) (mE nn W (some (.d (.int 2))) (some (.d (.int (i:Int)))) none none none none)):=by
        unfold iE
        rw [az s0,az s1,skip]
        simp only [mE]
        have z2t:∀e:En,cG true e (.d (.tuple (W.pat.map .int))) (.d (.tuple []))=some (.d (.bool true)):=fun e=>by rw [z2 e,hB.1];rfl
        rw [hB.2,hi] at*
        generalize (W.pat.set i (min 20 (p+1))).map PyData.int=P2 at*
        generalize aB W=WW at*
        generalize W.ties.map av=TZ at*
        generalize W.pat.map PyData.int=PZ at*
        simp? [z2t,f4,ml,at1,pt,bR]
      simp only [mE] at hq
      generalize (W.pat.set i (min 20 (p+1))).map PyData.int=P2 at*
      generalize aB W=WW at*
      generalize W.ties.map av=TZ at*
      generalize W.pat.map PyData.int=PZ at*
      simp? [jj,hq]
    · refine⟨⟨W.things,W.ties,W.pat,min 40 (W.asks+1)⟩,⟨⟨t0,t1,ok.ties,wl,pl,ok.pat,by show 0≤min _ _;lia,by show min _ _≤_;lia⟩,rfl,rfl,fun V V' hv hv'=>hv.up hv' rfl rfl (fun j a b ha hb=>by
        dsimp only at hb
        rw [ha] at hb;cases hb;exact⟨1,Up.refl⟩) (fun _=>Px _) (by show _≤min _ _;lia)⟩,?_⟩
      rw [bX ⟨W.things,W.ties,W.pat,min 40 (W.asks+1)⟩]
      have hq:iE [some (.d (.int nn)),some (.d (aB W)),none,none,none,none,none,none,none,none,none,none]=some (.rt (.d (.tuple [.int W.things,.tuple (W.ties.map av),.tuple (W.pat.map .int),.int (min 40 (W.asks+1))])) (mE nn W (some (.d (.int (nn % 4)))) none none none none none)):=by
        unfold iE
        rw [az s0,az s1,skip]
        simp only [mE]
        generalize aB W=WW at*
        by_cases c:W.pat.isEmpty=true
        · rw [c] at z2
          generalize W.ties.map av=TZ at*
          generalize W.pat.map PyData.int=PZ at*
          simp? [z2]
        · have c':W.pat.isEmpty=false:=by simpa using c
          have c2:¬nn % 4=2:=fun z=>hB ⟨c',z⟩
          rw [c'] at z2
          generalize W.ties.map av=TZ at*
          generalize W.pat.map PyData.int=PZ at*
          simp? [z2,c2]
      simp only [mE] at hq
      generalize aB W=WW at*
      generalize W.ties.map av=TZ at*
      generalize W.pat.map PyData.int=PZ at*
      simp? [jj,hq]
def uG(W:bZ)(a:Nat):bZ:=⟨W.things,(W.ties.drop a++W.ties.take a).map (cf W.things),W.pat.reverse,W.asks⟩
theorem Ds{W:bZ}(ok:W.Ok)(a:Nat):(uG W a).Ok:=by
  refine⟨ok.t0,ok.t1,fun t ht=>?_,?_,?_,fun p hp=>ok.pat p (List.mem_reverse.mp hp),ok.a0,ok.a1⟩
  · obtain⟨u,hu,rfl⟩:=MT ht
    have tk:=ok.ties u (by
      rcases MS hu with hu | hu
      · exact SB hu
      · exact SA hu)
    have h1:=tk.o0;have h2:=tk.o1;have h3:=tk.o2
    refine⟨?_,?_,?_,tk.c0,tk.c1,tk.b0,tk.b1,tk.w0,tk.w1,tk.cop⟩
    · show 0≤W.things - 1 - u.other;lia
    · show W.things - 1 - u.other < W.things - 1 - u.one;lia
    · show W.things - 1 - u.one < W.things;lia
  · have:=ok.len
    show((W.ties.drop a++W.ties.take a).map (cf W.things)).length≤16
    rw [Nw,Ox,OZ,OK];lia
  · show((W.pat.reverse.length:Nat):Int)=W.things
    rw [RH];exact ok.pl
theorem qL(W:bZ)(a:Nat):(W.ties.drop a++W.ties.take a).Perm W.ties:=by
  have:=List.perm_append_comm (l₁:=W.ties.drop a) (l₂:=W.ties.take a)
  rwa [Sy] at this
theorem wY{l:List Int}{k:Nat}(h:k < l.length):l.reverse.getD (l.length - 1 - k) 0=l.getD k 0:=by
  rw [Pf,Pf,List.getElem?_reverse ↥0,show l.length - 1 - (l.length - 1 - k)=k by lia]
theorem Gm{W:bZ}(ok:W.Ok)(a:Nat){V V':Rat}(h:pM W V)(h':pM (uG W a) V'):V=V':=by
  have t0:=ok.t0;have pl:=ok.pl
  have e:W.things.toNat=W.pat.length:=by lia
  have k1:V≤V':=h.turned h' ((qL W a).map _) rfl t0 (fun k hk=>by
    show W.pat.reverse.getD (W.things.toNat - 1 - k) 0=_
    rw [e];exact wY ↥0) rfl
  have k2:V'≤V:=h'.turned h (by
    show W.ties.Perm (((W.ties.drop a++W.ties.take a).map (cf W.things)).map (cf W.things))
    rw [Os]
    have:Function.comp (cf W.things) (cf W.things)=id:=by
      funext t
      show cf W.things (cf W.things t)=t
      obtain⟨a,b,c,d,w⟩:=t
      simp only [cf,hJ.mk.injEq]
      exact⟨by lia,by lia,trivial,trivial,trivial⟩
    rw [this,List.map_id]
    exact(qL W a).symm) rfl t0 (fun k hk=>by
    have hk':(k:Int) < W.things:=hk
    show W.pat.getD (W.things.toNat - 1 - k) 0=W.pat.reverse.getD k 0
    have:=wY (l:=W.pat) (k:=W.pat.length - 1 - k) ↥0
    rw [show W.pat.length - 1 - (W.pat.length - 1 - k)=k by lia] at this
    rw [e];exact this.symm) rfl
  exact Rat.le_antisymm k1 k2
inductive JQ (nn:Int) (W:bZ) (at':Nat) (i:Nat):En→Prop
  | mk {v8 v9 v10 v11:Option Sv}:JQ nn W at' i [some (.d (.int nn)),some (.d (aB W)),some (.d (.int W.things)),some (.d (.tuple (W.ties.map av))),some (.d (.tuple (W.pat.map .int))),some (.d (.int W.asks)),some (.d (.int (at':Int))),some (.l ((((W.ties.drop at'++W.ties.take at').take i).map (cf W.things)).map av)),v8,v9,v10,v11]
theorem Bs{nn:Int}{W:bZ}(ok:W.Ok)(n0:0≤nn):∃a:Nat,gu [.d (.int nn),.d (aB W)]=some (.d (aB (uG W a)),[.d (.int nn),.d (aB W)]):=by
  have wl:=ok.len;have pl:=ok.pl;have t0:=ok.t0;have t1:=ok.t1
  have q0:=uQ (n:=nn) (k:=max 1 (W.ties.length:Int)) ↥0
  obtain⟨a,ha⟩:∃a:Nat,nn % max 1 (W.ties.length:Int)=(a:Int):=⟨(nn % max 1 (W.ties.length:Int)).toNat,by lia⟩
  refine⟨a,?_⟩
  have gm:∀e:En,bf e (.d (.int nn)) (.d (.int (max 1 (W.ties.length:Int))))=some (.d (.int (a:Int))):=fun e=>by rw [aY ↥0,ha]
  have gl:∀e:En,g1 cY e [.d (.tuple (W.ties.map av))]=some (.d (.int (W.ties.length:Int))):=fun e=>by
    show some (Rv.d (.int ((W.ties.map av).length:Int)))=_
    rw [Nw]
  have s0:g_ (ac 1) (aV (ao (af 2) (ao (af 3) (ao (af 4) (ao (af 5) aS))))) [some (.d (.int nn)),some (.d (aB W)),none,none,none,none,none,none,none,none,none,none]=some (.nx (mE nn W none none none none none none)):=by
    show _=some (Fl.nx [some (.d (.int nn)),some (.d (aB W)),some (.d (.int W.things)),some (.d (.tuple (W.ties.map av))),some (.d (.tuple (W.pat.map .int))),some (.d (.int W.asks)),none,none,none,none,none,none])
    rw [bX]
    generalize W.ties.map av=TZ at*
    generalize W.pat.map PyData.int=PZ at*
    simp? [Np]
  have s1:aF 6 (aq bf (ac 0) (aJ (g2 tO) (aa (vC (.int 1)) (aa (aJ (g1 cY) (aa (ac 3) ai)) ai)))) (mE nn W none none none none none none)=some (.nx (mE nn W (some (.d (.int (a:Int)))) none none none none none)):=by
    simp only [mE]
    generalize aB W=WW at*
    generalize W.ties.map av=TZ at*
    generalize W.pat.map PyData.int=PZ at*
    simp? [gl,gm]
  let L:List hJ:=W.ties.drop a++W.ties.take a
  have Ll:L.length≤16:=by show(W.ties.drop a++W.ties.take a).length≤16;rw [Ox,OZ,OK];lia
  obtain⟨e',h1,hl⟩:=dc (own:=[]) (g:=aV (ao (af 8) (ao (af 9) (ao (af 10) (ao (af 11) aS))))) (f:=iF) (fun i e=>JQ nn W a i e) (L.map av) 0 (mE nn W (some (.d (.int (a:Int)))) (some (.l [])) none none none none) (fun i x e hx h=>by
    rw [PK] at*
    obtain⟨⟩:=h
    rename_i v8 v9 v10 v11
    rw [NH] at hx
    obtain⟨t,ht,rfl⟩:=MQ hx
    have et:((L.take (i+1)).map (cf W.things)).map av=((L.take i).map (cf W.things)).map av++[.tuple [.int (W.things - 1 - t.other),.int (W.things - 1 - t.one),.tuple [.int t.top,.int t.bot],.int t.worth]]:=by
      rw [List.take_succ,ht,Oi,Oi];rfl
    have ll:(((L.take i).map (cf W.things)).map av).length < 1000000:=by rw [Nw,Nw,OK];lia
    refine⟨[some (.d (.int nn)),some (.d (aB W)),some (.d (.int W.things)),some (.d (.tuple (W.ties.map av))),some (.d (.tuple (W.pat.map .int))),some (.d (.int W.asks)),some (.d (.int (a:Int))),some (.l (((L.take i).map (cf W.things)).map av)),some (.d (.int t.one)),some (.d (.int t.other)),some (.d (.tuple [.int t.top,.int t.bot])),some (.d (.int t.worth))],[some (.d (.int nn)),some (.d (aB W)),some (.d (.int W.things)),some (.d (.tuple (W.ties.map av))),some (.d (.tuple (W.pat.map .int))),some (.d (.int W.asks)),some (.d (.int (a:Int))),some (.l (((L.take (i+1)).map (cf W.things)).map av)),some (.d (.int t.one)),some (.d (.int t.other)),some (.d (.tuple [.int t.top,.int t.bot])),some (.d (.int t.worth))],rfl,?_,dm,.mk⟩
    rw [et]
    generalize ((L.take i).map (cf W.things)).map av=AA at*
    generalize aB W=WW at*
    generalize W.ties.map av=TZ at*
    generalize W.pat.map PyData.int=PZ at*
    simp? [iF,ll]) .mk
  rw [PK,Nw] at hl
  obtain⟨⟩:=hl
  rename_i v8 v9 v10 v11
  have c1:=uY (xs:=W.ties.map av) (i:=a)
  have c2:=uZ (xs:=W.ties.map av) (i:=a)
  have ca:∀e:En,aO e (.d (.tuple ((W.ties.map av).drop a))) (.d (.tuple ((W.ties.map av).take a)))=some (.d (.tuple ((W.ties.map av).drop a++(W.ties.map av).take a))):=fun e=>lR (by rw [OZ,OK,Nw];lia)
  have eL:(W.ties.map av).drop a++(W.ties.map av).take a=L.map av:=by
    show _=(W.ties.drop a++W.ties.take a).map av
    rw [Oi,List.map_drop,List.map_take]
  rw [eL] at ca
  have hit:j9 (mE nn W (some (.d (.int (a:Int)))) (some (.l [])) none none none none)=some (L.map av,[],mE nn W (some (.d (.int (a:Int)))) (some (.l [])) none none none none):=by
    refine oo ?_
    simp only [mE]
    generalize L.map av=LL at*
    generalize (W.ties.map av).drop a=T1 at*
    generalize (W.ties.map av).take a=T2 at*
    generalize aB W=WW at*
    generalize W.ties.map av=TZ at*
    generalize W.pat.map PyData.int=PZ at*
    simp? [c1,c2,ca]
  have hs:∀Wl,eV Wl j9 (aV (ao (af 8) (ao (af 9) (ao (af 10) (ao (af 11) aS))))) iF (mE nn W (some (.d (.int (a:Int)))) (some (.l [])) none none none none)=some (.nx [some (.d (.int nn)),some (.d (aB W)),some (.d (.int W.things)),some (.d (.tuple (W.ties.map av))),some (.d (.tuple (W.pat.map .int))),some (.d (.int W.asks)),some (.d (.int (a:Int))),some (.l ((L.map (cf W.things)).map av)),v8,v9,v10,v11]):=fun Wl=>by
    rw [fR hit,h1,show L.take L.length=L from List.take_length]
  rw [bX (uG W a)]
  show gu [.d (.int nn),.d (aB W)]=some (.d (.tuple [.int W.things,.tuple ((L.map (cf W.things)).map av),.tuple (W.pat.reverse.map .int),.int W.asks]),[.d (.int nn),.d (aB W)])
  have rv:∀e:En,I_ e (.d (.tuple (W.pat.map .int))) (.d (.int (-1)))=some (.d (.tuple (W.pat.reverse.map .int))):=fun e=>by
    show some (Rv.d (.tuple (W.pat.map PyData.int).reverse))=_
    rw [List.map_reverse]
  have hq:nH [some (.d (.int nn)),some (.d (aB W)),none,none,none,none,none,none,none,none,none,none]=some (.rt (.d (.tuple [.int W.things,.tuple ((L.map (cf W.things)).map av),.tuple (W.pat.reverse.map .int),.int W.asks])) [some (.d (.int nn)),some (.d (aB W)),some (.d (.int W.things)),some (.d (.tuple (W.ties.map av))),some (.d (.tuple (W.pat.map .int))),some (.d (.int W.asks)),some (.d (.int (a:Int))),some (.l ((L.map (cf W.things)).map av)),v8,v9,v10,v11]):=by
    unfold nH
    rw [az s0,az s1,az (show aF 7 (cC ai) (mE nn W (some (.d (.int (a:Int)))) none none none none none)=some (.nx (mE nn W (some (.d (.int (a:Int)))) (some (.l [])) none none none none)) from rfl),az (hs _)]
    generalize (L.map (cf W.things)).map av=LL at*
    generalize W.pat.reverse.map PyData.int=PR at*
    generalize aB W=WW at*
    generalize W.ties.map av=TZ at*
    generalize W.pat.map PyData.int=PZ at*
    simp? [Im,rv]
  generalize (L.map (cf W.things)).map av=LL at*
  generalize W.pat.reverse.map PyData.int=PR at*
  generalize aB W=WW at*
  generalize W.ties.map av=TZ at*
  generalize W.pat.map PyData.int=PZ at*
  simp? [gu,hq]
structure Ir (W:bZ) (f:Fr) (d:MY):Prop where
  eq:dr [.d (aB W)]=some (.d d,[.d (aB W)])
  at0:∀e:En,a8 e (.d d) (.d (.int 0))=some (.d (dF f))
  val:pM W (vR f)
  pos:0 < f.2
  low:lF f
  b1:Bt 1100 f.1
  b2:Bt 1100 f.2
theorem xw{W:bZ}(ok:W.Ok)(h1:W.things≤6)(h2:W.ties.length≤6):∃f d,Ir W f d:=by
  have t0:=ok.t0
  obtain⟨s,pr,I,_,_,tb,iv,g0,b1,b2⟩:=Dj ok ↥0 (by unfold wM wT;lia)
  obtain⟨p1,p2,p3,p4⟩:=lX I.dp g0 b1 b2
  exact⟨_,_,tb,fun e=>by rw [mC,nF];rfl,by rw [fD I.dp];exact iv,p3,lF.lowM I.dp,p1,p2⟩
theorem yz{a b:Fr}(h1:Bt 1100 a.1)(h2:Bt 1100 a.2)(h3:Bt 1100 b.1)(h4:Bt 1100 b.2):jh [.d (dF a),.d (dF b)]=some (.d (.bool (decide (a.1*b.2 < b.1*a.2))),[.d (dF a),.d (dF b)]):=by
  have g1':∀e:En,bJ e (.d (.int a.1)) (.d (.int b.2))=some (.d (.int (a.1*b.2))):=fun e=>bx (gv (h1.mono ⋯) (h4.mono ⋯))
  have g2':∀e:En,bJ e (.d (.int b.1)) (.d (.int a.2))=some (.d (.int (b.1*a.2))):=fun e=>bx (gv (h3.mono ⋯) (h2.mono ⋯))
  unfold dF
  simp? [jh,yS,g1',g2']
theorem uc{W W':bZ}{f f':Fr}{d d':MY}(B:Ir W f d)(B':Ir W' f' d')(h:vR f≤vR f'):jh [.d (dF f'),.d (dF f)]=some (.d (.bool false),[.d (dF f'),.d (dF f)]):=by
  rw [yz B'.b1 B'.b2 B.b1 B.b2,decide_eq_false]
  exact Jo B.pos B'.pos h
theorem Bq{f:Fr}(h1:Bt 1100 f.1)(h2:Bt 1100 f.2):lY [.d (dF f),.d (dF f)]=some (.d (.bool true),[.d (dF f),.d (dF f)]):=by
  have hz:Sz (2*(1801+2)+3) 4 (dF f):=Sz.tup (n:=1801) (dep:=2) (m:=2) (fun d hd=>by
    simp only [NX,Oq,or_false] at hd
    rcases hd with rfl | rfl
    · exact Sz.intB (h1.mono (n:=1800) ⋯) ⋯ ⋯
    · exact Sz.intB (h2.mono (n:=1800) ⋯) ⋯ ⋯) ↥1
  have r:∀e,g1 mD e [.d (dF f)]=some (.d (.str (dF f).shown)):=fun e=>B4 (hz.ok ⋯ ⋯)
  have q:∀e,cG false e (.d (.str (dF f).shown)) (.d (.str (dF f).shown))=some (.d (.bool true)):=fun e=>B0 hz.so
  generalize dF f=d at*
  simp? [lY,yT,r,q]
abbrev ii(ns ds:List Int)(v2:Option Sv)(W:bZ)(f:Fr)(v5 v6 v7:Option Sv):En:=[some (.d (.list (ns.map .int))),some (.l (ds.map .int)),v2,some (.d (aB W)),some (.d (dF f)),v5,v6,v7]
inductive LI (ns:List Int):En→Prop
  | mk {ds v2 v3 v4 v5 v6 v7} (hd:jY ds):LI ns [some (.d (.list (ns.map .int))),some (.l (ds.map .int)),v2,v3,v4,v5,v6,v7]
theorem ya{ns ds:List Int}(hd:jY ds){v2 v5 v6 v7:Option Sv}{W:bZ}(ok:W.Ok)(h1:W.things≤6)(h2:W.ties.length≤6){f:Fr}{d:MY}(B:Ir W f d):∃ds',GQ (ii ns ds v2 W f v5 v6 v7)=some (.nx (ii ns ds' v2 W f v5 v6 v7))∧jY ds':=by
  obtain⟨n,d1,t1,n0,n1,hd1⟩:=jW hd
  obtain⟨W',M,tm⟩:=Gf ok n0 n1
  obtain⟨f',d',B'⟩:=xw M.ok (by rw [M.th];exact h1) (by rw [M.tl];exact h2)
  have nl:=uc B B' (M.le _ _ B.val B'.val)
  have be:=B'.eq
  have b0:=B'.at0
  refine⟨d1,?_,hd1⟩
  simp only [ii]
  generalize aB W'=W2 at*
  generalize aB W=WW at*
  generalize dF f'=F2 at*
  generalize dF f=F1 at*
  simp? [GQ,t1,tm,be,b0,nl,bR,pE]
theorem Ad{ns ds:List Int}(hd:jY ds){v2 v3 v4 v5 v6 v7:Option Sv}:∃e2,GR [some (.d (.list (ns.map .int))),some (.l (ds.map .int)),v2,v3,v4,v5,v6,v7]=some (.nx e2)∧LI ns e2:=by
  obtain⟨W,d1,tw,hd1,ok,w1,w2⟩:=Ih ds 6 6 hd ⋯ ⋯ ⋯ ⋯
  obtain⟨f,d,B⟩:=xw ok w1 ↥0
  have wl:=ok.len
  have s1:aF 3 (b_ 3 qm (aa (ac 1) (aa (vC (.int 6)) (aa (vC (.int 6)) ai)))) [some (.d (.list (ns.map .int))),some (.l (ds.map .int)),v2,v3,v4,v5,v6,v7]=some (.nx [some (.d (.list (ns.map .int))),some (.l (d1.map .int)),v2,some (.d (aB W)),v4,v5,v6,v7]):=by
    generalize aB W=WW at*
    simp? [tw,pE]
  have s2:aF 4 (aq a8 (b_ 1 dr (aa (ac 3) ai)) (vC (.int 0))) [some (.d (.list (ns.map .int))),some (.l (d1.map .int)),v2,some (.d (aB W)),v4,v5,v6,v7]=some (.nx (ii ns d1 v2 W f v5 v6 v7)):=by
    have be:=B.eq
    have b0:=B.at0
    simp only [ii]
    generalize aB W=WW at*
    generalize dF f=F1 at*
    simp? [be,b0,bR]
  obtain⟨e3,h3,d3,v53,he3,hd3⟩:=dc (own:=[]) (g:=af 5) (f:=GQ) (fun _ e=>∃ds' v5,e=ii ns ds' v2 W f v5 v6 v7∧jY ds') (bM 0 2) 0 (ii ns d1 v2 W f v5 v6 v7) (fun i x e hx ⟨ds',v5,he,hd'⟩=>by
    subst he
    obtain⟨ds2,h,hd2⟩:=ya (ns:=ns) (v2:=v2) (v5:=some (.d x)) (v6:=v6) (v7:=v7) hd' ok w1 ↥0 B
    exact⟨ii ns ds' v2 W f (some (.d x)) v6 v7,_,rfl,h,dm,ds2,_,rfl,hd2⟩) ⟨d1,v5,rfl,hd1⟩
  subst he3
  have s3:∀Wl,eV Wl Jg (af 5) GQ (ii ns d1 v2 W f v5 v6 v7)=some (.nx (ii ns d3 v2 W f v53 v6 v7)):=fun Wl=>by
    rw [fR (show Jg (ii ns d1 v2 W f v5 v6 v7)=some (bM 0 2,[],ii ns d1 v2 W f v5 v6 v7) from cJ (n:=2) rfl ⋯ ⋯),h3]
  have g0':=Kd (W:=W)
  have g1':=JS (W:=W)
  have g2':=Ke (W:=W)
  have g3':=Kf (W:=W)
  have z1:∀e:En,cG true e (.d (.tuple (W.ties.map av))) (.d (.tuple []))=some (.d (.bool (!(W.ties.map av).isEmpty))):=fun e=>nS (neg:=true) ((Sh.tup (n:=6) fun d hd=>by
    obtain⟨t,_,rfl⟩:=MT hd;exact Sh.tie).ok ⋯)
  have ie1:(W.ties.map av).isEmpty=W.ties.isEmpty:=by cases W.ties<;>rfl
  rw [ie1] at z1
  have gl:∀e:En,g1 cY e [.d (.tuple (W.ties.map av))]=some (.d (.int (W.ties.length:Int))):=fun e=>by
    show some (Rv.d (.int ((W.ties.map av).length:Int)))=_
    rw [Nw]
  have s4:∃d4 v64 v74,j3 (a9 (aq (cG true) (aq a8 (ac 3) (vC (.int 1))) (bI ai)))
    (aE (aF 6 (aq bf (b_ 1 bF (aa (ac 1) ai)) (aJ (g1 cY) (aa (aq a8 (ac 3) (vC (.int 1))) ai))))
    (aE (aF 7 (bI (aa (aq a8 (ac 3) (vC (.int 0))) (aa (aq aO (pZ (aq a8 (ac 3) (vC (.int 1))) eI (dO (ac 6))) (pZ (aq a8 (ac 3) (vC (.int 1))) (dO (aq aO (ac 6) (vC (.int 1)))) eI)) (aa (aq a8 (ac 3) (vC (.int 2))) (aa (aq a8 (ac 3) (vC (.int 3))) ai))))))
    (j3 (a9 (b_ 2 jh (aa (ac 4) (aa (aq a8 (b_ 1 dr (aa (ac 7) ai)) (vC (.int 0))) ai))))
    (bN (vC (.bool false)))
    fB)))
    fB (ii ns d3 v2 W f v53 v6 v7)=some (.nx (ii ns d4 v2 W f v53 v64 v74))∧jY d4:=by
    by_cases hE:W.ties.isEmpty=true
    · refine⟨d3,v6,v7,?_,hd3⟩
      rw [hE] at z1
      simp only [ii]
      generalize W.ties.map av=TZ at*
      generalize aB W=WW at*
      generalize dF f=F1 at*
      simp? [g1',z1]
    · have hE':W.ties.isEmpty=false:=by simpa using hE
      have hpos:0 < W.ties.length:=SG.mpr (by intro e;rw [e] at hE';simp at hE')
      obtain⟨n,d4,t1,n0,n1,hd4⟩:=jW hd3
      have gm:∀e:En,bf e (.d (.int n)) (.d (.int (W.ties.length:Int)))=some (.d (.int (n % (W.ties.length:Int)))):=fun e=>aY ↥0
      have a0':=uQ (n:=n) (k:=(W.ties.length:Int)) ↥0;have a1':=wn (n:=n) (k:=(W.ties.length:Int)) ↥0
      obtain⟨i,hi⟩:∃i:Nat,n % (W.ties.length:Int)=(i:Int):=⟨(n % (W.ties.length:Int)).toNat,by lia⟩
      rw [hi] at gm a1'
      have il:i < W.ties.length:=by lia
      let Wf:bZ:=⟨W.things,W.ties.take i++W.ties.drop (i+1),W.pat,W.asks⟩
      have hs:W.ties=W.ties.take i++W.ties[i]::W.ties.drop (i+1):=by rw [List.getElem_cons_drop,Sy]
      have okf:Wf.Ok:=⟨ok.t0,ok.t1,fun t ht=>ok.ties t (by
        rcases MS ht with h | h
        · exact SA h
        · exact SB h),by show(W.ties.take i++W.ties.drop (i+1)).length≤16;rw [Ox,OK,OZ];lia,ok.pl,ok.pat,ok.a0,ok.a1⟩
      obtain⟨ff,df,Bf⟩:=xw okf w1 (by show(W.ties.take i++W.ties.drop (i+1)).length≤6;rw [Ox,OK,OZ];lia)
      have le:=B.val.fewer Bf.val hs rfl rfl rfl rfl (fun p hp=>(ok.pat p hp).1) ok.a0
      have nl:=uc Bf B le
      have be:=Bf.eq
      have b0:=Bf.at0
      have c1:=uZ (xs:=W.ties.map av) (i:=i)
      have c2:=uY (xs:=W.ties.map av) (i:=i+1)
      rw [show((i+1:Nat):Int)=(i:Int)+1 by lia] at c2
      have ca:∀e:En,aO e (.d (.tuple ((W.ties.map av).take i))) (.d (.tuple ((W.ties.map av).drop (i+1))))=some (.d (.tuple ((W.ties.map av).take i++(W.ties.map av).drop (i+1)))):=fun e=>lR (by rw [OZ,OK,Nw];lia)
      have eW:aB Wf=.tuple [.int W.things,.tuple ((W.ties.map av).take i++(W.ties.map av).drop (i+1)),.tuple (W.pat.map .int),.int W.asks]:=by
        rw [bX]
        show PyData.tuple [.int W.things,.tuple ((W.ties.take i++W.ties.drop (i+1)).map av),.tuple (W.pat.map .int),.int W.asks]=_
        rw [Oi,List.map_take,List.map_drop]
      rw [eW] at be
      rw [hE'] at z1
      refine⟨d4,some (.d (.int (i:Int))),some (.d (.tuple [.int W.things,.tuple ((W.ties.map av).take i++(W.ties.map av).drop (i+1)),.tuple (W.pat.map .int),.int W.asks])),?_,hd4⟩
      simp only [ii]
      generalize (W.ties.map av).take i++(W.ties.map av).drop (i+1)=T3 at*
      generalize (W.ties.map av).take i=T1 at*
      generalize (W.ties.map av).drop (i+1)=T2 at*
      generalize W.ties.map av=TZ at*
      generalize W.pat.map PyData.int=PZ at*
      generalize aB W=WW at*
      generalize dF ff=F2 at*
      generalize dF f=F1 at*
      simp? [g0',g1',g2',g3',z1,t1,gl,gm,c1,c2,ca,be,b0,nl,bR,pE]
  obtain⟨d4,v64,v74,s4,hd4⟩:=s4
  obtain⟨n,d5,t5,n0,n1,hd5⟩:=jW hd4
  obtain⟨a,tt⟩:=Bs (W:=W) (nn:=n) ok n0
  obtain⟨ft,dt,Bt'⟩:=xw (Ds ok a) w1 (by show((W.ties.drop a++W.ties.take a).map (cf W.things)).length≤6;rw [Nw,Ox,OZ,OK];lia)
  have ev:=Gm ok a B.val Bt'.val
  have ef:ft=f:=(pG B.low Bt'.low ev).symm
  subst ef
  have sm':=Bq B.b1 B.b2
  have be:=Bt'.eq
  have b0:=Bt'.at0
  have s5:j3 (uJ (a9 (b_ 2 lY (aa (aq a8 (b_ 1 dr (aa (b_ 2 gu (aa (b_ 1 bF (aa (ac 1) ai)) (aa (ac 3) ai))) ai)) (vC (.int 0))) (aa (ac 4) ai))))) (bN (vC (.bool false))) fB (ii ns d4 v2 W ft v53 v64 v74)=some (.nx (ii ns d5 v2 W ft v53 v64 v74)):=by
    simp only [ii]
    generalize aB (uG W a)=W2 at*
    generalize aB W=WW at*
    generalize dF ft=F1 at*
    simp? [t5,tt,be,b0,sm',bR,pE]
  refine⟨ii ns d5 v2 W ft v53 v64 v74,?_,.mk hd5⟩
  unfold GR
  rw [az s1,az s2,az (s3 _),az s4,s5]
theorem Ac(ns:List Int)(hl:ns.length≤63):∃as',oI [.d (.list (ns.map .int))]=some (.d (.bool true),as'):=by
  obtain⟨ds,td,hd⟩:=Dl ns hl
  obtain⟨e2,h1,h2⟩:=dc (own:=[]) (g:=af 2) (f:=GR) (fun _ e=>LI ns e) (bM 0 2) 0 [some (.d (.list (ns.map .int))),some (.l (ds.map .int)),none,none,none,none,none,none] (fun i x e hx h=>by
    obtain⟨hd⟩:=h
    rename_i ds v2 v3 v4 v5 v6 v7
    obtain⟨e2,h3,h4⟩:=Ad (ns:=ns) hd (v2:=some (.d x)) (v3:=v3) (v4:=v4) (v5:=v5) (v6:=v6) (v7:=v7)
    exact⟨_,e2,rfl,h3,dm,h4⟩) (.mk hd)
  obtain⟨hd'⟩:=h2
  rename_i ds' v2 v3 v4 v5 v6 v7
  have hs:∀Wl,eV Wl Jh (af 2) GR [some (.d (.list (ns.map .int))),some (.l (ds.map .int)),none,none,none,none,none,none]=some (.nx [some (.d (.list (ns.map .int))),some (.l (ds'.map .int)),v2,v3,v4,v5,v6,v7]):=fun Wl=>by
    rw [fR (show Jh [some (.d (.list (ns.map .int))),some (.l (ds.map .int)),none,none,none,none,none,none]=some (bM 0 2,[],[some (.d (.list (ns.map .int))),some (.l (ds.map .int)),none,none,none,none,none,none]) from cJ (n:=2) rfl ⋯ ⋯),h1]
  exact⟨_,by simp? [oI,DN,td,hs,bR];rfl⟩
def kE(P:Params)(k:Str)(t:Tok)(v:MX):DictEntry:=⟨PyData.keyHash P k,.str k t,v⟩
def kF(n:Str)(s:Nq)(doc pm:MX)(c:MW):Obj:=⟨.type "function",none,.func (OL n n (eF s) (dk s) (aw s) .none .none doc pm none (.ref c) .none),#[]⟩
def kI(n:Int):MX:=.int n 0
def kC(n:Str)(a:Nat)(l:List MX)(z:Nat):Obj:=⟨.type "code",none,.fields (Value.str n a::Value.str n (a+1)::Value.str "/claim/cut.py" (a+2)::l++[Value.str "/claim/cut.py" z]).toArray,#[]⟩
def kT(l:List MX)(n:Nat):Obj:=⟨.type "tuple",none,.seq l.toArray n,#[]⟩
def JT:MX:=.str "askedpairs.errors" 187
def BK:MX:=.str "askedpairs.fractions" 231
def BL:MX:=.str "askedpairs.linear" 278
def JU:MX:=.str "askedpairs.worthpaper" 322
def JV:MX:=.str "askedpairs.pricepaper" 331
def DT:MX:=.str "askedpairs.bounds" 339
def j_:MX:=.str "law_askedpairs_k54_whole_bound_raised" 375
def kK(P:Params):W.Frag:=[(3,⟨.type "dict",none,.dict (List.toArray [kE P "__name__" 165 (.str "law_askedpairs_k54_whole_bound_raised" 375),kE P "__doc__" 166 (.none),kE P "__package__" 167 (.none),kE P "__loader__" 168 (.builtin "__main__.__loader__#opaque"),kE P "__spec__" 169 (.none),kE P "__annotations__" 170 (.ref 6),kE P "__builtins__" 171 (.ref 4),kE P "__file__" 173 (.str "/claim/cut.py" 172),kE P "__cached__" 174 (.none),kE P "PairsError" 206 (.ref 24),kE P "TooMany" 222 (.ref 37),kE P "refuse_above" 230 (.ref 46),kE P "ZERO" 235 (.ref 47),kE P "common_divisor" 243 (.ref 54),kE P "lowest" 252 (.ref 61),kE P "plus" 260 (.ref 68),kE P "times" 268 (.ref 75),kE P "total" 277 (.ref 82),kE P "column_to_enter" 285 (.ref 87),kE P "is_sooner" 295 (.ref 94),kE P "row_to_leave" 309 (.ref 101),kE P "exchanged" 315 (.ref 106),kE P "best_levels" 321 (.ref 111),kE P "gain_of" 330 (.ref 118),kE P "shares_worth" 338 (.ref 123),kE P "MOST_TIES_OF_BOUND" 342 (.int (10) 341),kE P "rows_of" 348 (.ref 128),kE P "limits_of" 359 (.ref 135),kE P "as_prices" 368 (.ref 142),kE P "bound" 374 (.ref 147),kE P "_law_mixed" 385 (.ref 154),kE P "_law_draws" 396 (.ref 161),kE P "_law_next" 403 (.ref 168),kE P "_law_gcd" 411 (.ref 175),kE P "_law_low" 420 (.ref 182),kE P "_law_less" 428 (.ref 189),kE P "_law_same" 436 (.ref 196),kE P "_law_chance" 445 (.ref 203),kE P "_law_worth" 453 (.ref 210),kE P "_law_ties" 472 (.ref 217),kE P "_law_web" 488 (.ref 224),kE P "_law_put" 497 (.ref 231),kE P "_law_more" 515 (.ref 238),kE P "_law_turned" 533 (.ref 245),kE P "law" 547 (.ref 252)]) 45,#[]⟩),
  (46,kF "refuse_above" cz (.none) JT 45),
  (45,kC "refuse_above" 223 [kI 6,kI 2,kI 0,kI 0,kI 3,.ref 40,.bool true,kI 181,.ref 41,.none,.ref 42,.ref 43,.ref 44,kI 228,kI 6] 229),
  (54,kF "common_divisor" bV (.none) BK 53),
  (53,kC "common_divisor" 236 [kI 11,kI 2,kI 0,kI 0,kI 3,.ref 48,.bool true,kI 181,.ref 49,.none,.ref 50,.ref 51,.ref 52,kI 241,kI 11] 242),
  (61,kF "lowest" fw (.none) BK 60),
  (60,kC "lowest" 244 [kI 15,kI 2,kI 0,kI 0,kI 3,.ref 55,.bool true,kI 181,.ref 56,.none,.ref 57,.ref 58,.ref 59,kI 250,kI 15] 251),
  (68,kF "plus" mf (.none) BK 67),
  (67,kC "plus" 253 [kI 20,kI 2,kI 0,kI 0,kI 3,.ref 62,.bool true,kI 181,.ref 63,.none,.ref 64,.ref 65,.ref 66,kI 258,kI 20] 259),
  (75,kF "times" gP (.none) BK 74),
  (74,kC "times" 261 [kI 22,kI 2,kI 0,kI 0,kI 3,.ref 69,.bool true,kI 181,.ref 70,.none,.ref 71,.ref 72,.ref 73,kI 266,kI 22] 267),
  (82,kF "total" jQ (.none) BK 81),
  (81,kC "total" 269 [kI 24,kI 1,kI 0,kI 0,kI 3,.ref 76,.bool true,kI 181,.ref 77,.none,.ref 78,.ref 79,.ref 80,kI 275,kI 24] 276),
  (87,kF "column_to_enter" bK (.none) BL 86),
  (86,kC "column_to_enter" 280 [kI 30,kI 2,kI 0,kI 0,kI 3,.ref 83,.bool true,kI 181,.ref 84,.none,.none,.none,.ref 85,kI 283,kI 30] 284),
  (94,kF "is_sooner" eC (.none) BL 93),
  (93,kC "is_sooner" 286 [kI 33,kI 2,kI 0,kI 0,kI 3,.ref 88,.bool true,kI 181,.ref 89,.none,.ref 90,.ref 91,.ref 92,kI 293,kI 33] 294),
  (101,kF "row_to_leave" cA (.none) BL 100),
  (100,kC "row_to_leave" 296 [kI 36,kI 3,kI 0,kI 0,kI 3,.ref 95,.bool true,kI 181,.ref 96,.none,.ref 97,.ref 98,.ref 99,kI 307,kI 36] 308),
  (106,kF "exchanged" eB (.none) BL 105),
  (105,kC "exchanged" 310 [kI 43,kI 4,kI 0,kI 0,kI 3,.ref 102,.bool true,kI 181,.ref 103,.none,.none,.none,.ref 104,kI 313,kI 43] 314),
  (111,kF "best_levels" cX (.none) BL 110),
  (110,kC "best_levels" 316 [kI 53,kI 3,kI 0,kI 0,kI 3,.ref 107,.bool true,kI 181,.ref 108,.none,.none,.none,.ref 109,kI 319,kI 53] 320),
  (118,kF "gain_of" fX (.none) JU 117),
  (117,kC "gain_of" 324 [kI 70,kI 1,kI 0,kI 0,kI 3,.ref 112,.bool true,kI 181,.ref 113,.none,.ref 114,.ref 115,.ref 116,kI 328,kI 70] 329),
  (123,kF "shares_worth" cB (.none) JV 122),
  (122,kC "shares_worth" 333 [kI 73,kI 2,kI 0,kI 0,kI 3,.ref 119,.bool true,kI 181,.ref 120,.none,.none,.none,.ref 121,kI 336,kI 73] 337),
  (128,kF "rows_of" fY (.none) DT 127),
  (127,kC "rows_of" 343 [kI 77,kI 1,kI 0,kI 0,kI 3,.ref 124,.bool true,kI 181,.ref 125,.none,.none,.none,.ref 126,kI 346,kI 77] 347),
  (135,kF "limits_of" eD (.none) DT 134),
  (134,kC "limits_of" 349 [kI 84,kI 1,kI 0,kI 0,kI 3,.ref 129,.bool true,kI 181,.ref 130,.none,.ref 131,.ref 132,.ref 133,kI 357,kI 84] 358),
  (142,kF "as_prices" eA (.none) DT 141),
  (141,kC "as_prices" 360 [kI 87,kI 2,kI 0,kI 0,kI 3,.ref 136,.bool true,kI 181,.ref 137,.none,.ref 138,.ref 139,.ref 140,kI 366,kI 87] 367),
  (147,kF "bound" jP (.none) DT 146),
  (146,kC "bound" 369 [kI 90,kI 1,kI 0,kI 0,kI 3,.ref 143,.bool true,kI 181,.ref 144,.none,.none,.none,.ref 145,kI 372,kI 90] 373),
  (154,kF "_law_mixed" jN (.none) j_ 153),
  (153,kC "_law_mixed" 377 [kI 97,kI 2,kI 0,kI 0,kI 3,.ref 148,.bool true,kI 181,.ref 149,.none,.ref 150,.ref 151,.ref 152,kI 383,kI 97] 384),
  (161,kF "_law_draws" jM (.none) j_ 160),
  (160,kC "_law_draws" 386 [kI 100,kI 1,kI 0,kI 0,kI 3,.ref 155,.bool true,kI 181,.ref 156,.none,.ref 157,.ref 158,.ref 159,kI 394,kI 100] 395),
  (168,kF "_law_next" jr (.none) j_ 167),
  (167,kC "_law_next" 397 [kI 113,kI 1,kI 0,kI 0,kI 3,.ref 162,.bool true,kI 181,.ref 163,.none,.ref 164,.ref 165,.ref 166,kI 401,kI 113] 402),
  (175,kF "_law_gcd" qu (.none) j_ 174),
  (174,kC "_law_gcd" 404 [kI 117,kI 2,kI 0,kI 0,kI 3,.ref 169,.bool true,kI 181,.ref 170,.none,.ref 171,.ref 172,.ref 173,kI 409,kI 117] 410),
  (182,kF "_law_low" o8 (.none) j_ 181),
  (181,kC "_law_low" 412 [kI 121,kI 2,kI 0,kI 0,kI 3,.ref 176,.bool true,kI 181,.ref 177,.none,.ref 178,.ref 179,.ref 180,kI 418,kI 121] 419),
  (189,kF "_law_less" l_ (.none) j_ 188),
  (188,kC "_law_less" 421 [kI 124,kI 2,kI 0,kI 0,kI 3,.ref 183,.bool true,kI 181,.ref 184,.none,.ref 185,.ref 186,.ref 187,kI 426,kI 124] 427),
  (196,kF "_law_same" md (.none) j_ 195),
  (195,kC "_law_same" 429 [kI 126,kI 2,kI 0,kI 0,kI 3,.ref 190,.bool true,kI 181,.ref 191,.none,.ref 192,.ref 193,.ref 194,kI 434,kI 126] 435),
  (203,kF "_law_chance" iw (.none) j_ 202),
  (202,kC "_law_chance" 437 [kI 128,kI 2,kI 0,kI 0,kI 3,.ref 197,.bool true,kI 181,.ref 198,.none,.ref 199,.ref 200,.ref 201,kI 443,kI 128] 444),
  (210,kF "_law_worth" jO (.none) j_ 209),
  (209,kC "_law_worth" 446 [kI 138,kI 2,kI 0,kI 0,kI 3,.ref 204,.bool true,kI 181,.ref 205,.none,.ref 206,.ref 207,.ref 208,kI 451,kI 138] 452),
  (217,kF "_law_ties" me (.none) j_ 216),
  (216,kC "_law_ties" 454 [kI 140,kI 3,kI 0,kI 0,kI 3,.ref 211,.bool true,kI 181,.ref 212,.none,.ref 213,.ref 214,.ref 215,kI 470,kI 140] 471),
  (224,kF "_law_web" qA (.none) j_ 223),
  (223,kC "_law_web" 473 [kI 155,kI 3,kI 0,kI 0,kI 3,.ref 218,.bool true,kI 181,.ref 219,.none,.ref 220,.ref 221,.ref 222,kI 486,kI 155] 487),
  (231,kF "_law_put" qz (.none) j_ 230),
  (230,kC "_law_put" 489 [kI 165,kI 3,kI 0,kI 0,kI 3,.ref 225,.bool true,kI 181,.ref 226,.none,.ref 227,.ref 228,.ref 229,kI 495,kI 165] 496),
  (238,kF "_law_more" ma (.none) j_ 237),
  (237,kC "_law_more" 498 [kI 167,kI 2,kI 0,kI 0,kI 3,.ref 232,.bool true,kI 181,.ref 233,.none,.ref 234,.ref 235,.ref 236,kI 513,kI 167] 514),
  (245,kF "_law_turned" iy (.none) j_ 244),
  (244,kC "_law_turned" 516 [kI 182,kI 2,kI 0,kI 0,kI 3,.ref 239,.bool true,kI 181,.ref 240,.none,.ref 241,.ref 242,.ref 243,kI 531,kI 182] 532),
  (252,kF "law" mJ (.none) j_ 251),
  (251,kC "law" 534 [kI 189,kI 1,kI 0,kI 0,kI 3,.ref 246,.bool true,kI 181,.ref 247,.none,.ref 248,.ref 249,.ref 250,kI 545,kI 189] 546),
  (47,kT [.int (0) 233,.int (1) 234] 0)]
def kA:List MW:=[3,46,45,54,53,61,60,68,67,75,74,82,81,87,86,94,93,101,100,106,105,111,110,118,117,123,122,128,127,135,134,142,141,147,146,154,153,161,160,168,167,175,174,182,181,189,188,196,195,203,202,210,209,217,216,224,223,231,230,238,237,245,244,252,251,47]
def kq:Nk:={RN with main:={RN.main with body:=[top 1,top 2,top 3,top 5,top 6,top 7,top 8,top 9,top 10,top 12,top 13,top 14,top 15,top 16,top 18,top 20,top 22,top 23,top 24,top 25,top 26,top 28,top 29,top 30,top 31,top 32,top 33,top 34,top 35,top 36,top 37,top 38,top 39,top 40,top 41,top 42]}}
def kH:W.Hook:=W.kHook kK kA (fun _=>by kernel_rfl)
theorem left:W.LeftO RN kq [] (fun s=>W.xlAt kq [] s&&W.recOk (W.RowW.records (W.OpenRow.toRowW (W.OpenLaw.row SJ))) s) (W.Hook.obs kH) (W.Hook.val kH) 3092:=fun w=>by kernel_rfl
theorem DX{P:List MX→Prop}(h:∀a0,P [a0]):∀us:List MX,us.length=1→P us:=fun us e=>match us,e with | [a0],_=>h a0
theorem sX{P:List MX→Prop}(h:∀a0 a1,P [a0,a1]):∀us:List MX,us.length=2→P us:=fun us e=>match us,e with | [a0,a1],_=>h a0 a1
theorem He{P:List MX→Prop}(h:∀a0 a1 a2,P [a0,a1,a2]):∀us:List MX,us.length=3→P us:=fun us e=>match us,e with | [a0,a1,a2],_=>h a0 a1 a2
theorem Kj{P:List MX→Prop}(h:∀a0 a1 a2 a3,P [a0,a1,a2,a3]):∀us:List MX,us.length=4→P us:=fun us e=>match us,e with | [a0,a1,a2,a3],_=>h a0 a1 a2 a3
abbrev hQ(w:Ng)(n:Str)(s:Nq)(a c:MW)(d p:MX):Prop:=(Og (kK w.params) ND n,List.lookup a (kK w.params),QX (kK w.params) (.ref c) n,Qg (kK w.params) (.ref a))=(some (some (.ref a)),some (kF n s d p c),true,true)
theorem hm{w:Ng}{h:Nh}{mg:Str→Option MX}{n:Str}{s:Nq}{a c:MW}{d p:MX}{ps:List Str}(X:(kK w.params).In h)(G:h.Ns ND mg)
    (e:hQ w n s a c d p)
    (b:∀(kV doc pm:MX) (an:Option MW) (cdv ct:MX) (us:List MX),us.length=ps.length→bindArgs (OL n n (eF s) (dk s) (aw s) .none kV doc pm an cdv ct) ⟨us,[]⟩=pure (ps.zip us)):
    bE (kK w.params) mg n s a (OL n n (eF s) (dk s) (aw s) .none .none d p none (.ref c) .none) ps:=EE X G (congrArg (·.1) e) (congrArg (·.2.1) e) (congrArg (·.2.2.1) e) (congrArg (·.2.2.2) e) b
theorem mO(w:Ng):hQ w "refuse_above" cz 46 45 (.none) JT:=by kernel_rfl
theorem kN(w:Ng):hQ w "common_divisor" bV 54 53 (.none) BK:=by kernel_rfl
theorem x9(w:Ng):hQ w "lowest" fw 61 60 (.none) BK:=by kernel_rfl
theorem Ca(w:Ng):hQ w "plus" mf 68 67 (.none) BK:=by kernel_rfl
theorem z_(w:Ng):hQ w "times" gP 75 74 (.none) BK:=by kernel_rfl
theorem Aa(w:Ng):hQ w "total" jQ 82 81 (.none) BK:=by kernel_rfl
theorem ka(w:Ng):hQ w "column_to_enter" bK 87 86 (.none) BL:=by kernel_rfl
theorem rV(w:Ng):hQ w "is_sooner" eC 94 93 (.none) BL:=by kernel_rfl
theorem mP(w:Ng):hQ w "row_to_leave" cA 101 100 (.none) BL:=by kernel_rfl
theorem rT(w:Ng):hQ w "exchanged" eB 106 105 (.none) BL:=by kernel_rfl
theorem oz(w:Ng):hQ w "best_levels" cX 111 110 (.none) BL:=by kernel_rfl
theorem vz(w:Ng):hQ w "gain_of" fX 118 117 (.none) JU:=by kernel_rfl
theorem mQ(w:Ng):hQ w "shares_worth" cB 123 122 (.none) JV:=by kernel_rfl
theorem vA(w:Ng):hQ w "rows_of" fY 128 127 (.none) DT:=by kernel_rfl
theorem rW(w:Ng):hQ w "limits_of" eD 135 134 (.none) DT:=by kernel_rfl
theorem rS(w:Ng):hQ w "as_prices" eA 142 141 (.none) DT:=by kernel_rfl
theorem z9(w:Ng):hQ w "bound" jP 147 146 (.none) DT:=by kernel_rfl
theorem zY(w:Ng):hQ w "_law_mixed" jN 154 153 (.none) j_:=by kernel_rfl
theorem zX(w:Ng):hQ w "_law_draws" jM 161 160 (.none) j_:=by kernel_rfl
theorem B8(w:Ng):hQ w "_law_next" jr 168 167 (.none) j_:=by kernel_rfl
theorem EM(w:Ng):hQ w "_law_gcd" qu 175 174 (.none) j_:=by kernel_rfl
theorem EN(w:Ng):hQ w "_law_low" o8 182 181 (.none) j_:=by kernel_rfl
theorem B6(w:Ng):hQ w "_law_less" l_ 189 188 (.none) j_:=by kernel_rfl
theorem B9(w:Ng):hQ w "_law_same" md 196 195 (.none) j_:=by kernel_rfl
theorem x6(w:Ng):hQ w "_law_chance" iw 203 202 (.none) j_:=by kernel_rfl
theorem zZ(w:Ng):hQ w "_law_worth" jO 210 209 (.none) j_:=by kernel_rfl
theorem B_(w:Ng):hQ w "_law_ties" me 217 216 (.none) j_:=by kernel_rfl
theorem EQ(w:Ng):hQ w "_law_web" qA 224 223 (.none) j_:=by kernel_rfl
theorem EO(w:Ng):hQ w "_law_put" qz 231 230 (.none) j_:=by kernel_rfl
theorem B7(w:Ng):hQ w "_law_more" ma 238 237 (.none) j_:=by kernel_rfl
theorem x8(w:Ng):hQ w "_law_turned" iy 245 244 (.none) j_:=by kernel_rfl
theorem ER(w:Ng):hQ w "law" mJ 252 251 (.none) j_:=by kernel_rfl
theorem all_mk{l:W.OpenLaw}{w:Ng}{h:Nh}{mg:Str→Option MX}{fa:MW}(X:(kK w.params).In h)(G:h.Ns ND mg)(hfa:mg "law"=some (.ref fa)):
    ∃fd:Nt,(∀(s:MZ) (v:MX),BindsTo s fd ⟨[v],[]⟩ [("_law_script",v)])∧∀base:Nh,(kK w.params).In base→base.Ns ND mg→aW l.prog w (kK w.params) mg base cD 7 fa fd ["_law_script"] (cO (kK w.params) 1 oI):=by
  have e:=hfa.symm.trans (W.mg_of X G (show Og (kK w.params) ND "law"=some (some (.ref 252)) by kernel_rfl))
  cases e
  have T:jT mg:=⟨OU X G (show Og (kK w.params) ND "abs"=some none by kernel_rfl),OU X G (show Og (kK w.params) ND "len"=some none by kernel_rfl),OU X G (show Og (kK w.params) ND "min"=some none by kernel_rfl),OU X G (show Og (kK w.params) ND "max"=some none by kernel_rfl),OU X G (show Og (kK w.params) ND "range"=some none by kernel_rfl),OU X G (show Og (kK w.params) ND "repr"=some none by kernel_rfl),OU X G (show Og (kK w.params) ND "tuple"=some none by kernel_rfl),OU X G (show Og (kK w.params) ND "int"=some none by kernel_rfl),OU X G (show Og (kK w.params) ND "zip"=some none by kernel_rfl),OU X G (show Og (kK w.params) ND "enumerate"=some none by kernel_rfl),OU X G (show Og (kK w.params) ND "list"=some none by kernel_rfl),OU X G (show Og (kK w.params) ND "ValueError"=some none by kernel_rfl)⟩
  have KI:bE (kK w.params) mg "refuse_above" cz 46 _ ["many","most"]:=hm X G (mO w) fun _ _ _ _ _ _=>sX fun _ _=>rfl
  have KD:bE (kK w.params) mg "common_divisor" bV 54 _ ["one","other"]:=hm X G (kN w) fun _ _ _ _ _ _=>sX fun _ _=>rfl
  have KF:bE (kK w.params) mg "lowest" fw 61 _ ["top","bottom"]:=hm X G (x9 w) fun _ _ _ _ _ _=>sX fun _ _=>rfl
  have L3:bE (kK w.params) mg "plus" mf 68 _ ["one","other"]:=hm X G (Ca w) fun _ _ _ _ _ _=>sX fun _ _=>rfl
  have KQ:bE (kK w.params) mg "times" gP 75 _ ["one","other"]:=hm X G (z_ w) fun _ _ _ _ _ _=>sX fun _ _=>rfl
  have LH:bE (kK w.params) mg "total" jQ 82 _ ["row"]:=hm X G (Aa w) fun _ _ _ _ _ _=>DX fun _=>rfl
  have Ky:bE (kK w.params) mg "column_to_enter" bK 87 _ ["foot","outside"]:=hm X G (ka w) fun _ _ _ _ _ _=>sX fun _ _=>rfl
  have KY:bE (kK w.params) mg "is_sooner" eC 94 _ ["one","other"]:=hm X G (rV w) fun _ _ _ _ _ _=>sX fun _ _=>rfl
  have KH:bE (kK w.params) mg "row_to_leave" cA 101 _ ["tableau","within","column"]:=hm X G (mP w) fun _ _ _ _ _ _=>He fun _ _ _=>rfl
  have KZ:bE (kK w.params) mg "exchanged" eB 106 _ ["tableau","bottom","place","column"]:=hm X G (rT w) fun _ _ _ _ _ _=>Kj fun _ _ _ _=>rfl
  have KM:bE (kK w.params) mg "best_levels" cX 111 _ ["gains","rows","limits"]:=hm X G (oz w) fun _ _ _ _ _ _=>He fun _ _ _=>rfl
  have Li:bE (kK w.params) mg "gain_of" fX 118 _ ["tie"]:=hm X G (vz w) fun _ _ _ _ _ _=>DX fun _=>rfl
  have KJ:bE (kK w.params) mg "shares_worth" cB 123 _ ["web","shares"]:=hm X G (mQ w) fun _ _ _ _ _ _=>sX fun _ _=>rfl
  have Ln:bE (kK w.params) mg "rows_of" fY 128 _ ["web"]:=hm X G (vA w) fun _ _ _ _ _ _=>DX fun _=>rfl
  have K3:bE (kK w.params) mg "limits_of" eD 135 _ ["web"]:=hm X G (rW w) fun _ _ _ _ _ _=>DX fun _=>rfl
  have K4:bE (kK w.params) mg "as_prices" eA 142 _ ["web","row"]:=hm X G (rS w) fun _ _ _ _ _ _=>sX fun _ _=>rfl
  have Lh:bE (kK w.params) mg "bound" jP 147 _ ["web"]:=hm X G (z9 w) fun _ _ _ _ _ _=>DX fun _=>rfl
  have LG:bE (kK w.params) mg "_law_mixed" jN 154 _ ["_law_cell","_law_k"]:=hm X G (zY w) fun _ _ _ _ _ _=>sX fun _ _=>rfl
  have LN:bE (kK w.params) mg "_law_draws" jM 161 _ ["_law_script"]:=hm X G (zX w) fun _ _ _ _ _ _=>DX fun _=>rfl
  have Kz:bE (kK w.params) mg "_law_next" jr 168 _ ["_law_drawn"]:=hm X G (B8 w) fun _ _ _ _ _ _=>DX fun _=>rfl
  have Ms:bE (kK w.params) mg "_law_gcd" qu 175 _ ["_law_one","_law_other"]:=hm X G (EM w) fun _ _ _ _ _ _=>sX fun _ _=>rfl
  have LU:bE (kK w.params) mg "_law_low" o8 182 _ ["_law_top","_law_bottom"]:=hm X G (EN w) fun _ _ _ _ _ _=>sX fun _ _=>rfl
  have LW:bE (kK w.params) mg "_law_less" l_ 189 _ ["_law_one","_law_other"]:=hm X G (B6 w) fun _ _ _ _ _ _=>sX fun _ _=>rfl
  have L8:bE (kK w.params) mg "_law_same" md 196 _ ["_law_found","_law_due"]:=hm X G (B9 w) fun _ _ _ _ _ _=>sX fun _ _=>rfl
  have Ls:bE (kK w.params) mg "_law_chance" iw 203 _ ["_law_number","_law_kind"]:=hm X G (x6 w) fun _ _ _ _ _ _=>sX fun _ _=>rfl
  have LM:bE (kK w.params) mg "_law_worth" jO 210 _ ["_law_number","_law_kind"]:=hm X G (zZ w) fun _ _ _ _ _ _=>sX fun _ _=>rfl
  have L6:bE (kK w.params) mg "_law_ties" me 217 _ ["_law_drawn","_law_things","_law_many"]:=hm X G (B_ w) fun _ _ _ _ _ _=>He fun _ _ _=>rfl
  have Mu:bE (kK w.params) mg "_law_web" qA 224 _ ["_law_drawn","_law_most","_law_ties_here"]:=hm X G (EQ w) fun _ _ _ _ _ _=>He fun _ _ _=>rfl
  have Ml:bE (kK w.params) mg "_law_put" qz 231 _ ["_law_row","_law_at","_law_thing"]:=hm X G (EO w) fun _ _ _ _ _ _=>He fun _ _ _=>rfl
  have L9:bE (kK w.params) mg "_law_more" ma 238 _ ["_law_number","_law_web_here"]:=hm X G (B7 w) fun _ _ _ _ _ _=>sX fun _ _=>rfl
  have Lu:bE (kK w.params) mg "_law_turned" iy 245 _ ["_law_number","_law_web_here"]:=hm X G (x8 w) fun _ _ _ _ _ _=>sX fun _ _=>rfl
  have MN:bE (kK w.params) mg "law" mJ 252 _ ["_law_script"]:=hm X G (ER w) fun _ _ _ _ _ _=>DX fun _=>rfl
  have lG_47:List.lookup 47 (kK w.params)=some (kT [.int (0) 233,.int (1) 234] 0):=by kernel_rfl
  have m_ZERO:=W.mg_of X G (show Og (kK w.params) ND "ZERO"=some (some (.ref 47)) by kernel_rfl)
  have c_ZERO:∀F,DA (kK w.params) F (.tuple [.int (0),.int (1)]) (.ref 47):=fun F=>by simp only [DA,aT];exact⟨47,[V.int (0),V.int (1)],rfl,.inr ⟨_,_,_,lG_47,rfl,rfl,rfl,(by show 2≤Nr;decide),(.cons ⟨_,rfl⟩ (.cons ⟨_,rfl⟩ .nil))⟩,⟨_,_,rfl,rfl,⟨_,_,rfl,rfl,rfl⟩⟩⟩
  have m_MOST_TIES_OF_BOUND:=W.mg_of X G (show Og (kK w.params) ND "MOST_TIES_OF_BOUND"=some (some (.int (10) 341)) by kernel_rfl)
  refine⟨OL "law" "law" (eF mJ) (dk mJ) (aw mJ) .none .none (.none) j_ none (.ref 251) .none,fun s v=>.of_eq rfl,fun base _ _=>?_⟩
  have KR:=mR (P:=l.prog) (w:=w) (base:=base) KI T
  have KL:=kW (P:=l.prog) (w:=w) (base:=base) KD T
  have KG:=yh (P:=l.prog) (w:=w) (base:=base) KF T KD KL
  have Ma:=Ct (P:=l.prog) (w:=w) (base:=base) L3 T KF KG
  have K0:=Ap (P:=l.prog) (w:=w) (base:=base) KQ T KF KG
  have LX:=Aq (P:=l.prog) (w:=w) (base:=base) LH T L3 Ma m_ZERO c_ZERO
  have KA:=ke (P:=l.prog) (w:=w) (base:=base) Ky T
  have Ld:=r9 (P:=l.prog) (w:=w) (base:=base) KY T
  have KP:=mS (P:=l.prog) (w:=w) (base:=base) KH T KY Ld
  have Le:=r8 (P:=l.prog) (w:=w) (base:=base) KZ T
  have K1:=oP (P:=l.prog) (w:=w) (base:=base) KM T Ky KA KH KP KF KG KZ Le m_ZERO c_ZERO
  have Lz:=vF (P:=l.prog) (w:=w) (base:=base) Li T KQ K0
  have KS:=mT (P:=l.prog) (w:=w) (base:=base) KJ T LH LX KQ K0 Li Lz
  have LA:=vG (P:=l.prog) (w:=w) (base:=base) Ln T
  have Lf:=r_ (P:=l.prog) (w:=w) (base:=base) K3 T
  have Lg:=r6 (P:=l.prog) (w:=w) (base:=base) K4 T
  have Lo:=Ao (P:=l.prog) (w:=w) (base:=base) Lh T KI KR KM K1 Ln LA K3 Lf KJ KS K4 Lg KQ K0 m_MOST_TIES_OF_BOUND
  have LJ:=Am (P:=l.prog) (w:=w) (base:=base) LG T
  have L0:=Al (P:=l.prog) (w:=w) (base:=base) LN T LG LJ
  have KC:=Cq (P:=l.prog) (w:=w) (base:=base) Kz T
  have MF:=E1 (P:=l.prog) (w:=w) (base:=base) Ms T
  have LY:=E2 (P:=l.prog) (w:=w) (base:=base) LU T Ms MF
  have L7:=Co (P:=l.prog) (w:=w) (base:=base) LW T
  have Mq:=Cr (P:=l.prog) (w:=w) (base:=base) L8 T
  have LK:=yf (P:=l.prog) (w:=w) (base:=base) Ls T LU LY
  have LZ:=An (P:=l.prog) (w:=w) (base:=base) LM T
  have Mj:=Cs (P:=l.prog) (w:=w) (base:=base) L6 T Kz KC Ls LK LM LZ
  have MG:=E6 (P:=l.prog) (w:=w) (base:=base) Mu T L6 Mj Kz KC
  have Mt:=E5 (P:=l.prog) (w:=w) (base:=base) Ml T
  have Mr:=Cp (P:=l.prog) (w:=w) (base:=base) L9 T Ml Mt LU LY
  have LO:=yg (P:=l.prog) (w:=w) (base:=base) Lu T
  have MO:=E7 (P:=l.prog) (w:=w) (base:=base) MN T LN L0 Mu MG Lh Lo LW L7 L8 Mq Kz KC L9 Mr Lu LO
  exact MO
def HR(K:W.Frag):Sp:=fun vs H Q _=>∃(a:MW) (ns:List Int),vs=[.ref a]∧gC K H a (ns.map V.int)∧ns.length≤63∧∀H',Q (.bl true) H'
theorem ES{K:W.Frag}{vs:List V}{H:Hp}{Q:VK}{E:XK}(h:HR K vs H Q E):cO K 1 oI vs H Q E:=by
  obtain⟨a,ns,rfl,hS,hl,q⟩:=h
  obtain⟨as',hm⟩:=Ac ns hl
  exact vP hS hm q
theorem walk{l:W.OpenLaw}{q:Nk}{loose:List Str}{XP:(Str→Option MX)→Nh→Prop}{YP:Ng→Nh→Prop}{d:DefRec}{K:Params→W.Frag}(hn:l.most=some 63)(hdf:d.params.defaults=[])
    (hY:∀(w:Ng) (h:Nh),YP w h→(K w.params).In h)
    (F:∀(w:Ng) (mg:Str→Option MX) (fa:MW) (h:Nh),(K w.params).In h→h.Ns ND mg→mg d.name=some (.ref fa)→
      ∃fd:Nt,(∀(s:MZ) (u:MX),BindsTo s fd ⟨[u],[]⟩ [("_law_script",u)])∧∀base:Nh,(K w.params).In base→base.Ns ND mg→aW l.prog w (K w.params) mg base cD 7 fa fd ["_law_script"] (cO (K w.params) 1 oI)):
    W.WalkO q loose XP YP l.row.toRowW d [] (fun f vs=>PySem.call f vs):=
  L2.walk_of (n:=63) (k:=7) (x:="_law_script") (CX:=fun _=>cD) (sp:=fun w=>cO (K w.params) 1 oI) hn ⋯ hdf ⟨rfl,by decide,by decide,rfl⟩ hY F (fun _ _ a ns hl _ hS=>ES ⟨a,ns,rfl,hS,hl,fun _=>rfl⟩) fun _ _ _ _ _ z=>z
end V54
open PySem PySem.W PyProof.Rows
set_option maxRecDepth 100000 in
set_option maxHeartbeats 0 in
theorem PySem.Challenge.cw_askedpairs_k54_whole_bound_raised_holds : PySem.Challenge.rw_askedpairs_k54_whole_bound_raised.Holds := by
  w_on;o_law
  refine holds_open (q:=V54.kq) (loose:=[]) (Xt:=fun s=>xlAt V54.kq [] s&&recOk (RowW.records (OpenRow.toRowW (OpenLaw.row SJ))) s) (XP:=XL V54.kq []) (Yf:=Hook.obs V54.kH) (Ya:=Hook.val V54.kH) (YP:=Hook.says V54.kH) (N:=3092) V54.left (Hook.of V54.kH) (Hook.keeps V54.kH) (fun s e=>xl_of s (Bool.and_eq_true_iff.mp e).1) XL.keeps ∅ ∅ ∅ (fun s e=>recFacts_of (Bool.and_eq_true_iff.mp e).2) ∅ (by assumption) ↥2 ⟨rfl,rfl,rfl,rfl,rfl,by decide+kernel⟩ ?hw ?hc
  case hw=>w_witness2
  case hc=>exact V54.walk (l:=SJ) rfl rfl (fun w h Y=>kIn_of Y) (fun w mg fa h KX G hmg=>V54.all_mk KX G hmg)
