import PyProof.Rows.All
import KE.KRevSl
import KE.KFromBytes
import KE.KIntText
import KE.KRevIter
import KE.KSortTup
import KE.KTryMore
import PySem.Challenge.RW_askedpairs_k24_layers_told
open PySem renaming Value->LP,Addr->LQ,Shared->LR,PyData->LS,Expr->LU,World->LV,model->LY,Heap->LZ,wpAny->Ma,wpAny_bind->Mb,Program->Mc,Around->Md,Stmt->Me,starEach->Mf,sizeLine->Mi,wpAny_pure->Mj,eval->Ml,Scope->Mr,wpAny_mono->Ms,FuncData->Mw,cellsFrom->MB,mainGlobals->ME,backTo->MF,sizeLine_eq->MO,Reads->MZ,binaryOp->Ng,NameKind->Nn,codeAny->ND,Builtin->NH,bootBuiltins->NL,assignEach->NO,foldedSetIterable->NP,Keyword->NQ,wpAny_rule->NW,compareOp->NX,wpAny_loadPart'->OB,Fin->OC,wpAny_newObj_type->OG,behindInMarks->OH,call_meets->OK,swapsWith->OR,wpAny_standAt->OS,wpAny_passesOwn->OT,letOwnedTupleGo->OU,sliceBounds->OX,wpAny_Call_Name_kw->Pj,wpAny_holding->Pk,wpAny_execs_cons->PC,codeAny_mono->PF,mem_of_lookup->PH,wpAny_typeOf->PL,typeIs_int->PM,attributeBase->PN,codeAny_builtin->PR,wpAny_newList->PU,wpAny_loadPart_at->Qf,importedModules->Qi,wpAny_truthy_bool->Qk,wpAny_execs_nil->Ql,wpAny_call_entry->Qq
open PyProof.Rows renaming wpS_pure->LW,wpS_bind->LX,seqObj->Mo,envOfC->Mt,SortSt->Mz,Keyed->MP,kindOf->MX,wpS_forRange->Nq,wpS_mono->Ny,IntsAre->NF,wpS_modify->NU,SortKind->Ob,AllBare->Od,wpS_get->Ol,wpS_lift->ON,slot_tuple_getitem->OW,listItems_at->PV,listUpdate_at->PX,callWith_type1->Qm,boot_isinstance->QN,boot_sorted->Ru
open List renaming replicate->Mh,length_map->Mn,map_cons->Mp,append_nil->Mu,size_toArray->Mx,getElem?_eq_getElem->My,append_assoc->MA,range->MD,map_nil->MG,all_eq_true->ML,mem_append_right->MR,getElem?_map->MS,toArray->MV,length_append->MY,mem_cons->Nc,length_take->Nh,length_cons->Nj,mem_cons_of_mem->Nt,getElem?_set_ne->Nu,not_mem_nil->Nx,pairwise_append->Nz,take_zero->NA,nil_append->NR,getD_eq_getElem?_getD->NT,getElem?_set_self->NV,length_drop->NY,perm_append_comm->Oc,getElem?_append_left->Oe,lookup_cons->Oh,cons_append->Oi,lookup->Oq,drop_eq_getElem_cons->Os,mem_append->Ow,mem_cons_self->Oy,take_append_drop->OD,Nodup->OE,replicate_succ->OJ,map->OM,nodup_cons->OV,mem_singleton->Pa,length_set->Pb,ext_getElem?->Pc,mem_range->Pf,filterMap_cons->Ph,foldl->Pm,map_map->Po,cons_lt_cons_iff->Pq,pairwise_iff_getElem->Pr,getElem_drop->Pt,drop_zero->Pu,mem_reverse->Pv,reverse_nil->Px,map_append->Pz,take_sublist->PJ,lookup_append->Qa,lt_irrefl->Qb,getElem_take->Qd,mem_append_left->Qj,getElem?_append_right->Qn,length_replicate->Qo,flatten_cons->Qr,mergeSort_perm->Qx,getElem_mem->Qz,drop_eq_nil_of_le->QC,findIdx?_eq_none_iff->QD,getElem_map->QG,drop_length->QJ,mem_filterMap->QQ,getElem?_replicate->QT,pairwise_mergeSort->QY,getElem?_eq_none->Rg,mem_of_mem_take->Rh,extract_eq_take_drop->Rj,take_of_length_le->Rk,pairwise_reverse->Rl,findIdx?_eq_some_iff_getElem->Rt
open Int renaming gcd->Mm,mul_pos->Pp,emod_nonneg->Qg,emod_lt_of_pos->Qh,fdiv_mul_cancel->Qu,lt_of_lt_of_le->Ro
open PySem.Heap renaming lt_size->Mq,get?_push_of_some->MJ,get?_push_size->Nl,SameBut->Pi,size_update->Qw,size_push->QA,get?_push_ne->QL
open Nat renaming le_trans->Mv,ne_of_lt->MI,zero_add->MN,le_refl->MU,lt_of_lt_of_le->MW,zero_le->Np,eq_zero_or_pos->NS,lt_irrefl->On,add_zero->Ov,le_of_lt->Ox,le_succ->OY,sub_self->Pw,pow_le_pow_right->PP,lt_of_le_of_lt->Qt,lt_succ_of_lt->QF
open Bool renaming and_eq_true->MC,not_eq_true'->Oa,noConfusion->Om,false_ne_true->Oo,and_self->OL,false_eq_true->PQ,or_eq_true->PZ,not_eq_false'->Qe,eq_iff_iff->Qy,not_true->QE,or_eq_false_iff->Rf
open Option renaming bind_some->MH,map_some->NC,getD_some->Og,isSome_iff_exists->QS
open PySem.Obj renaming mapSeq->MK
open PySem.PyData renaming canLay0->MM,depth->MT,canLayAll0->Na,eqv->Nb,depthAll->Ni,strOk->Nk,shownAll->Of,eqvAll->Oj,showableAll->Pn
open Array renaming length_toList->MQ,getD->NI,perm_iff_toList_perm->QI,size_map->QK
open False renaming elim->Nf
open Option.some renaming inj->Nm,injEq->OQ
open PySem.SeqAt renaming shaped->Nr,canLay_of_shaped->QB
open PySem.Str renaming ofString->Nv,empty->Oz
open PySem.NameKind renaming free->Nw,cell->OZ
open PySem.PassesOwn renaming never->NB
open PySem.W renaming nsIn->NG,fnOf->NJ,mg_of->NZ,keepIn->OI,kitOne->OP,hideAll->Pe,excIn->Py,findIn->PD,codeIn->PK,methodObj->QP,callWith_K->QR,isStarred->QX
open Sum renaming inl->NK
open Ne renaming symm->NM
open List.Perm renaming append_left->Ot
open PyProof.Rows.SortSt renaming mk'->Ou
open ForInStep renaming yield->OA
open PySem.Challenge renaming pw_askedpairs_k24_layers_told->OF,rw_askedpairs_k24_layers_told->QO
open List.Pairwise renaming sublist->Pd
open PySem.Builtin.Tuple renaming tupleExact->Pl,tupleTooMany->Re,tupleItemsOf->Rq
open PySem.Value renaming type->PB,builtin->QM
open PySem.F renaming slot_tuple_mul->PY,slot_int_rmul->Qs
open List.cons renaming inj->Qc
open PySem.Builtin.Slice renaming slicePlaces->Qp,sliceAdjust->QU,sliceApplied->Rp
open PySem.Builtin.List renaming listExtendWith->Qv,listTooLong->QV
open PySem.Around renaming in1_units->QH
open PySem.Code renaming quiet_builtin->QW
open PySem.AutoSeq1 renaming idx_int->QZ
open Array.Perm renaming refl->Rm
open PySem.Builtin.SmallTypes renaming nextOf->Rr
set_option Elab.async false
set_option linter.all false
set_option maxRecDepth 100000
noncomputable section
local macro_rules|`(∅)=>`(by rfl)
local macro_rules|`(⋯)=>`(by decide)
local macro_rules|`(↥0)=>`(by lia)|`(↥1)=>`(by simp)|`(↥2)=>`(by decide+kernel)|`(↥3)=>`(Or.inl rfl)|`(↥4)=>`(λ_ _=>rfl)|`(↥5)=>`(by intro _;rfl)|`(↥6)=>`(by kernel_rfl)|`(↥7)=>`(by simp;lia)|`(↥8)=>`(MU _)
local macro_rules|`(⇑0)=>`(PySem.W.Frag)
local macro_rules|`(↑$x)=>`(($x).heap.objs.size)
namespace L2
open PySem PySem.Spec PyProof.Rows
def dD(s:Me):Arguments:=match s with|.FunctionDef _ a _ _ _ _ _ _ _ _=>a|_=>{posonlyargs:=[],args:=[],vararg:=none,kwonlyargs:=[],kw_defaults:=[],kwarg:=none,defaults:=[]}
def b_(s:Me):List Me:=match s with|.FunctionDef _ _ b _ _ _ _ _ _ _=>b|_=>[]
def ao(s:Me):Mr:=match s with|.FunctionDef _ _ _ _ _ _ sc _ _ _=>sc|_=>{kind:=.function,names:=[],isGenerator:=false,isCoroutine:=false}
end L2
namespace V24
open PySem PySem.Spec PyProof.Rows L2
def top(i:Nat):Me:=OF.main.body.getD i (.Pass ⟨0,0,0,0⟩)
abbrev bD:Me:=top 6
abbrev bS:Me:=top 10
abbrev hX:Me:=top 11
abbrev lK:Me:=top 12
abbrev fX:Me:=top 13
abbrev cG:Me:=top 16
abbrev eO:Me:=top 17
abbrev bR:Me:=top 18
abbrev h_:Me:=top 19
abbrev cF:Me:=top 20
abbrev cU:Me:=top 23
abbrev bT:Me:=top 24
abbrev cE:Me:=top 27
abbrev lG:Me:=top 29
abbrev lF:Me:=top 30
abbrev gO:Me:=top 31
abbrev tQ:Me:=top 32
abbrev qi:Me:=top 33
abbrev lI:Me:=top 34
abbrev oS:Me:=top 35
abbrev oT:Me:=top 36
abbrev jv:Me:=top 37
abbrev lJ:Me:=top 38
abbrev mv:Me:=top 39
abbrev tS:Me:=top 40
abbrev hE:Me:=top 41
abbrev tR:Me:=top 42
abbrev jt:Me:=top 43
abbrev lH:Me:=top 44
abbrev hV:Me:=top 45
abbrev jw:Me:=top 46
abbrev oR:Me:=top 47
abbrev oU:Me:=top 48
abbrev hJ:Me:=top 49
abbrev hU:Me:=top 50
abbrev oV:Me:=top 51
def kL(n:Str)(bs mro:List LP)(ns:LQ)(sub:List LP)(sl:Array (Option LP)):Obj:=⟨.type "type",none,.cls {name:=n,bases:=bs,mro:=mro,ns:=ns,qualname:=n,hasDict:=true,slotNames:=[],subclasses:=sub,abstract:=false,collection:=none,hasDel:=false},sl⟩
def kE(P:Params)(k:Str)(t:Tok)(v:LP):DictEntry:=⟨PyData.keyHash P k,.str k t,v⟩
def kF(n:Str)(s:Me)(doc pm:LP)(c:LQ):Obj:=⟨.type "function",none,.func (NJ n n (dD s) (b_ s) (ao s) .none .none doc pm none (.ref c) .none),#[]⟩
def kI(n:Int):LP:=.int n 0
def kC(n:Str)(a:Nat)(l:List LP)(z:Nat):Obj:=⟨.type "code",none,.fields (Value.str n a::Value.str n (a+1)::Value.str "/claim/cut.py" (a+2)::l++[Value.str "/claim/cut.py" z]).toArray,#[]⟩
def kT(l:List LP)(n:Nat):Obj:=⟨.type "tuple",none,.seq l.toArray n,#[]⟩
def Il:LP:=.str "askedpairs.errors" 187
def CM:LP:=.str "askedpairs.fractions" 279
def Av:LP:=.str "askedpairs.stands" 319
def G3:LP:=.str "askedpairs.layerpaper" 365
def Im:LP:=.str "askedpairs.layers" 380
def fN:LP:=.str "law_askedpairs_k24_layers_told" 394
def kK(P:Params):W.Frag:=[(3,⟨.type "dict",none,.dict (MV [kE P "__name__" 165 (.str "law_askedpairs_k24_layers_told" 394),kE P "__doc__" 166 (.none),kE P "__package__" 167 (.none),kE P "__loader__" 168 (.builtin "__main__.__loader__#opaque"),kE P "__spec__" 169 (.none),kE P "__annotations__" 170 (.ref 6),kE P "__builtins__" 171 (.ref 4),kE P "__file__" 173 (.str "/claim/cut.py" 172),kE P "__cached__" 174 (.none),kE P "PairsError" 206 (.ref 24),kE P "TooMany" 222 (.ref 37),kE P "NoRise" 238 (.ref 49),kE P "NotTwoSided" 254 (.ref 61),kE P "NoText" 270 (.ref 73),kE P "refuse_above" 278 (.ref 82),kE P "ZERO" 283 (.ref 83),kE P "ONE" 286 (.ref 84),kE P "common_divisor" 294 (.ref 91),kE P "lowest" 303 (.ref 98),kE P "times" 311 (.ref 105),kE P "one_less" 318 (.ref 112),kE P "FIRST_STAND" 321 (.ref 115),kE P "things_of" 329 (.ref 122),kE P "many_asks" 335 (.ref 127),kE P "bears_one_more" 346 (.ref 134),kE P "may_ask" 352 (.ref 139),kE P "stand_behind" 364 (.ref 146),kE P "FIRST_LAYER" 367 (.ref 148),kE P "stands_next" 373 (.ref 153),kE P "layer_behind" 379 (.ref 158),kE P "MOST_TIES_OF_ORDER" 383 (.int (8) 382),kE P "layers_of" 393 (.ref 165),kE P "_law_mixed" 404 (.ref 172),kE P "_law_draws" 415 (.ref 179),kE P "_law_next" 422 (.ref 186),kE P "_law_gcd" 430 (.ref 193),kE P "_law_low" 439 (.ref 200),kE P "_law_times" 447 (.ref 207),kE P "_law_rest" 454 (.ref 214),kE P "_law_same" 462 (.ref 221),kE P "_law_chance" 471 (.ref 228),kE P "_law_worth" 479 (.ref 235),kE P "_law_ties" 498 (.ref 242),kE P "_law_web" 514 (.ref 249),kE P "_law_asks_of" 520 (.ref 254),kE P "_law_may" 532 (.ref 261),kE P "_law_behind" 545 (.ref 268),kE P "_law_order" 557 (.ref 275),kE P "_law_ways_on" 572 (.ref 282),kE P "_law_layers" 583 (.ref 289),kE P "_law_full" 594 (.ref 296),kE P "_law_wide" 605 (.ref 303),kE P "_law_is_many" 612 (.ref 310),kE P "_law_refused" 622 (.ref 317),kE P "law" 637 (.ref 324)]) 55,#[]⟩),(82,kF "refuse_above" bD (.none) Il 81),(81,kC "refuse_above" 271 [kI 12,kI 2,kI 0,kI 0,kI 3,.ref 76,.bool true,kI 181,.ref 77,.none,.ref 78,.ref 79,.ref 80,kI 276,kI 12] 277),(91,kF "common_divisor" bS (.none) CM 90),(90,kC "common_divisor" 287 [kI 18,kI 2,kI 0,kI 0,kI 3,.ref 85,.bool true,kI 181,.ref 86,.none,.ref 87,.ref 88,.ref 89,kI 292,kI 18] 293),(98,kF "lowest" hX (.none) CM 97),(97,kC "lowest" 295 [kI 22,kI 2,kI 0,kI 0,kI 3,.ref 92,.bool true,kI 181,.ref 93,.none,.ref 94,.ref 95,.ref 96,kI 301,kI 22] 302),(105,kF "times" lK (.none) CM 104),(104,kC "times" 304 [kI 27,kI 2,kI 0,kI 0,kI 3,.ref 99,.bool true,kI 181,.ref 100,.none,.ref 101,.ref 102,.ref 103,kI 309,kI 27] 310),(112,kF "one_less" fX (.none) CM 111),(111,kC "one_less" 312 [kI 29,kI 1,kI 0,kI 0,kI 3,.ref 106,.bool true,kI 181,.ref 107,.none,.ref 108,.ref 109,.ref 110,kI 316,kI 29] 317),(122,kF "things_of" cG (.none) Av 121),(121,kC "things_of" 322 [kI 33,kI 2,kI 0,kI 0,kI 3,.ref 116,.bool true,kI 181,.ref 117,.none,.ref 118,.ref 119,.ref 120,kI 327,kI 33] 328),(127,kF "many_asks" eO (.none) Av 126),(126,kC "many_asks" 330 [kI 35,kI 3,kI 0,kI 0,kI 3,.ref 123,.bool true,kI 181,.ref 124,.none,.none,.none,.ref 125,kI 333,kI 35] 334),(134,kF "bears_one_more" bR (.none) Av 133),(133,kC "bears_one_more" 336 [kI 37,kI 3,kI 0,kI 0,kI 3,.ref 128,.bool true,kI 181,.ref 129,.none,.ref 130,.ref 131,.ref 132,kI 344,kI 37] 345),(139,kF "may_ask" h_ (.none) Av 138),(138,kC "may_ask" 347 [kI 40,kI 3,kI 0,kI 0,kI 3,.ref 135,.bool true,kI 181,.ref 136,.none,.none,.none,.ref 137,kI 350,kI 40] 351),(146,kF "stand_behind" cF (.none) Av 145),(145,kC "stand_behind" 353 [kI 45,kI 4,kI 0,kI 0,kI 3,.ref 140,.bool true,kI 181,.ref 141,.none,.ref 142,.ref 143,.ref 144,kI 362,kI 45] 363),(153,kF "stands_next" cU (.none) G3 152),(152,kC "stands_next" 368 [kI 52,kI 3,kI 0,kI 0,kI 3,.ref 149,.bool true,kI 181,.ref 150,.none,.none,.none,.ref 151,kI 371,kI 52] 372),(158,kF "layer_behind" bT (.none) G3 157),(157,kC "layer_behind" 374 [kI 57,kI 3,kI 0,kI 0,kI 3,.ref 154,.bool true,kI 181,.ref 155,.none,.none,.none,.ref 156,kI 377,kI 57] 378),(165,kF "layers_of" cE (.none) Im 164),(164,kC "layers_of" 384 [kI 61,kI 2,kI 0,kI 0,kI 3,.ref 159,.bool true,kI 181,.ref 160,.none,.ref 161,.ref 162,.ref 163,kI 391,kI 61] 392),(172,kF "_law_mixed" lG (.none) fN 171),(171,kC "_law_mixed" 396 [kI 68,kI 2,kI 0,kI 0,kI 3,.ref 166,.bool true,kI 181,.ref 167,.none,.ref 168,.ref 169,.ref 170,kI 402,kI 68] 403),(179,kF "_law_draws" lF (.none) fN 178),(178,kC "_law_draws" 405 [kI 71,kI 1,kI 0,kI 0,kI 3,.ref 173,.bool true,kI 181,.ref 174,.none,.ref 175,.ref 176,.ref 177,kI 413,kI 71] 414),(186,kF "_law_next" gO (.none) fN 185),(185,kC "_law_next" 416 [kI 84,kI 1,kI 0,kI 0,kI 3,.ref 180,.bool true,kI 181,.ref 181,.none,.ref 182,.ref 183,.ref 184,kI 420,kI 84] 421),(193,kF "_law_gcd" tQ (.none) fN 192),(192,kC "_law_gcd" 423 [kI 88,kI 2,kI 0,kI 0,kI 3,.ref 187,.bool true,kI 181,.ref 188,.none,.ref 189,.ref 190,.ref 191,kI 428,kI 88] 429),(200,kF "_law_low" qi (.none) fN 199),(199,kC "_law_low" 431 [kI 92,kI 2,kI 0,kI 0,kI 3,.ref 194,.bool true,kI 181,.ref 195,.none,.ref 196,.ref 197,.ref 198,kI 437,kI 92] 438),(207,kF "_law_times" lI (.none) fN 206),(206,kC "_law_times" 440 [kI 95,kI 2,kI 0,kI 0,kI 3,.ref 201,.bool true,kI 181,.ref 202,.none,.ref 203,.ref 204,.ref 205,kI 445,kI 95] 446),(214,kF "_law_rest" oS (.none) fN 213),(213,kC "_law_rest" 448 [kI 97,kI 1,kI 0,kI 0,kI 3,.ref 208,.bool true,kI 181,.ref 209,.none,.ref 210,.ref 211,.ref 212,kI 452,kI 97] 453),(221,kF "_law_same" oT (.none) fN 220),(220,kC "_law_same" 455 [kI 99,kI 2,kI 0,kI 0,kI 3,.ref 215,.bool true,kI 181,.ref 216,.none,.ref 217,.ref 218,.ref 219,kI 460,kI 99] 461),(228,kF "_law_chance" jv (.none) fN 227),(227,kC "_law_chance" 463 [kI 101,kI 2,kI 0,kI 0,kI 3,.ref 222,.bool true,kI 181,.ref 223,.none,.ref 224,.ref 225,.ref 226,kI 469,kI 101] 470),(235,kF "_law_worth" lJ (.none) fN 234),(234,kC "_law_worth" 472 [kI 111,kI 2,kI 0,kI 0,kI 3,.ref 229,.bool true,kI 181,.ref 230,.none,.ref 231,.ref 232,.ref 233,kI 477,kI 111] 478),(242,kF "_law_ties" mv (.none) fN 241),(241,kC "_law_ties" 480 [kI 113,kI 3,kI 0,kI 0,kI 3,.ref 236,.bool true,kI 181,.ref 237,.none,.ref 238,.ref 239,.ref 240,kI 496,kI 113] 497),(249,kF "_law_web" tS (.none) fN 248),(248,kC "_law_web" 499 [kI 128,kI 3,kI 0,kI 0,kI 3,.ref 243,.bool true,kI 181,.ref 244,.none,.ref 245,.ref 246,.ref 247,kI 512,kI 128] 513),(254,kF "_law_asks_of" hE (.none) fN 253),(253,kC "_law_asks_of" 515 [kI 138,kI 3,kI 0,kI 0,kI 3,.ref 250,.bool true,kI 181,.ref 251,.none,.none,.none,.ref 252,kI 518,kI 138] 519),(261,kF "_law_may" tR (.none) fN 260),(260,kC "_law_may" 521 [kI 140,kI 3,kI 0,kI 0,kI 3,.ref 255,.bool true,kI 181,.ref 256,.none,.ref 257,.ref 258,.ref 259,kI 530,kI 140] 531),(268,kF "_law_behind" jt (.none) fN 267),(267,kC "_law_behind" 533 [kI 148,kI 4,kI 0,kI 0,kI 3,.ref 262,.bool true,kI 181,.ref 263,.none,.ref 264,.ref 265,.ref 266,kI 543,kI 148] 544),(275,kF "_law_order" lH (.none) fN 274),(274,kC "_law_order" 546 [kI 154,kI 3,kI 0,kI 0,kI 3,.ref 269,.bool true,kI 181,.ref 270,.none,.ref 271,.ref 272,.ref 273,kI 555,kI 154] 556),(282,kF "_law_ways_on" hV (.none) fN 281),(281,kC "_law_ways_on" 558 [kI 161,kI 3,kI 0,kI 0,kI 3,.ref 276,.bool true,kI 181,.ref 277,.none,.ref 278,.ref 279,.ref 280,kI 570,kI 161] 571),(289,kF "_law_layers" jw (.none) fN 288),(288,kC "_law_layers" 573 [kI 172,kI 2,kI 0,kI 0,kI 3,.ref 283,.bool true,kI 181,.ref 284,.none,.ref 285,.ref 286,.ref 287,kI 581,kI 172] 582),(296,kF "_law_full" oR (.none) fN 295),(295,kC "_law_full" 584 [kI 179,kI 3,kI 0,kI 0,kI 3,.ref 290,.bool true,kI 181,.ref 291,.none,.ref 292,.ref 293,.ref 294,kI 592,kI 179] 593),(303,kF "_law_wide" oU (.none) fN 302),(302,kC "_law_wide" 595 [kI 185,kI 2,kI 0,kI 0,kI 3,.ref 297,.bool true,kI 181,.ref 298,.none,.ref 299,.ref 300,.ref 301,kI 603,kI 185] 604),(310,kF "_law_is_many" hJ (.none) fN 309),(309,kC "_law_is_many" 606 [kI 190,kI 1,kI 0,kI 0,kI 3,.ref 304,.bool true,kI 181,.ref 305,.none,.ref 306,.ref 307,.ref 308,kI 610,kI 190] 611),(317,kF "_law_refused" hU (.none) fN 316),(316,kC "_law_refused" 613 [kI 194,kI 2,kI 0,kI 0,kI 3,.ref 311,.bool true,kI 181,.ref 312,.none,.ref 313,.ref 314,.ref 315,kI 620,kI 194] 621),(324,kF "law" oV (.none) fN 323),(323,kC "law" 623 [kI 201,kI 1,kI 0,kI 0,kI 3,.ref 318,.bool true,kI 181,.ref 319,.none,.ref 320,.ref 321,.ref 322,kI 635,kI 201] 636),(83,kT [.int (0) 281,.int (1) 282] 0),(84,kT [.int (1) 284,.int (1) 285] 0),(115,kT [.ref 113,.ref 114] 0),(113,kT [] 0),(114,kT [] 0),(148,kT [.ref 147] 0),(147,kT [.ref 115,.ref 84] 0),(24,kL "PairsError" [.type "ValueError"] [.ref 24,.type "ValueError",.type "Exception",.type "BaseException",.type "object"] 23 [.ref 37,.ref 49,.ref 61,.ref 73] #[some (.ref 15),none,some (.str "PairsError" 189),some (.str "PairsError" 197),some (.builtin "ValueError.__new__"),some (.bool true)]),(23,⟨.type "dict",none,.dict (MV [kE P "__module__" 196 (.str "askedpairs.errors" 187),kE P "__firstlineno__" 200 (.int (2) 199),kE P "__static_attributes__" 201 (.ref 22),kE P "__weakref__" 203 (.ref 25),kE P "__doc__" 204 (.none)]) 3,#[]⟩),(37,kL "TooMany" [.ref 24] [.ref 37,.ref 24,.type "ValueError",.type "Exception",.type "BaseException",.type "object"] 36 [] #[some (.ref 28),none,some (.str "TooMany" 207),some (.str "TooMany" 215),some (.builtin "ValueError.__new__"),some (.bool true)]),(36,⟨.type "dict",none,.dict (MV [kE P "__module__" 214 (.str "askedpairs.errors" 187),kE P "__firstlineno__" 218 (.int (4) 217),kE P "__static_attributes__" 219 (.ref 35),kE P "__doc__" 220 (.none)]) 2,#[]⟩),(49,kL "NoRise" [.ref 24] [.ref 49,.ref 24,.type "ValueError",.type "Exception",.type "BaseException",.type "object"] 48 [] #[some (.ref 40),none,some (.str "NoRise" 223),some (.str "NoRise" 231),some (.builtin "ValueError.__new__"),some (.bool true)]),(48,⟨.type "dict",none,.dict (MV [kE P "__module__" 230 (.str "askedpairs.errors" 187),kE P "__firstlineno__" 234 (.int (6) 233),kE P "__static_attributes__" 235 (.ref 47),kE P "__doc__" 236 (.none)]) 2,#[]⟩),(61,kL "NotTwoSided" [.ref 24] [.ref 61,.ref 24,.type "ValueError",.type "Exception",.type "BaseException",.type "object"] 60 [] #[some (.ref 52),none,some (.str "NotTwoSided" 239),some (.str "NotTwoSided" 247),some (.builtin "ValueError.__new__"),some (.bool true)]),(60,⟨.type "dict",none,.dict (MV [kE P "__module__" 246 (.str "askedpairs.errors" 187),kE P "__firstlineno__" 250 (.int (8) 249),kE P "__static_attributes__" 251 (.ref 59),kE P "__doc__" 252 (.none)]) 2,#[]⟩),(73,kL "NoText" [.ref 24] [.ref 73,.ref 24,.type "ValueError",.type "Exception",.type "BaseException",.type "object"] 72 [] #[some (.ref 64),none,some (.str "NoText" 255),some (.str "NoText" 263),some (.builtin "ValueError.__new__"),some (.bool true)]),(72,⟨.type "dict",none,.dict (MV [kE P "__module__" 262 (.str "askedpairs.errors" 187),kE P "__firstlineno__" 266 (.int (10) 265),kE P "__static_attributes__" 267 (.ref 71),kE P "__doc__" 268 (.none)]) 2,#[]⟩)]
def kA:List LQ:=[3,82,81,91,90,98,97,105,104,112,111,122,121,127,126,134,133,139,138,146,145,153,152,158,157,165,164,172,171,179,178,186,185,193,192,200,199,207,206,214,213,221,220,228,227,235,234,242,241,249,248,254,253,261,260,268,267,275,274,282,281,289,288,296,295,303,302,310,309,317,316,324,323,83,84,115,113,114,148,147,24,23,37,36,49,48,61,60,73,72]
def kq:Mc:={OF with main:={OF.main with body:=[top 1,top 2,top 3,top 4,top 5,top 6,top 8,top 9,top 10,top 11,top 12,top 13,top 15,top 16,top 17,top 18,top 19,top 20,top 22,top 23,top 24,top 26,top 27,top 29,top 30,top 31,top 32,top 33,top 34,top 35,top 36,top 37,top 38,top 39,top 40,top 41,top 42,top 43,top 44,top 45,top 46,top 47,top 48,top 49,top 50,top 51]}}
def kH:W.Hook:=W.kHook kK kA (λ_=>by kernel_rfl)
abbrev lX(s:LR):Bool:=W.xlAt kq [] s&&W.recOk (W.RowW.records (W.OpenRow.toRowW (W.OpenLaw.row QO))) s
def l1(p q:Mc)(Xt:LR->Bool)(N:Nat):Prop:=∀w,(W.openEnds treeTable p w N).map (λs=>(W.openSeen q ["FIRST_LAYER"] (Qi p.main.body) Xt true s).1)=some (W.openGood q ["FIRST_LAYER"]).1
def l0(p q:Mc)(Xt:LR->Bool)(N:Nat):Prop:=∀w,(W.openEnds treeTable p w N).map (λs=>((W.openSeen q ["FIRST_LAYER"] (Qi p.main.body) Xt true s).2.1,(W.openSeen q ["FIRST_LAYER"] (Qi p.main.body) Xt true s).2.2.1))=some ((W.openGood q ["FIRST_LAYER"]).2.1,(W.openGood q ["FIRST_LAYER"]).2.2.1)
def l2(p q:Mc)(Xt:LR->Bool)(N:Nat):Prop:=∀w,(W.openEnds treeTable p w N).map (λs=>(W.openSeen q ["FIRST_LAYER"] (Qi p.main.body) Xt true s).2.2.2)=some (W.openGood q ["FIRST_LAYER"]).2.2.2
def l3{α:Type}(p:Mc)(Yf:LR->α)(Ya:LV->α)(N:Nat):Prop:=∀w,(W.openEnds treeTable p w N).map Yf=some (Ya w)
theorem A8{p q:Mc}{Xt:LR->Bool}{α:Type}{Yf:LR->α}{Ya:LV->α}{N:Nat}(h1:l1 p q Xt N)(h0:l0 p q Xt N)(h2:l2 p q Xt N)(h3:l3 p Yf Ya N):W.LeftO p q ["FIRST_LAYER"] Xt Yf Ya N:=λw=>by have a:=h1 w;have d:=h0 w;have b:=h2 w;have c:=h3 w;cases o:W.openEnds treeTable p w N with|none=>rw[o]at a;cases a|some s=>rw[o]at a b c d;simp only[NC,OQ,Prod.mk.injEq]at a b c d;exact congrArg some (Prod.ext (Prod.ext a (Prod.ext d.1 (Prod.ext d.2 b))) c)
theorem FH:l1 OF kq lX 4694:=λw=>by kernel_rfl
theorem FD:l0 OF kq lX 4694:=λw=>by kernel_rfl
theorem FJ:l2 OF kq lX 4694:=λw=>by kernel_rfl
theorem FL:l3 OF (W.Hook.obs kH) (W.Hook.val kH) 4694:=λw=>by kernel_rfl
theorem left:W.LeftO OF kq ["FIRST_LAYER"] lX (W.Hook.obs kH) (W.Hook.val kH) 4694:=A8 FH FD FJ FL
end V24
namespace L2
open PySem PySem.Spec PyProof.Rows
theorem LH{α:Type _}{β:Type _}{o:Option α}{f:α->Option β}{b:β}(h:o.bind f=some b):∃a,o=some a/\f a=some b:=Option.bind_eq_some_iff.mp h
theorem LI{α:Type _}{β:Type _}{o:Option α}{f:α->β}{b:β}(h:o.map f=some b):∃a,o=some a/\f a=b:=Option.map_eq_some_iff.mp h
theorem LJ{α:Type _}{l:List α}{i:Nat}{a:α}(h:l[i]?=some a):∃w:i<l.length,l[i]=a:=List.getElem?_eq_some_iff.mp h
theorem LK{α:Type _}{a:α}{s t:List α}(h:a∈s++t):a∈s\/a∈t:=Ow.mp h
theorem LM{α:Type _}{β:Type _}{b:β}{f:α->β}{l:List α}(h:b∈l.map f):∃a,a∈l/\f a=b:=List.mem_map.mp h
theorem LN{α:Type _}{a b:α}{l:List α}(h:a∈b::l):a=b\/a∈l:=Nc.mp h
theorem LO{α:Type _}{l:List α}{i:Nat}{a:α}(h:l[i]?=some a):a∈l:=List.mem_of_getElem? h
abbrev j8:=Sum Int Str
def yK:j8->LP->Bool|.inl k,v=>Value.isInt k v|.inr x,v=>Value.isStrOf x v
def HA(w:LV):j8->Int|.inl k=>hashInt k|.inr x=>hashStr w x
theorem bw:∀{k:j8}{v:LP},yK k v=true->(∃i t,k=NK i/\v=Value.int i t)\/(∃x t,k=Sum.inr x/\v=Value.str x t)|.inl i,v,h=>by obtain⟨t,e⟩:=Value.isInt_shape (k:=i) (v:=v) h;exact .inl ⟨i,t,rfl,e⟩|.inr x,v,h=>by obtain⟨t,e⟩:=Value.isStrOf_shape (x:=x) (v:=v) h;exact .inr ⟨x,t,rfl,e⟩
theorem DD(a b:Int):decide ((NK a:j8)=NK b)=(a==b):=by
 by_cases e:a=b;·subst e;simp
 ·have h:¬(NK a:j8)=NK b:=λq=>e (Sum.inl.inj q);rw[decide_eq_false h];exact(beq_eq_false_iff_ne.mpr e).symm
theorem DG(a b:Str):decide ((Sum.inr a:j8)=Sum.inr b)=decide (a=b):=by
 by_cases e:a=b;·subst e;simp
 ·have h:¬(Sum.inr a:j8)=Sum.inr b:=λq=>e (Sum.inr.inj q);rw[decide_eq_false h,decide_eq_false e]
theorem DE(a:Int)(b:Str):decide ((NK a:j8)=Sum.inr b)=false:=decide_eq_false (λq=>nomatch q)
theorem DF(a:Str)(b:Int):decide ((Sum.inr a:j8)=NK b)=false:=decide_eq_false (λq=>nomatch q)
def rD(prog:Mc)(w:LV):PySem.KeyKind prog w j8 where
 is:=yK;hash:=HA w;inj:=λv a b ha hb=>by
  rcases bw ha with⟨i,t,rfl,rfl⟩|⟨x,t,rfl,rfl⟩
  ·rcases bw hb with⟨j,u,rfl,e⟩|⟨y,u,rfl,e⟩;·injection e with e1 _;rw[e1]
   ·exact nomatch e
  ·rcases bw hb with⟨j,u,rfl,e⟩|⟨y,u,rfl,e⟩;·exact nomatch e
   ·injection e with e1 _;rw[e1]
 byValue:=λk v h=>by rcases bw h with⟨i,t,rfl,rfl⟩|⟨x,t,rfl,rfl⟩<;>rfl
 pyHash:=λhv h=>by
  rcases bw hv with⟨i,t,rfl,rfl⟩|⟨x,t,rfl,rfl⟩;·exact wpAny_pyHash_int h
  ·exact wpAny_pyHash_str h
 eqBool:=λhu hv h=>by
  rcases bw hu with⟨i,t,rfl,rfl⟩|⟨x,t,rfl,rfl⟩
  ·rcases bw hv with⟨j,u,rfl,rfl⟩|⟨y,u,rfl,rfl⟩;·rw[DD]at h;exact wpAny_eqBool_int h
   ·rw[DE]at h;exact SeqAt.EqAt.int_str i t y u _ _ _ _ h
  ·rcases bw hv with⟨j,u,rfl,rfl⟩|⟨y,u,rfl,rfl⟩;·rw[DF]at h;exact SeqAt.EqAt.str_int x t j u _ _ _ _ h
   ·rw[DG]at h;exact wpAny_eqBool_str h
 «strs»:=λk x t v h=>by
  rcases bw h with⟨i,u,rfl,e⟩|⟨y,u,rfl,e⟩;·exact nomatch e
  ·injection e with e1 _;subst e1;cases v<;>rfl
inductive V where|non|bl (b:Bool)|int (i:Int)|str (x:Str)|byt (b:Array UInt8)|flt (b:UInt64)|ref (a:LQ)|ty (n:String)deriving DecidableEq
def bu:V->LP->Prop|.non,u=>u=Value.none|.bl b,u=>u=Value.bool b|.int i,u=>∃t,u=Value.int i t|.str x,u=>∃t,u=Value.str x t|.byt b,u=>∃t,u=Value.bytes b t|.flt b,u=>∃t,u=Value.float b t|.ref a,u=>u=Value.ref a|.ty n,u=>u=PB n
abbrev aR:List V->List LP->Prop:=Paired bu
theorem aR.length{xs:List V}{us:List LP}(r:aR xs us):xs.length=us.length:=Paired.length r
theorem aR.get:∀{xs:List V}{us:List LP}{i:Nat}{x:V},aR xs us->xs[i]?=some x->∃u,us[i]?=some u/\bu x u|_,_,_,_,.nil,e=>by simp at e|_,_,0,_,.cons r _,e=>by simp at e;subst e;exact⟨_,rfl,r⟩|_,_,i+1,x,.cons _ t,e=>by obtain⟨u,h1,h2⟩:=aR.get (i:=i) (x:=x) t (by simpa using e);exact⟨u,by simpa using h1,h2⟩
theorem aR.append:∀{xs ys:List V}{us ws:List LP},aR xs us->aR ys ws->aR (xs++ys) (us++ws)|_,_,_,_,.nil,s=>s|_,_,_,_,.cons r t,s=>.cons r (aR.append t s)
theorem aR.take:∀{xs:List V}{us:List LP}(n:Nat),aR xs us->aR (xs.take n) (us.take n)|_,_,0,_=>.nil|_,_,_+1,.nil=>.nil|_,_,n+1,.cons r t=>.cons r (aR.take n t)
theorem aR.drop:∀{xs:List V}{us:List LP}(n:Nat),aR xs us->aR (xs.drop n) (us.drop n)|_,_,0,r=>r|_,_,_+1,.nil=>.nil|_,_,n+1,.cons _ t=>aR.drop n t
def Fc:Option V->Option LP->Prop|some v,some u=>bu v u|none,none=>True|_,_=>False
def KV{κ:Type}:List (κ×V)->List (κ×LP)->Prop:=Paired fun(p:κ×V) (q:κ×LP)=>p.1=q.1/\bu p.2 q.2
def kV:j8->V|.inl i=>.int i|.inr x=>.str x
inductive HO where/--a list -/|lst (xs:List V)/--a tuple (never changes) -/|tup (xs:List V)/--a dict whose keys are ints and texts; one whose keys are tuples of ints and texts (the empty one is both) -/|dK (kvs:List (j8×V))|dT (kvs:List (List j8×V))/--a set of ints: its members, its size -/|set (S:Int->Bool) (n:Nat)/--an instance of the class at C, its dict at dx, its attributes -/|ins (C dx:LQ) (fs:List (Str×V))/--the dict of the instance at x -/|own (x:LQ)/--the dict of an exception -/|xd (fs:List (Str×V))/--a bound method, f of x -/|met (f x:LQ)/--a range object lo, lo + 1, .. below hi -/|rng (lo hi:Int)/--a thing that is known to the object (the script; a dict while a loop walks it): read, never written while it is so -/|frz (o:Obj) (u:HO)/--a code object's table -/|tbl (ps:Array LP)/--any other thing, by what is true of its one object (a def of one's own: SetO a S n := HO.ext fun h => ..) -/|ext (φ:LZ->Prop)
abbrev Hp:=LQ->Option HO
def bI(H:Hp)(a:LQ)(o:HO):Hp:=λb=>if b=a then some o else H b
theorem aC{H:Hp}{a:LQ}{o:HO}:bI H a o a=some o:=by unfold bI;rw[if_pos rfl]
theorem aJ{H:Hp}{a b:LQ}{o:HO}(h:b≠a):bI H a o b=H b:=by unfold bI;rw[if_neg h]
theorem dX{H:Hp}{a b:LQ}{o:HO}(h:H a=some o)(h':H b=none):a≠b:=by intro e;subst e;rw[h]at h';cases h'
def qG(h:LZ)(a:LQ)(items:Array LP):Prop:=∃o,h.get? a=some o/\o.cls=.type "tuple"/\∃n,o.data=.seq items n/\o.dict=none
theorem qG.tup{h:LZ}{a:LQ}{items:Array LP}(x:qG h a items):IsTup h a items:=let⟨o,ho,hc,n,hd,_⟩:=x;⟨o,ho,hc,n,hd⟩
theorem qG.new(h:LZ)(items:Array LP):qG (h.push {cls:=.type "tuple",data:=.seq items}) h.objs.size items:=⟨_,Nl _ rfl,rfl,_,rfl,rfl⟩
section
variable(P:Mc)(w:LV)
def df(H:Hp)(h:LZ)(a:LQ):HO->Prop|.lst xs=>xs.length<=Mi/\∃(its:List LP) (n:Nat),aR xs its/\h.get? a=some {cls:=.type "list",data:=.seq its.toArray n}|.tup xs=>xs.length<=Mi/\∃its:List LP,aR xs its/\qG h a its.toArray|.dK kvs=>kvs.length<=Mi/\(a==sysModules)=false/\∃vs,KV kvs vs/\h.DictOf (rD P w) a vs|.dT kvs=>kvs.length<=Mi/\(a==sysModules)=false/\∃xs:List (List j8×LQ×LP),Paired (fun(p:List j8×V) (q:List j8×LQ×LP)=>p.1=q.1/\H q.2.1=some (.tup (p.1.map kV))/\bu p.2 q.2.2) kvs xs/\∃o es ep,h.get? a=some o/\o.ExactDict/\o.data=.dict es ep/\es.toList=xs.map (entryOfKey (tupleKind (rD P w)))/\(xs.map (·.1)).Nodup|.set S n=>h.SetOf (intKind P w) a S n|.ins C dx fs=>H dx=some (.own a)/\fs.length<=1000/\dx≠a/\h.get? a=some (PySem.W.instObj C dx)/\∃mA,h.Ns1 dx mA/\(∀f,Fc (fs.lookup f) (mA f))/\PySem.Within mA (fs.map (·.1))|.own _=>∃o,h.get? a=some o|.xd fs=>∃mA,h.Ns1 a mA/\∀f,Fc (fs.lookup f) (mA f)|.rng lo hi=>∃t u v,h.get? a=some {cls:=.type "range",data:=.fields #[.int lo t,.int hi u,.int 1 v]}|.frz o u=>h.get? a=some o/\df H h a u|.tbl ps=>h.get? a=some {cls:=.none,data:=.fields ps}|.met f x=>h.get? a=some (QP (.ref f) (.ref x))|.ext φ=>φ h/\(∃o,h.get? a=some o)/\∀h1 h2:LZ,φ h1->(∀o,h1.get? a=some o->h2.get? a=some o)->φ h2
def ni(H:Hp)(h:LZ):Prop:=∀a o,H a=some o->df P w H h a o
end
section
variable{P:Mc}{w:LV}{H H':Hp}{h h':LZ}{a:LQ}{o:HO}
theorem df.lt(x:df P w H h a o):a<h.objs.size:=by cases o with|lst xs=>obtain⟨_,_,_,_,e⟩:=x;exact Mq e|tup xs=>obtain⟨_,_,_,p⟩:=x;exact p.tup.lt|dK kvs=>obtain⟨_,_,_,_,o,_,_,e,_⟩:=x;exact Mq e|dT kvs=>obtain⟨_,_,_,_,o,_,_,e,_⟩:=x;exact Mq e|set S n=>obtain⟨o,_,_,_,e,_⟩:=x;exact Mq e|ins C dx fs=>obtain⟨_,_,_,e,_⟩:=x;exact Mq e|own y=>obtain⟨_,e⟩:=x;exact Mq e|xd fs=>obtain⟨_,⟨_,_,_,e,_⟩,_⟩:=x;exact Mq e|rng lo hi=>obtain⟨_,_,_,e⟩:=x;exact Mq e|frz ob u=>obtain⟨e,_⟩:=x;exact Mq e|tbl ps=>exact Mq (show h.get? a=some _ from x)|met f y=>exact Mq (show h.get? a=some _ from x)|ext φ=>obtain⟨_,⟨_,e⟩,_⟩:=x;exact Mq e
theorem Paired.mapP{α β:Type}{F G:α->β->Prop}:∀{l₁:List α}{l₂:List β},Paired F l₁ l₂->(∀a b,F a b->G a b)->Paired G l₁ l₂|_,_,.nil,_=>.nil|_,_,.cons r t,f=>.cons (f _ _ r) (Paired.mapP t f)
theorem df.stay(x:df P w H h a o)(k:∀b u,(b=a\/H b=some (.own a))->h.get? b=some u->h'.get? b=some u)(ho:∀b,H b=some (.own a)->H' b=some (.own a))(ht:∀b xs,H b=some (.tup xs)->H' b=some (.tup xs)):df P w H' h' a o:=by induction o with|lst xs=>obtain⟨z,its,n,r,e⟩:=x;exact⟨z,its,n,r,k _ _ (.inl rfl) e⟩|tup xs=>obtain⟨z,its,r,ob,e,c⟩:=x;exact⟨z,its,r,ob,k _ _ (.inl rfl) e,c⟩|dK kvs=>obtain⟨z,y,vs,r,ob,es,ep,e,c⟩:=x;exact⟨z,y,vs,r,ob,es,ep,k _ _ (.inl rfl) e,c⟩|dT kvs=>obtain⟨z,y,xs,r,ob,es,ep,e,c⟩:=x;exact⟨z,y,xs,Paired.mapP r λp q z=>⟨z.1,ht _ _ z.2.1,z.2.2⟩,ob,es,ep,k _ _ (.inl rfl) e,c⟩|set S n=>obtain⟨ob,es,ep,t,e,c⟩:=x;exact⟨ob,es,ep,t,k _ _ (.inl rfl) e,c⟩|ins C dx fs=>obtain⟨d,z,ne,e,mA,⟨od,es,ep,e2,c⟩,r⟩:=x;exact⟨ho _ d,z,ne,k _ _ (.inl rfl) e,mA,⟨od,es,ep,k _ _ (.inr d) e2,c⟩,r⟩|own y=>obtain⟨ob,e⟩:=x;exact⟨ob,k _ _ (.inl rfl) e⟩|xd fs=>obtain⟨mA,⟨od,es,ep,e,c⟩,r⟩:=x;exact⟨mA,⟨od,es,ep,k _ _ (.inl rfl) e,c⟩,r⟩|rng lo hi=>obtain⟨t,u,v,e⟩:=x;exact⟨t,u,v,k _ _ (.inl rfl) e⟩|frz ob u ih=>obtain⟨e,q⟩:=x;exact⟨k _ _ (.inl rfl) e,ih q⟩|tbl ps=>have e:h.get? a=some {cls:=.none,data:=.fields ps}:=x;show h'.get? a=some {cls:=.none,data:=.fields ps};exact k a _ (.inl rfl) e|met f y=>have e:h.get? a=some (QP (.ref f) (.ref y)):=x;show h'.get? a=some (QP (.ref f) (.ref y));exact k a _ (.inl rfl) e|ext φ=>obtain⟨p,⟨o,e⟩,st⟩:=x;exact⟨st _ _ p λo q=>k _ _ (.inl rfl) q,⟨o,k _ _ (.inl rfl) e⟩,st⟩
theorem ni.lt(x:ni P w H h)(e:H a=some o):a<h.objs.size:=(x a o e).lt
theorem ni.fresh(x:ni P w H h)(e:h.objs.size<=a):H a=none:=by cases q:H a with|none=>rfl|some u=>exact absurd (MW (x.lt q) e) (On _)
theorem ni.kept(x:ni P w H h)(k:∀b u,h.get? b=some u->h'.get? b=some u):ni P w H h':=λa o e=>(x a o e).stay (λb u _ q=>k b u q) (λ_ q=>q) λ_ _ q=>q
theorem ni.laid(x:ni P w H h)(k:∀b u,h.get? b=some u->h'.get? b=some u)(hp:h.objs.size<=a)(new:df P w (bI H a o) h' a o):ni P w (bI H a o) h':=λb u e=>by
 have hn:=x.fresh hp;by_cases hb:b=a;·subst hb;rw[aC]at e;cases e;exact new
 ·rw[aJ hb]at e;exact(x b u e).stay (λc v _ q=>k c v q) (λc q=>by rw[aJ (dX q hn)];exact q) λc xs q=>by rw[aJ (dX q hn)];exact q
end
def Rd(H:Hp)(a:LQ)(u:HO):Prop:=H a=some u\/∃o,H a=some (.frz o u)
theorem Rd.ok{P:Mc}{w:LV}{H:Hp}{h:LZ}{a:LQ}{u:HO}(r:Rd H a u)(x:ni P w H h):df P w H h a u:=by
 rcases r with r|⟨o,r⟩;·exact x a u r
 ·obtain⟨_,q⟩:=x a _ r;exact q
def GX:Option HO->Prop|some (.lst _)=>True|some (.dK _)=>True|some (.dT _)=>True|some (.set _ _)=>True|some (.ins _ _ _)=>True|some (.ext _)=>True|_=>False
section
variable{P:Mc}{w:LV}{H:Hp}{h h':LZ}{x e:LQ}{o':HO}
theorem ni.write(ok:ni P w H h)(mu:GX (H x))(he:e=x\/H e=some (.own x))(k:∀b u,b≠e->h.get? b=some u->h'.get? b=some u)(heo:∃u,h'.get? e=some u)(new:df P w (bI H x o') h' x o'):ni P w (bI H x o') h':=λb u q=>by
 have nown:∀c y,H c=some (.own y)->c≠x:=λc y r z=>by subst z;rw[r]at mu;exact mu
 have ntup:∀c xs,H c=some (.tup xs)->c≠x:=λc xs r z=>by subst z;rw[r]at mu;exact mu
 by_cases hb:b=x;·subst hb;rw[aC]at q;cases q;exact new
 ·rw[aJ hb]at q;by_cases hbe:b=e
  ·have q':H b=some (.own x):=by
    rcases he with z|z;·exact absurd (hbe.trans z) hb
    ·rw[hbe];exact z
   rw[q]at q';cases q';obtain⟨v,hv⟩:=heo;exact⟨v,by rw[hbe];exact hv⟩
  ·refine(ok b u q).stay (λc v hc r=>k c v ?_ r) (λc r=>by rw[aJ (nown c b r)];exact r) λc xs r=>by rw[aJ (ntup c xs r)];exact r
   rcases hc with rfl|hc;·exact hbe
   ·rintro rfl;rcases he with z|z;·exact nown c b hc z
    ·rw[hc]at z;cases z;exact hb rfl
end
structure Un (fs ex:List LQ) (H H':Hp) (h h':LZ):Prop where
 keep:∀b o,h.get? b=some o->H b=none->b∉fs->b∉ex->h'.get? b=some o
 slot:∀b o,h.get? b=some o->H b=none->b∈fs->b∉ex->∃sl,h'.get? b=some {o with slots:=sl}free:∀b o,h.get? b=some o->H b=none->b∉ex->H' b=none
 there:∀b o,h.get? b=some o->b∉ex->∃o',h'.get? b=some o'
 tups:∀b xs,H b=some (.tup xs)->H' b=some (.tup xs)frzs:∀b o u,H b=some (.frz o u)->H' b=some (.frz o u)tbls:∀b ps,H b=some (.tbl ps)->∃more,H' b=some (.tbl (ps++more))
section
variable{fs fs' ex ex':List LQ}{H H1 H2:Hp}{h h1 h2 h':LZ}{a x e:LQ}{o:HO}
theorem Un.any(u:Un fs ex H H1 h h1){b:LQ}{ob:Obj}(q:h.get? b=some ob)(n:H b=none)(hx:b∉ex):∃sl,h1.get? b=some {ob with slots:=sl}:=by
 by_cases hb:b∈fs;·exact u.slot b ob q n hb hx
 ·exact⟨ob.slots,u.keep b ob q n hb hx⟩
theorem Un.kept(k:∀b u,h.get? b=some u->h'.get? b=some u):Un fs ex H H h h':=⟨λb ob q _ _ _=>k b ob q,λb ob q _ _ _=>⟨ob.slots,k b ob q⟩,λ_ _ _ n _=>n,λb ob q _=>⟨ob,k b ob q⟩,λ_ _ q=>q,λ_ _ _ q=>q,λ_ ps q=>⟨#[],by rw[q];simp⟩⟩
theorem Un.refl:Un fs ex H H h h:=Un.kept λ_ _ q=>q
theorem Un.laid(k:∀b u,h.get? b=some u->h'.get? b=some u)(hp:h.objs.size<=a)(hn:H a=none):Un fs ex H (bI H a o) h h' where
 keep:=λb u q _ _ _=>k b u q;slot:=λb u q _ _ _=>⟨u.slots,k b u q⟩;free:=λb u q n _=>by rw[aJ (MI (MW (Mq q) hp))];exact n
 there:=λb u q _=>⟨u,k b u q⟩;tups:=λb xs q=>by rw[aJ (dX q hn)];exact q
 frzs:=λb u xs q=>by rw[aJ (dX q hn)];exact q
 tbls:=λb ps q=>⟨#[],by rw[aJ (dX q hn),q];simp⟩
theorem Un.write(mu:GX (H x))(he:e=x\/H e=some (.own x))(k:∀b u,b≠e->h.get? b=some u->h'.get? b=some u)(heo:∃u,h'.get? e=some u):Un fs ex H (bI H x o) h h':=by
 have hx:∀b,H b=none->b≠x:=λb n z=>by subst z;rw[n]at mu;exact mu
 have hb:∀b,H b=none->b≠e:=λb n z=>by
  subst z;rcases he with r|r;·exact hx b n r
  ·rw[n]at r;cases r
 have hm:∀b u,H b=some u->¬GX (some u)->b≠x:=λb u q nm z=>by subst z;rw[q]at mu;exact nm mu
 refine⟨λb u q n _ _=>k b u (hb b n) q,λb u q n _ _=>⟨u.slots,k b u (hb b n) q⟩,λb u q n _=>by rw[aJ (hx b n)];exact n,λb u q _=>?_,λb xs q=>by rw[aJ (hm b _ q λz=>z)];exact q,λb u xs q=>by rw[aJ (hm b _ q λz=>z)];exact q,λb ps q=>⟨#[],by rw[aJ (hm b _ q λz=>z),q];simp⟩⟩;by_cases hbe:b=e;·subst hbe;exact heo
 ·exact⟨u,k b u hbe q⟩
end
def G7(h:LZ)(H:Hp):List LQ:=(MD h.objs.size).filter λa=>(H a).isSome
def rg(h:LZ)(H:Hp):LZ:=Pe h (G7 h H)
theorem wR(h:LZ)(H:Hp):(rg h H).objs.size=h.objs.size:=PySem.W.hideAll_size _ _
theorem yG{h:LZ}{H:Hp}{b:LQ}{o:Obj}(e:h.get? b=some o)(n:H b=none):(rg h H).get? b=some o:=PySem.W.hideAll_get _ e λhm=>by have q:(H b).isSome=true:=(List.mem_filter.mp hm).2;rw[n]at q;simp at q
theorem Bd{h:LZ}{H:Hp}{b:LQ}{o:Obj}(e:(rg h H).get? b=some o):h.get? b=some o/\H b=none:=by have e':h.get? b=some o:=PySem.W.of_hideAll (G7 h H) e;refine⟨e',?_⟩;cases q:H b with|none=>rfl|some x=>have hm:b∈G7 h H:=List.mem_filter.mpr ⟨Pf.mpr (Mq e'),by simp[q]⟩;have z:(rg h H).get? b=none:=PySem.W.hideAll_none (G7 h H) hm;rw[z]at e;cases e
def qL(g h:LZ)(L:LQ):List (LQ×Obj):=(MD h.objs.size).filterMap λa=>if a=L\/(g.get? a).isSome=true then none else(h.get? a).map λo=>(a,o)
theorem oG{g h:LZ}{L:LQ}{p:LQ×Obj}(hp:p∈qL g h L):p.1≠L/\g.get? p.1=none/\h.get? p.1=some p.2:=by
 obtain⟨b,_,e⟩:=QQ.mp hp;split at e;·cases e
 ·rename_i hn;cases q:h.get? b with|none=>rw[q]at e;simp at e|some u=>rw[q]at e;simp only[NC,OQ]at e;subst e;refine⟨λz=>hn (.inl z),?_,q⟩;show g.get? b=none;cases r:g.get? b with|none=>rfl|some v=>exact(hn (.inr (by simp[r]))).elim
def dc(g h:LZ)(L d:LQ):List (LQ×Obj):=(qL g h L).filter λp=>decide (p.1≠d)
theorem y6{g h:LZ}{L:LQ}:News g L h (qL g h L):=λp hp=>let⟨a,b,c⟩:=oG hp;⟨c,a,b⟩
structure Mod (K:⇑0) (mg:Str->Option LP) (base:LZ):Prop where
 kin:K.In base
 glob:base.Ns ME mg
 blt:∃mb,base.Ns builtinsNs mb/\∀x:Str,x≠"__name__"->mb x=NL x
 nolimit:base.NoLimit
structure Cx where
 prog:Mc
 w:LV
 K:⇑0
 mg:Str->Option LP
 base:LZ
 A:Md
 N:List Str
 s₀:LR
 H₀:Hp
 env:Env
 outer:List Env
 stack:List Env
 ex:List LQ
 fn:Str->Bool
 calm:Bool
 pn:List (LQ×Obj)xe:LP->LR->Prop
def gU(l:List Env):List LQ:=l.filterMap (·.frame)
abbrev Cx.fs(X:Cx):List LQ:=gU X.outer
def E1(sc:Mr)(x:Str):Prop:=sc.names.lookup x=some .local\/sc.names.lookup x=some .cell\/sc.names.lookup x=some .free
def EZ(sc:Mr)(x:Str):Prop:=sc.names.lookup x=some .local\/sc.names.lookup x=some .cell
def Hf(env:Env)(h:LZ)(m:Str->Option LP)(x:Str)(u:LP):Prop:=(env.kindOf x=some .local/\m x=some u)\/((env.kindOf x=some .cell\/env.kindOf x=some .free)/\∃c,env.cells.lookup x=some c/\h.IsCell c (some u))
structure Cx.Ok (X:Cx):Prop where
 mod:Mod X.K X.mg X.base
 kind:X.env.scope.kind=.function
 glob:X.env.globals=ME
 blt:X.env.builtins=builtinsNs
 above:X.s₀.heap.objs.size<=X.env.locals
 inj:∀x y c,X.env.cells.lookup x=some c->X.env.cells.lookup y=some c->x=y
 has:∀x,(X.env.kindOf x=some .cell\/X.env.kindOf x=some .free)->∃c,X.env.cells.lookup x=some c
 cab:∀x c,X.fn x=true->X.env.cells.lookup x=some c->X.s₀.heap.objs.size<=c
 hd:X.calm=true->X.A.handled=none
 frames:X.A.frames=some X.stack
 stk:X.stack=X.outer\/(X.stack=X.env::X.outer/\X.env.frame=some X.env.locals)exf:∀b∈X.ex,b≠X.env.locals/\∀x c,X.env.cells.lookup x=some c->c≠b
 bs:∀b o,X.base.get? b=some o->X.s₀.heap.get? b=some o/\X.H₀ b=none
 bsz:X.base.objs.size<=X.s₀.heap.objs.size
 noex:∀b o,X.base.get? b=some o->b∉X.ex
 exfs:∀b∈X.ex,b∉X.fs
 funs:X.s₀.heap.FunFrames X.base X.outer
 frf:∀b∈X.fs,X.H₀ b=none
structure aA (X:Cx) (pins:List (LQ×Obj)) (σ:List (Option V)) (H:Hp) (s:LR):Prop where
 ok:X.Ok
 os:s.os=X.s₀.os
 bare:Od s.gens
 base:Un X.fs X.ex X.H₀ H X.s₀.heap s.heap
 loc:∃m,s.heap.Ns X.env.locals m/\∀(i:Nat) (x:Str) (v:V),X.N[i]?=some x->σ[i]?=some (some v)->E1 X.env.scope x->∃u,bu v u/\Hf X.env s.heap m x u
 cell:∀x c,X.env.cells.lookup x=some c->∃v,s.heap.IsCell c v
 free:H X.env.locals=none
 freeC:∀x c,X.env.cells.lookup x=some c->H c=none
 pin:∀p∈X.pn++pins,s.heap.get? p.1=some p.2/\H p.1=none/\p.1≠X.env.locals/\p.1∉X.fs/\∀v,p.2.data≠.cell v
 hok:ni X.prog X.w H s.heap
 len:σ.length=X.N.length
section
variable{X:Cx}{pins:List (LQ×Obj)}{σ:List (Option V)}{H H':Hp}{s:LR}{h':LZ}
theorem Cx.Ok.nofr(ok:X.Ok){b:LQ}{o:Obj}(e:X.base.get? b=some o):b∉X.fs:=λhb=>by have:=(ok.funs.mem hb).1;rw[e]at this;cases this
theorem aA.bs(I:aA X pins σ H s):∀b o,X.base.get? b=some o->s.heap.get? b=some o/\H b=none:=λb o e=>⟨I.base.keep b o (I.ok.bs b o e).1 (I.ok.bs b o e).2 (I.ok.nofr e) (I.ok.noex b o e),I.base.free b o (I.ok.bs b o e).1 (I.ok.bs b o e).2 (I.ok.noex b o e)⟩
theorem aA.bk(I:aA X pins σ H s):∀b o,X.base.get? b=some o->s.heap.get? b=some o:=λb o e=>(I.bs b o e).1
theorem aA.mod(I:aA X pins σ H s):Mod X.K X.mg X.base:=I.ok.mod
theorem aA.kIn(I:aA X pins σ H s):X.K.In s.heap:=I.ok.mod.kin.keeps I.bk
theorem aA.fr(I:aA X pins σ H s):∃m,Fr X.base X.env.locals s.heap m:=let⟨m,hn,_⟩:=I.loc;⟨m,hn,I.bk,Mv I.ok.bsz I.ok.above⟩
theorem aA.lt(I:aA X pins σ H s):X.env.locals<↑s:=let⟨_,hn,_⟩:=I.loc;hn.lt
theorem aA.sz(I:aA X pins σ H s):X.s₀.heap.objs.size<=↑s:=Mv I.ok.above (Ox I.lt)
theorem aA.nofs(I:aA X pins σ H s){a:LQ}(h:↑s<=a):a∉X.fs:=λhb=>by obtain⟨_,o,ho,_⟩:=I.ok.funs.mem hb;exact absurd (MW (Mq ho) (Mv I.sz h)) (On _)
theorem aA.cne(I:aA X pins σ H s):∀x c,X.env.cells.lookup x=some c->c≠X.env.locals:=λx c e z=>by obtain⟨v,o,ho,hd⟩:=I.cell x c e;obtain⟨m,⟨o',es,ep,ho',hd',_⟩,_⟩:=I.loc;rw[z,ho']at ho;cases ho;rw[hd']at hd;cases hd
theorem aA.funs(I:aA X pins σ H s):s.heap.FunFrames X.base X.outer:=by
 have all:∀(l:List Env),(∀b∈gU l,b∈X.fs)->X.s₀.heap.FunFrames X.base l->s.heap.FunFrames X.base l:=by intro l;induction l with|nil=>intro _ _;trivial|cons env r ih=>intro hs hl;obtain⟨hk,⟨L,o,hf,hn,ho,hd⟩,hr⟩:=hl;have hL:L∈X.fs:=hs L (by unfold gU;rw[Ph,hf];exact Oy);obtain⟨sl,e⟩:=I.base.slot L o ho (I.ok.frf L hL) hL λz=>I.ok.exfs L z hL;exact⟨hk,⟨L,_,hf,hn,e,hd⟩,ih (λb hb=>hs b (by unfold gU;rw[Ph,hf];exact Nt _ hb)) hr⟩
 exact all X.outer (λ_ hb=>hb) I.ok.funs
theorem aA.stack(I:aA X pins σ H s):s.heap.FunFrames X.base X.stack:=by
 rcases I.ok.stk with e|⟨e,hf⟩;·rw[e];exact I.funs
 ·rw[e];obtain⟨m,hn,_⟩:=I.loc;refine .cons (by rw[I.ok.kind];decide) hf hn ?_ I.funs;exact Heap.get?_none_of_le (Mv I.ok.bsz I.ok.above)
theorem aA.stkSub(I:aA X pins σ H s):∀b∈gU X.stack,b∈X.env.locals::X.fs:=λb hb=>by
 rcases I.ok.stk with e|⟨e,hf⟩;·rw[e]at hb;exact Nt _ hb
 ·rw[e]at hb;unfold gU at hb;rw[Ph,hf]at hb;exact hb
theorem aA.stkFree(I:aA X pins σ H s):∀b∈gU X.stack,H b=none:=λb hb=>by
 rcases LN (I.stkSub b hb) with e|hb;·rw[e];exact I.free
 ·obtain⟨_,o,ho,_⟩:=I.ok.funs.mem hb;exact I.base.free b o ho (I.ok.frf b hb) λz=>I.ok.exfs b z hb
theorem aA.step{g':Array GenState}{t':Nat}{d':Drawn}{ch:List LQ}(I:aA X pins σ H s)(hch:∀b∈ch,(b∈X.ex\/X.s₀.heap.objs.size<=b)/\b≠X.env.locals/\(∀x c,X.env.cells.lookup x=some c->c≠b)/\∀p∈X.pn++pins,p.1≠b)(keep:∀b o,b≠X.env.locals->b∉X.fs->b∉ch->s.heap.get? b=some o->H b=none->h'.get? b=some o)(slot:∀b o,b≠X.env.locals->b∈X.fs->b∉ch->s.heap.get? b=some o->H b=none->∃sl,h'.get? b=some {o with slots:=sl})(free:∀b o,b∉ch->s.heap.get? b=some o->H b=none->H' b=none)(there:∀b o,b∉ch->s.heap.get? b=some o->∃o',h'.get? b=some o')(tups:∀b xs,H b=some (.tup xs)->H' b=some (.tup xs))(frzs:∀b o u,H b=some (.frz o u)->H' b=some (.frz o u))(tbls:∀b ps,H b=some (.tbl ps)->∃more,H' b=some (.tbl (ps++more)))(ns:∀m,s.heap.Ns X.env.locals m->h'.Ns X.env.locals m)(hok:ni X.prog X.w H' h')(hg:Od g'):aA X pins σ H' {s with heap:=h',gens:=g',drawn:=d',toks:=t'}:=by
 have neL:∀b o,X.s₀.heap.get? b=some o->b≠X.env.locals:=λb o e=>MI (MW (Mq e) I.ok.above);have neC:∀b o,X.s₀.heap.get? b=some o->b∉X.ex->b∉ch:=λb o e hx hb=>by
  rcases(hch b hb).1 with z|z;·exact hx z
  ·exact absurd (MW (Mq e) z) (On _)
 have cellK:∀x c,X.env.cells.lookup x=some c->∀v,s.heap.IsCell c v->h'.IsCell c v:=λx c e v⟨o,ho,hd⟩=>by
  have nch:c∉ch:=λz=>(hch c z).2.2.1 x c e rfl;by_cases hc:c∈X.fs;·obtain⟨sl,q⟩:=slot c o (I.cne x c e) hc nch ho (I.freeC x c e);exact⟨_,q,hd⟩
  ·exact⟨o,keep c o (I.cne x c e) hc nch ho (I.freeC x c e),hd⟩
 refine⟨I.ok,I.os,hg,⟨λb o e n hb hx=>?_,λb o e n hb hx=>?_,λb o e n hx=>?_,λb o e hx=>?_,λb xs e=>tups b xs (I.base.tups b xs e),λb o xs e=>frzs b o xs (I.base.frzs b o xs e),λb ps e=>?_⟩,?_,λx c e=>?_,?_,λx c e=>?_,λp hp=>?_,hok,I.len⟩;·exact keep b o (neL b o e) hb (neC b o e hx) (I.base.keep b o e n hb hx) (I.base.free b o e n hx)
 ·obtain⟨sl,e1⟩:=I.base.slot b o e n hb hx;obtain⟨sl',e2⟩:=slot b _ (neL b o e) hb (neC b o e hx) e1 (I.base.free b o e n hx);exact⟨sl',e2⟩
 ·obtain⟨o',e1⟩:=I.base.there b o e hx;exact free b o' (neC b o e hx) e1 (I.base.free b o e n hx)
 ·obtain⟨o',e1⟩:=I.base.there b o e hx;exact there b o' (neC b o e hx) e1
 ·obtain⟨m1,e1⟩:=I.base.tbls b ps e;obtain⟨m2,e2⟩:=tbls b _ e1;exact⟨m1++m2,by rw[e2,Array.append_assoc]⟩
 ·obtain⟨m,hn,hl⟩:=I.loc;refine⟨m,ns m hn,λi x v e1 e2 e3=>?_⟩;obtain⟨u,r,l⟩:=hl i x v e1 e2 e3;refine⟨u,r,?_⟩;rcases l with l|⟨k,c,e,z⟩;·exact .inl l
  ·exact .inr ⟨k,c,e,cellK x c e _ z⟩
 ·obtain⟨v,z⟩:=I.cell x c e;exact⟨v,cellK x c e v z⟩
 ·obtain⟨m,⟨o,_,_,ho,_⟩,_⟩:=I.loc;exact free _ o (λz=>(hch _ z).2.1 rfl) ho I.free
 ·obtain⟨v,o,ho,hd⟩:=I.cell x c e;exact free c o (λz=>(hch c z).2.2.1 x c e rfl) ho (I.freeC x c e)
 ·obtain⟨e,n,ne,nf,d⟩:=I.pin p hp;have nch:p.1∉ch:=λz=>(hch p.1 z).2.2.2 p hp rfl;exact⟨keep p.1 p.2 ne nf nch e n,free p.1 p.2 nch e n,ne,nf,d⟩
theorem aA.un{t':Nat}(I:aA X pins σ H s)(u:Un X.fs [] H H' s.heap h')(hok:ni X.prog X.w H' h'):aA X pins σ H' {s with heap:=h',toks:=t'}:=by obtain⟨m,⟨o,es,ep,ho,r⟩,_⟩:=id I.loc;obtain⟨sl,hL⟩:=u.any ho I.free ↥1;exact I.step (g':=s.gens) (d':=s.drawn) (ch:=[]) (λ_ z=>nomatch z) (λb o _ hb _ e n=>u.keep b o e n hb ↥1) (λb o _ hb _ e n=>u.slot b o e n hb ↥1) (λb o _ e n=>u.free b o e n ↥1) (λb o _ e=>u.there b o e ↥1) u.tups u.frzs u.tbls (λm' hm=>by obtain⟨o',es',ep',ho',r'⟩:=hm;rw[ho]at ho';cases ho';exact⟨_,es',ep',hL,r'⟩) hok I.bare
theorem aA.call{g':Array GenState}{t':Nat}{d':Drawn}{ch:List LQ}(I:aA X pins σ H s)(u:Un (gU X.stack) ch H H' s.heap h')(hok:ni X.prog X.w H' h')(hg:Od g')(hch:∀b∈ch,(b∈X.ex\/X.s₀.heap.objs.size<=b)/\b≠X.env.locals/\(∀x c,X.env.cells.lookup x=some c->c≠b)/\∀p∈X.pn++pins,p.1≠b):aA X pins σ H' {s with heap:=h',gens:=g',drawn:=d',toks:=t'}:=by obtain⟨m,⟨o,es,ep,ho,r⟩,_⟩:=id I.loc;obtain⟨sl,hL⟩:=u.any ho I.free λz=>(hch _ z).2.1 rfl;exact I.step (ch:=ch) hch (λb o hL hb hc e n=>u.keep b o e n (λz=>(LN (I.stkSub b z)).elim hL hb) hc) (λb o _ _ hc e n=>u.any e n hc) (λb o hc e n=>u.free b o e n hc) (λb o hc e=>u.there b o e hc) u.tups u.frzs u.tbls (λm' hm=>by obtain⟨o',es',ep',ho',r'⟩:=hm;rw[ho]at ho';cases ho';exact⟨_,es',ep',hL,r'⟩) hok hg
theorem aA.turned{t':Nat}{it:LQ}(I:aA X pins σ H s)(k:∀b o,b≠it->s.heap.get? b=some o->h'.get? b=some o)(hn:H it=none)(hL:it≠X.env.locals)(h1:it∈X.ex\/X.s₀.heap.objs.size<=it)(h2:∀x c,X.env.cells.lookup x=some c->c≠it)(h3:∀p∈X.pn++pins,p.1≠it):aA X pins σ H {s with heap:=h',toks:=t'}:=by
 have nit:∀b u,H b=some u->b≠it:=λb u e z=>by rw[z,hn]at e;cases e
 refine I.step (g':=s.gens) (d':=s.drawn) (ch:=[it]) (λb hb=>?_) (λb o _ _ hc e _=>k b o (λz=>hc (by simp[z])) e) (λb o _ _ hc e _=>⟨o.slots,k b o (λz=>hc (by simp[z])) e⟩) (λ_ _ _ _ n=>n) (λb o hc e=>⟨o,k b o (λz=>hc (by simp[z])) e⟩) (λ_ _ e=>e) (λ_ _ _ e=>e) (λb ps e=>⟨#[],by rw[e];simp⟩) (λm hm=>?_) (λb u e=>?_) I.bare
 ·have e:b=it:=by simpa using hb
  subst e;exact⟨h1,hL,h2,h3⟩
 ·obtain⟨o,es,ep,ho,r⟩:=hm;exact⟨o,es,ep,k _ o (NM hL) ho,r⟩
 ·refine(I.hok b u e).stay (λc v hc q=>k c v ?_ q) (λ_ q=>q) λ_ _ q=>q;rcases hc with z|z;·rw[z];exact nit b u e
  ·exact nit c _ z
theorem aA.tok(I:aA X pins σ H s)(t:Nat):aA X pins σ H {s with toks:=t}:=I.un (h':=s.heap) (t':=t) Un.refl I.hok
theorem aA.kept{t':Nat}(I:aA X pins σ H s)(k:∀b u,s.heap.get? b=some u->h'.get? b=some u):aA X pins σ H {s with heap:=h',toks:=t'}:=I.un (Un.kept k) (I.hok.kept k)
theorem aA.laid{a:LQ}{o:HO}{t':Nat}(I:aA X pins σ H s)(k:∀b u,s.heap.get? b=some u->h'.get? b=some u)(hp:↑s<=a)(new:df X.prog X.w (bI H a o) h' a o):aA X pins σ (bI H a o) {s with heap:=h',toks:=t'}:=I.un (Un.laid k hp (I.hok.fresh hp)) (I.hok.laid k hp new)
theorem aA.write{x e:LQ}{o:HO}{t':Nat}(I:aA X pins σ H s)(mu:GX (H x))(he:e=x\/H e=some (.own x))(k:∀b u,b≠e->s.heap.get? b=some u->h'.get? b=some u)(heo:∃u,h'.get? e=some u)(new:df X.prog X.w (bI H x o) h' x o):aA X pins σ (bI H x o) {s with heap:=h',toks:=t'}:=I.un (Un.write mu he k heo) (I.hok.write mu he k heo new)
theorem aA.pins_of{pins':List (LQ×Obj)}(I:aA X pins σ H s)(h:∀p∈pins',s.heap.get? p.1=some p.2/\H p.1=none/\p.1≠X.env.locals/\p.1∉X.fs/\∀v,p.2.data≠.cell v):aA X pins' σ H s:=⟨I.ok,I.os,I.bare,I.base,I.loc,I.cell,I.free,I.freeC,λp hp=>(LK hp).elim (λz=>I.pin p (Qj _ z)) (h p),I.hok,I.len⟩
theorem oD{N:List Str}(hN:N.Nodup){i j:Nat}{x:Str}(a:N[i]?=some x)(b:N[j]?=some x):i=j:=by obtain⟨h1,e1⟩:=LJ a;obtain⟨h2,e2⟩:=LJ b;exact(List.getElem_inj hN).mp (e1.trans e2.symm)
theorem xE{M:Model}{A:Md}{E:LP->LR->Prop}{i:Nat}{x:Str}{v:V}{u:LP}{Q:Unit->LR->Prop}(I:aA X pins σ H s)(hN:X.N.Nodup)(hi:X.N[i]?=some x)(hx:EZ X.env.scope x)(r:bu v u)(h:∀s',aA X pins (σ.set i (some v)) H s'->(∃a,Pi a s.heap s'.heap/\(a=X.env.locals\/X.env.cells.lookup x=some a))->Q () s')(hf:X.fn x=true\/X.env.scope.names.lookup x=some .local:=by first|exact .inl rfl|exact .inr rfl|assumption):Ma M A (storeName X.env x u) Q E s:=by
 obtain⟨m,hn,hl⟩:=id I.loc;have hcls:(X.env.scope.kind==.class||(X.env.scope.kind==.module&&X.env.locals !=X.env.globals))=false:=by rw[I.ok.kind];rfl
 have hiσ:i<σ.length:=by rw[I.len];exact(LJ hi).1
 have cne:=I.cne;have tracked:∀{a:LQ}{h':LZ},(∃o,s.heap.get? a=some o/\H a=none)->Pi a s.heap h'->ni X.prog X.w H h':=fun{a h'}ha hs b ob e=>by
  obtain⟨_,_,hfree⟩:=ha;refine(I.hok b ob e).stay (λc w' hc q=>(hs.2 c ?_).trans q) (λ_ q=>q) λ_ _ q=>q;rintro rfl;rcases hc with rfl|hc;·rw[hfree]at e;cases e
  ·rw[hfree]at hc;cases hc
 rcases hx with hk|hk
 ·refine wpAny_storeName_local hk hn (λh' hn' hs=>?_) hcls;obtain⟨oL,_,_,hoL,_⟩:=id hn;refine h _ ⟨I.ok,I.os,I.bare,⟨λb o e n hb hx=>?_,λb o e n hb hx=>?_,I.base.free,λb o e hx=>?_,I.base.tups,I.base.frzs,I.base.tbls⟩,⟨_,hn',λj y v' e1 e2 e3=>?_⟩,λy c e=>?_,I.free,I.freeC,λp hp=>?_,tracked ⟨oL,hoL,I.free⟩ hs,by simpa using I.len⟩ ⟨_,hs,.inl rfl⟩;·exact(hs.2 b (MI (MW (Mq e) I.ok.above))).trans (I.base.keep b o e n hb hx)
  ·obtain⟨sl,e1⟩:=I.base.slot b o e n hb hx;exact⟨sl,(hs.2 b (MI (MW (Mq e) I.ok.above))).trans e1⟩
  ·obtain⟨o',e1⟩:=I.base.there b o e hx;exact⟨o',(hs.2 b (MI (MW (Mq e) I.ok.above))).trans e1⟩
  ·by_cases hj:j=i;·subst hj;rw[hi]at e1;cases e1;rw[NV hiσ]at e2;cases e2;exact⟨u,r,.inl ⟨hk,by simp⟩⟩
   ·rw[Nu (NM hj)]at e2;obtain⟨u',r',q⟩:=hl j y v' e1 e2 e3;refine⟨u',r',?_⟩;rcases q with⟨k,e⟩|⟨k,c,e,z⟩;·refine .inl ⟨k,?_⟩;have:y≠x:=λe=>hj (oD hN e1 (e▸hi));simp[this,e]
    ·exact .inr ⟨k,c,e,z.sameBut hs (cne y c e)⟩
  ·obtain⟨w',z⟩:=I.cell y c e;exact⟨w',z.sameBut hs (cne y c e)⟩
  ·obtain⟨e,n,ne,nf,d⟩:=I.pin p hp;exact⟨(hs.2 p.1 ne).trans e,n,ne,nf,d⟩
 ·have hfn:X.fn x=true:=by
   rcases hf with z|z;·exact z
   ·rw[z]at hk;cases hk
  obtain⟨c,hc⟩:=I.ok.has x (.inl hk);obtain⟨w',z⟩:=I.cell x c hc;refine wpAny_storeName_cell I.ok.kind hk hc z (λh' hc' hs=>?_);obtain⟨oc,hoc,hocd⟩:=id z;refine h {s with heap:=h'} ⟨I.ok,I.os,I.bare,⟨λb o e n hb hx=>?_,λb o e n hb hx=>?_,I.base.free,λb o e hx=>?_,I.base.tups,I.base.frzs,I.base.tbls⟩,⟨m,hn.sameBut hs (NM (cne x c hc)),λj y v' e1 e2 e3=>?_⟩,λy c' e=>?_,I.free,I.freeC,λp hp=>?_,tracked ⟨oc,hoc,I.freeC x c hc⟩ hs,by simpa using I.len⟩ ⟨c,hs,.inr hc⟩;·exact(hs.2 b (MI (MW (Mq e) (I.ok.cab x c hfn hc)))).trans (I.base.keep b o e n hb hx)
  ·obtain⟨sl,e1⟩:=I.base.slot b o e n hb hx;exact⟨sl,(hs.2 b (MI (MW (Mq e) (I.ok.cab x c hfn hc)))).trans e1⟩
  ·obtain⟨o',e1⟩:=I.base.there b o e hx;exact⟨o',(hs.2 b (MI (MW (Mq e) (I.ok.cab x c hfn hc)))).trans e1⟩
  ·by_cases hj:j=i;·subst hj;rw[hi]at e1;cases e1;rw[NV hiσ]at e2;cases e2;exact⟨u,r,.inr ⟨.inl hk,c,hc,hc'⟩⟩
   ·rw[Nu (NM hj)]at e2;obtain⟨u',r',q⟩:=hl j y v' e1 e2 e3;refine⟨u',r',?_⟩;rcases q with q|⟨k,c',e,z'⟩;·exact .inl q
    ·refine .inr ⟨k,c',e,z'.sameBut hs ?_⟩;rintro rfl;exact hj (oD hN e1 (I.ok.inj _ _ _ e hc▸hi))
  ·by_cases hcc:c'=c;·subst hcc;exact⟨_,hc'⟩
   ·obtain⟨w2,z2⟩:=I.cell y c' e;exact⟨w2,z2.sameBut hs hcc⟩
  ·obtain⟨e,n,ne,nf,d⟩:=I.pin p hp;refine⟨(hs.2 p.1 ?_).trans e,n,ne,nf,d⟩;intro q;rw[q,hoc]at e;have q':oc=p.2:=Nm e;exact d w' (by rw[<-q'];exact hocd)
theorem jA{M:Model}{A:Md}{E:LP->LR->Prop}{i:Nat}{x:Str}{v:V}{u:LP}{Q:Unit->LR->Prop}(I:aA X pins σ H s)(hN:X.N.Nodup)(hi:X.N[i]?=some x)(hx:EZ X.env.scope x)(r:bu v u)(h:∀s',aA X pins (σ.set i (some v)) H s'->Q () s')(hf:X.fn x=true\/X.env.scope.names.lookup x=some .local:=by first|exact .inl rfl|exact .inr rfl|assumption):Ma M A (storeName X.env x u) Q E s:=xE I hN hi hx r (λs' I' _=>h s' I') hf
theorem aA.call'{s':LR}{ch:List LQ}(I:aA X pins σ H s)(ho:s'.os=s.os)(u:Un (gU X.stack) ch H H' s.heap s'.heap)(hok:ni X.prog X.w H' s'.heap)(hg:Od s'.gens)(hch:∀b∈ch,(b∈X.ex\/X.s₀.heap.objs.size<=b)/\b≠X.env.locals/\(∀x c,X.env.cells.lookup x=some c->c≠b)/\∀p∈X.pn++pins,p.1≠b):aA X pins σ H' s':=by obtain⟨h',g',d',t',o'⟩:=s';have e:o'=s.os:=ho;subst e;exact I.call (g':=g') (t':=t') (d':=d') u hok hg hch
end
abbrev XK:=LP->Option LQ->Hp->Prop
abbrev St:=List (Option V)
abbrev VK:=V->Hp->Prop
abbrev TE:=St->Hp->VK->Prop
abbrev TT:=St->Hp->(Bool->Hp->Prop)->Prop
abbrev TA:=St->Hp->(List V->Hp->Prop)->Prop
structure qF where
 nx:St->Hp->Prop
 rt:VK
 bk:St->Hp->Prop:=λ_ _=>False
 ct:St->Hp->Prop:=λ_ _=>False
abbrev TS:=qF->St->Hp->Prop
def EP(X:Cx)(pins:List (LQ×Obj))(σ:St)(Q:VK)(u:LP)(s':LR):Prop:=∃v H',aA X pins σ H' s'/\bu v u/\Q v H'
def TP(X:Cx)(pins:List (LQ×Obj))(σ:St)(Q:Bool->Hp->Prop)(b:Bool)(s':LR):Prop:=∃H',aA X pins σ H' s'/\Q b H'
def AP(X:Cx)(pins:List (LQ×Obj))(σ:St)(Q:List V->Hp->Prop)(us:List LP)(s':LR):Prop:=∃vs H',aA X pins σ H' s'/\aR vs us/\Q vs H'
def SP(X:Cx)(pins:List (LQ×Obj))(D:qF)(f:Flow)(s':LR):Prop:=match f with|.next=>∃σ' H',aA X pins σ' H' s'/\D.nx σ' H'|.brk=>∃σ' H',aA X pins σ' H' s'/\D.bk σ' H'|.cont=>∃σ' H',aA X pins σ' H' s'/\D.ct σ' H'|.ret u=>∃v σ' H',aA X pins σ' H' s'/\bu v u/\D.rt v H'
def PE(X:Cx)(e:LU)(t:TE):Prop:=∀(pins:List (LQ×Obj)) (s:LR) (σ:St) (H:Hp) (Q:VK),aA X pins σ H s->t σ H Q->Ma (LY X.prog X.w) X.A (Ml e X.env) (EP X pins σ Q) X.xe s
def PT(X:Cx)(e:LU)(t:TT):Prop:=∀(pins:List (LQ×Obj)) (s:LR) (σ:St) (H:Hp) (Q:Bool->Hp->Prop),aA X pins σ H s->t σ H Q->Ma (LY X.prog X.w) X.A (isTrue e X.env (Ml e X.env)) (TP X pins σ Q) X.xe s
def PW(X:Cx)(e:LU)(t:TT):Prop:=∀(whole:Sem LP) (pins:List (LQ×Obj)) (s:LR) (σ:St) (H:Hp) (Q:Bool->Hp->Prop),aA X pins σ H s->t σ H Q->Ma (LY X.prog X.w) X.A (isTrue e X.env whole) (TP X pins σ Q) X.xe s
theorem PW.pt{X:Cx}{e:LU}{t:TT}(h:PW X e t):PT X e t:=h _
def PA(X:Cx)(es:List LU)(t:TA):Prop:=∀(pos:Pos) (pins:List (LQ×Obj)) (s:LR) (σ:St) (H:Hp) (Q:List V->Hp->Prop),aA X pins σ H s->t σ H Q->Ma (LY X.prog X.w) X.A (spliced (MF pos (Mf es X.env))) (AP X pins σ Q) X.xe s
def PS(X:Cx)(st:Me)(t:TS):Prop:=∀(pins:List (LQ×Obj)) (s:LR) (σ:St) (H:Hp) (D:qF),aA X pins σ H s->t D σ H->Ma (LY X.prog X.w) X.A (exec st X.env) (SP X pins D) X.xe s
def ky(X:Cx)(st:List Me)(t:TS):Prop:=∀(pins:List (LQ×Obj)) (s:LR) (σ:St) (H:Hp) (D:qF),aA X pins σ H s->t D σ H->Ma (LY X.prog X.w) X.A (execs st X.env) (SP X pins D) X.xe s
theorem ck{α:Type}{t:Sem α}{Q Q':α->LR->Prop}{M:Model}{A:Md}{E:LP->LR->Prop}{s:LR}(h:Ma M A t Q E s)(hQ:∀a s,Q a s->Q' a s):Ma M A t Q' E s:=Ms h hQ λ_ _ x=>x
section
variable{X:Cx}
def xG(i:Nat):TE:=λσ H Q=>∃v,σ[i]?=some (some v)/\Q v H
def tC(v:V):TE:=λ_ H Q=>Q v H
theorem uW{i:Nat}{x:Str}{pos:Pos}(hN:X.N[i]?=some x)(hv:E1 X.env.scope x)(hd:(x==("__debug__":Str))=false:=by decide)(hcd:(x==("__classdict__":Str))=false:=by decide):PE X (.Name x pos) (xG i):=by
 intro pins s σ H Q I h;obtain⟨v,e,h⟩:=h;obtain⟨m,hn,hl⟩:=I.loc;obtain⟨u,r,l⟩:=hl i x v hN e hv;have fin:EP X pins σ Q u s:=⟨v,H,I,r,h⟩;rcases l with⟨hk,hm⟩|⟨hk,c,hc,hcell⟩;·exact wpAny_Name (wpAny_loadName_local I.ok.kind hk hn hm fin) hd
 ·rcases hk with hk|hk;·exact wpAny_Name (wpAny_loadName_cell I.ok.kind hk hc hcell fin) hd
  ·exact wpAny_Name (wpAny_loadName_free I.ok.kind hk hc hcell fin hcd) hd
theorem Eb{i j pos}:PE X (.Constant (.int i) j pos) (tC (.int i)):=λ_ _ _ H _ I h=>wpAny_Constant_int ⟨.int i,H,I.tok _,⟨_,rfl⟩,h⟩
theorem CU{b j pos}:PE X (.Constant (.bool b) j pos) (tC (.bl b)):=λ_ _ _ H _ I h=>Constant_bool ⟨.bl b,H,I,rfl,h⟩
theorem Ee{j pos}:PE X (.Constant .none j pos) (tC .non):=λ_ _ _ H _ I h=>Constant_none ⟨.non,H,I,rfl,h⟩
theorem Ef{x j pos}:PE X (.Constant (.str x) j pos) (tC (.str x)):=λ_ _ _ H _ I h=>Calls.Constant_str ⟨.str x,H,I.tok _,⟨_,rfl⟩,h⟩
def Gl(X:Cx)(x:Str):Prop:=X.env.kindOf x=some .globalImplicit
theorem jN{E:LP->LR->Prop}{pins:List (LQ×Obj)}{s:LR}{σ:St}{H:Hp}{x:Str}{u:LP}{pos:Pos}{Q:LP->LR->Prop}(I:aA X pins σ H s)(hg:Gl X x)(hm:X.mg x=some u)(h:Q u s)(hd:(x==("__debug__":Str))=false:=by decide):Ma (LY X.prog X.w) X.A (Ml (.Name x pos) X.env) Q E s:=Calls.Name_function_global I.ok.kind hg (Calls.loadGlobal_global (by rw[I.ok.glob];exact I.mod.glob.keeps I.bk) hm h) hd
theorem l_{E:LP->LR->Prop}{pins:List (LQ×Obj)}{s:LR}{σ:St}{H:Hp}{x:Str}{u:LP}{pos:Pos}{Q:LP->LR->Prop}(I:aA X pins σ H s)(hg:Gl X x)(hm:X.mg x=none)(hv:NL x=some u)(h:Q u s)(hn:x≠"__name__":=by decide)(hd:(x==("__debug__":Str))=false:=by decide):Ma (LY X.prog X.w) X.A (Ml (.Name x pos) X.env) Q E s:=by obtain⟨mb,h1,h2⟩:=I.mod.blt;exact Calls.Name_function_global I.ok.kind hg (Calls.loadGlobal_builtin (by rw[I.ok.glob];exact I.mod.glob.keeps I.bk) hm (by rw[I.ok.blt];exact h1.keeps I.bk) ((h2 x hn).trans hv) h) hd
theorem jR{x:Str}{v:V}{u:LP}{pos:Pos}(hg:Gl X x)(hm:X.mg x=some u)(r:bu v u)(hd:(x==("__debug__":Str))=false:=by decide):PE X (.Name x pos) (tC v):=λ_ _ _ H _ I h=>jN I hg hm ⟨v,H,I,r,h⟩ hd
variable{a b:LU}{ta tb:TE}{pos:Pos}
def tB(t:TE):TT:=λσ H Q=>t σ H λx H1=>∃c,x=.bl c/\Q c H1
theorem uZ{e:LU}{t:TE}(h:PE X e t)(he:∀whole,isTrue e X.env whole=(do let v<-whole;standAt e.pos;holding [v] (truthy v)):=by intro _;rfl):PT X e (tB t):=by intro pins s σ H Q I hw;refine isTrue_plain (ck (h pins s σ H _ I hw) λv s1⟨x,H1,I1,r1,q1⟩=>?_) (he _);obtain⟨d,rfl,q⟩:=q1;cases r1;exact Qk ⟨H1,I1,q⟩
variable{tA tB':TT}{dc:List LU}
def GD(t u:TT):TT:=λσ H Q=>t σ H λc H1=>if c=true then u σ H1 Q else Q false H1
def HQ(t u:TT):TT:=λσ H Q=>t σ H λc H1=>if c=true then Q true H1 else u σ H1 Q
def EM(t:TT):TT:=λσ H Q=>t σ H λc H1=>Q (!c) H1
theorem BM(ha:PT X a tA):PW X (.BoolOp .And [a] pos) tA:=by intro wh pins s σ H Q I h;refine isTrue_and (ck (ha pins s σ H Q I h) λc s1 e=>?_);cases c with|true=>exact isTrue_and_nil e|false=>exact e
theorem zJ(ha:PT X a tA):PW X (.BoolOp .Or [a] pos) tA:=by intro wh pins s σ H Q I h;refine isTrue_or (ck (ha pins s σ H Q I h) λc s1 e=>?_);cases c with|false=>exact isTrue_or_nil e|true=>exact e
theorem Em(ha:PT X a tA)(hb:PW X (.BoolOp .And (b::dc) pos) tB'):PW X (.BoolOp .And (a::b::dc) pos) (GD tA tB'):=by intro wh pins s σ H Q I h;refine isTrue_and (ck (ha pins s σ H _ I h) λc s1⟨H1,I1,q1⟩=>?_);cases c with|true=>exact hb wh pins s1 σ H1 Q I1 q1|false=>exact⟨H1,I1,q1⟩
theorem CW(ha:PT X a tA)(hb:PW X (.BoolOp .Or (b::dc) pos) tB'):PW X (.BoolOp .Or (a::b::dc) pos) (HQ tA tB'):=by intro wh pins s σ H Q I h;refine isTrue_or (ck (ha pins s σ H _ I h) λc s1⟨H1,I1,q1⟩=>?_);cases c with|true=>exact⟨H1,I1,q1⟩|false=>exact hb wh pins s1 σ H1 Q I1 q1
theorem zI(ha:PT X a tA):PT X (.UnaryOp .Not a pos) (EM tA):=by intro pins s σ H Q I h;exact isTrue_not (ha pins s σ H (λc H1=>Q (!c) H1) I h)
def C_(ta tb:TE):TE:=λσ H Q=>ta σ H λx H1=>∃c,x=.bl c/\if c=true then tb σ H1 Q else Q (.bl false) H1
theorem zq{op}{t:TE}(h:PE X a t):PE X (.BoolOp op [a] pos) t:=λpins s σ H Q I hw=>BoolOp_one (h pins s σ H Q I hw)
theorem zo(ha:PE X a ta)(hb:PE X (.BoolOp .And (b::dc) pos) tb):PE X (.BoolOp .And (a::b::dc) pos) (C_ ta tb):=by intro pins s σ H Q I h;refine BoolOp_and (ck (ha pins s σ H _ I h) λv s1⟨x,H1,I1,r1,q1⟩=>?_);obtain⟨c,rfl,q1⟩:=q1;cases r1;refine Qk ?_;cases c with|true=>exact hb pins s1 σ H1 Q I1 q1|false=>exact⟨.bl false,H1,I1,rfl,q1⟩
end
def i6(K:⇑0)(H:Hp)(a:LQ)(xs:List V):Prop:=Rd H a (.lst xs)\/∃(o:Obj) (its:Array LP) (n:Nat),K.lookup a=some o/\o.cls=.type "list"/\o.dict=none/\o.data=.seq its n/\its.size<=Mi/\aR xs its.toList
def dO(K:⇑0)(H:Hp)(a:LQ)(xs:List V):Prop:=Rd H a (.tup xs)\/∃(o:Obj) (its:Array LP) (n:Nat),K.lookup a=some o/\o.cls=.type "tuple"/\o.dict=none/\o.data=.seq its n/\its.size<=Mi/\aR xs its.toList
def Hr:LP->Option V|.none=>some .non|.bool b=>some (.bl b)|.int i _=>some (.int i)|.str x _=>some (.str x)|.bytes b _=>some (.byt b)|.float b _=>some (.flt b)|.ref a=>some (.ref a)|.type n=>some (.ty n)|_=>none
theorem bu.abs{x:V}{u:LP}(r:bu x u):Hr u=some x:=by cases x with|non=>cases r;rfl|bl _=>cases r;rfl|int _=>obtain⟨t,rfl⟩:=r;rfl|str _=>obtain⟨t,rfl⟩:=r;rfl|byt _=>obtain⟨t,rfl⟩:=r;rfl|flt _=>obtain⟨t,rfl⟩:=r;rfl|ref _=>cases r;rfl|ty _=>cases r;rfl
theorem bu.inj{x y:V}{u:LP}(r:bu x u)(q:bu y u):x=y:=Nm (r.abs.symm.trans q.abs)
theorem aR.inj:∀{xs ys:List V}{us:List LP},aR xs us->aR ys us->xs=ys|_,_,_,.nil,.nil=>rfl|_,_,_,.cons r t,.cons r' t'=>by rw[r.inj r',aR.inj t t']
section
variable{X:Cx}{pins:List (LQ×Obj)}{σ:St}{H:Hp}{s:LR}{a:LQ}{xs ys:List V}
theorem dO.of{K:⇑0}(h:H a=some (.tup xs)):dO K H a xs:=.inl (.inl h)
theorem aA.list(I:aA X pins σ H s)(h:i6 X.K H a xs):∃its:List LP,aR xs its/\PlainL s.heap a its.toArray/\xs.length<=Mi:=by
 rcases h with h|⟨o,its,n,hk,hc,hd,hs,hz,r⟩;·obtain⟨z,its,n,r,e⟩:=h.ok I.hok;exact⟨its,r,⟨_,n,e,rfl,rfl,rfl⟩,z⟩
 ·refine⟨its.toList,r,⟨o,n,I.kIn a o hk,hc,hd,by simpa using hs⟩,?_⟩;have e:=r.length;simp only[MQ]at e;lia
theorem aA.tuple(I:aA X pins σ H s)(h:dO X.K H a xs):∃its:List LP,aR xs its/\IsTup s.heap a its.toArray/\xs.length<=Mi:=by
 rcases h with h|⟨o,its,n,hk,hc,_,hs,hz,r⟩;·obtain⟨z,its,r,p⟩:=h.ok I.hok;exact⟨its,r,p.tup,z⟩
 ·refine⟨its.toList,r,⟨o,I.kIn a o hk,hc,n,by simpa using hs⟩,?_⟩;have e:=r.length;simp only[MQ]at e;lia
theorem aA.list_inj(I:aA X pins σ H s)(h:i6 X.K H a xs)(h':i6 X.K H a ys):xs=ys:=by
 obtain⟨its,r,⟨o,n,e,_,_,d⟩,_⟩:=I.list h;obtain⟨its',r',⟨o',n',e',_,_,d'⟩,_⟩:=I.list h';rw[e]at e';cases e';rw[d]at d';injection d' with d1 _;have:its=its':=by simpa using congrArg Array.toList d1
 subst this;exact r.inj r'
theorem aA.tuple_inj(I:aA X pins σ H s)(h:dO X.K H a xs)(h':dO X.K H a ys):xs=ys:=by
 obtain⟨its,r,⟨o,e,_,n,d⟩,_⟩:=I.tuple h;obtain⟨its',r',⟨o',e',_,n',d'⟩,_⟩:=I.tuple h';rw[e]at e';cases e';rw[d]at d';injection d' with d1 _;have:its=its':=by simpa using congrArg Array.toList d1
 subst this;exact r.inj r'
end
abbrev Cx.wish(X:Cx)(E:LP->LR->Prop):Cx:={X with xe:=E}
abbrev Cx.nox(X:Cx):Cx:=X.wish λ_ _=>False
theorem Cx.Ok.wish{X:Cx}(ok:X.Ok)(E:LP->LR->Prop):(X.wish E).Ok:=⟨ok.mod,ok.kind,ok.glob,ok.blt,ok.above,ok.inj,ok.has,ok.cab,ok.hd,ok.frames,ok.stk,ok.exf,ok.bs,ok.bsz,ok.noex,ok.exfs,ok.funs,ok.frf⟩
theorem Cx.Ok.unwish{X:Cx}{E:LP->LR->Prop}(ok:(X.wish E).Ok):X.Ok:=⟨ok.mod,ok.kind,ok.glob,ok.blt,ok.above,ok.inj,ok.has,ok.cab,ok.hd,ok.frames,ok.stk,ok.exf,ok.bs,ok.bsz,ok.noex,ok.exfs,ok.funs,ok.frf⟩
section
variable{X:Cx}{pins:List (LQ×Obj)}{σ:St}{H:Hp}{s:LR}{E:LP->LR->Prop}
theorem aA.wish(I:aA X pins σ H s)(E:LP->LR->Prop):aA (X.wish E) pins σ H s:=⟨I.ok.wish E,I.os,I.bare,I.base,I.loc,I.cell,I.free,I.freeC,I.pin,I.hok,I.len⟩
theorem aA.unwish(I:aA (X.wish E) pins σ H s):aA X pins σ H s:=⟨I.ok.unwish,I.os,I.bare,I.base,I.loc,I.cell,I.free,I.freeC,I.pin,I.hok,I.len⟩
theorem SP.unwish{D:qF}{f:Flow}{s':LR}(h:SP (X.wish E) pins D f s'):SP X pins D f s':=by cases f with|next=>obtain⟨σ',H',I,q⟩:=h;exact⟨σ',H',I.unwish,q⟩|brk=>obtain⟨σ',H',I,q⟩:=h;exact⟨σ',H',I.unwish,q⟩|cont=>obtain⟨σ',H',I,q⟩:=h;exact⟨σ',H',I.unwish,q⟩|ret u=>obtain⟨v,σ',H',I,r,q⟩:=h;exact⟨v,σ',H',I.unwish,r,q⟩
theorem PT.nox{e:LU}{t:TT}(h:PT X.nox e t):PT X e t:=λpins s σ H Q I hw=>Ms (h pins s σ H Q (I.wish _) hw) (λ_ _⟨H',I',q⟩=>⟨H',I'.unwish,q⟩) λ_ _ z=>Nf z
theorem ky.nox{st:List Me}{t:TS}(h:ky X.nox st t):ky X st t:=λpins s σ H D I hw=>Ms (h pins s σ H D (I.wish _) hw) (λ_ _ q=>q.unwish) λ_ _ z=>Nf z
end
section
variable{X:Cx}{st:Me}{dc:List Me}{t u:TS}{e:LU}{te:TE}{pos:Pos}
def Da:TS:=λD σ H=>D.nx σ H
def GL(t u:TS):TS:=λD σ H=>t {D with nx:=u D} σ H
theorem rP:ky X [] Da:=λ_ _ σ H _ I h=>Ql ⟨σ,H,I,h⟩
theorem lz(h1:PS X st t)(h2:ky X dc u):ky X (st::dc) (GL t u):=by intro pins s σ H D I h;refine PC (ck (h1 pins s σ H {D with nx:=u D} I h) λf s1 q=>?_);cases f with|next=>obtain⟨σ',H',I',q⟩:=q;exact h2 pins s1 σ' H' D I' q|ret v=>exact q|brk=>exact q|cont=>exact q
theorem jS(h1:PS X st t):ky X [st] t:=by intro pins s σ H D I h;refine PC (ck (h1 pins s σ H D I h) λf s1 q=>?_);cases f with|next=>exact Ql q|ret v=>exact q|brk=>exact q|cont=>exact q
theorem aA.quiet{pins:List (LQ×Obj)}{σ:St}{H:Hp}{s:LR}(I:aA X pins σ H s):interactive X.env=false:=by simp[interactive,I.ok.kind]
def GF(te:TE):TS:=λD σ H=>te σ H λ_ H1=>D.nx σ H1
theorem BI(he:PE X e te)(hs:OR e none pos.line X.env=pure false:=by rfl):PS X (.Expr e pos) (GF te):=by intro pins s σ H D I h;exact wpAny_Expr_any (ck (he pins s σ H _ I h) λv s1⟨x,H1,I1,r1,q1⟩=>⟨σ,H1,I1,q1⟩) I.quiet hs
def B7(te:TE):TS:=λD σ H=>te σ H D.rt
theorem rO(he:PE X e te):PS X (.Return (some e) pos) (B7 te):=by intro pins s σ H D I h;exact wpAny_Return_some (ck (he pins s σ H _ I h) λv s1⟨x,H1,I1,r1,q1⟩=>⟨x,σ,H1,I1,r1,q1⟩)
def GG(c:TT)(t u:TS):TS:=λD σ H=>c σ H λb H1=>if b=true then t D σ H1 else u D σ H1
theorem zF{c:LU}{a b:List Me}{tc:TT}(hc:PT X c tc)(ha:ky X a t)(hb:ky X b u):PS X (.If c a b pos) (GG tc t u):=by intro pins s σ H D I h;refine wpAny_If (ck (hc pins s σ H _ I h) λd s1⟨H1,I1,q1⟩=>?_);cases d with|true=>exact ha pins s1 σ H1 D I1 q1|false=>exact hb pins s1 σ H1 D I1 q1
end
abbrev TG:=V->St->Hp->(St->Hp->Prop)->Prop
abbrev Au:=List V->St->Hp->(St->Hp->Prop)->Prop
def PG(X:Cx)(target:LU)(t:TG):Prop:=∀(pins:List (LQ×Obj)) (s:LR) (σ:St) (H:Hp) (v:V) (u:LP) (Q:St->Hp->Prop),aA X pins σ H s->bu v u->t v σ H Q->Ma (LY X.prog X.w) X.A (assign target X.env u) (λ_ s'=>∃σ' H',aA X pins σ' H' s'/\Q σ' H') X.xe s
def xP(X:Cx)(ts:List LU)(t:Au):Prop:=∀(pins:List (LQ×Obj)) (s:LR) (σ:St) (H:Hp) (vs:List V) (us:List LP) (Q:St->Hp->Prop),aA X pins σ H s->aR vs us->t vs σ H Q->Ma (LY X.prog X.w) X.A (assignInOrder ((NO ts X.env).map (·.2)) us) (λ_ s'=>∃σ' H',aA X pins σ' H' s'/\Q σ' H') X.xe s
section
variable{X:Cx}{pos:Pos}
def CJ(i:Nat):TG:=λv σ H Q=>Q (σ.set i (some v)) H
theorem By{i:Nat}{x:Str}(hN:X.N.Nodup)(hi:X.N[i]?=some x)(hx:EZ X.env.scope x)(hf:X.fn x=true\/X.env.scope.names.lookup x=some .local:=by first|exact .inl rfl|exact .inr rfl|assumption):PG X (.Name x pos) (CJ i):=by intro pins s σ H v u Q I r h;exact wpAny_assign_Name (jA I hN hi hx r (λs' I'=>⟨_,H,I',h⟩) hf)
def Ht:Au:=λvs σ H Q=>vs=[]/\Q σ H
def Fs(t:TG)(u:Au):Au:=λvs σ H Q=>∃v r,vs=v::r/\t v σ H λσ' H'=>u r σ' H' Q
theorem BA:xP X [] Ht:=by intro pins s σ H vs us Q I r h;obtain⟨e,h⟩:=h;subst e;cases r;exact assignInOrder_nil ⟨σ,H,I,h⟩
theorem zw{e:LU}{es:List LU}{t:TG}{u:Au}(h1:PG X e t)(h2:xP X es u)(hs:(NO (e::es) X.env).map (·.2)=assign e X.env::(NO es X.env).map (·.2):=by rfl):xP X (e::es) (Fs t u):=by intro pins s σ H vs us Q I r h;obtain⟨v,vr,e1,h⟩:=h;subst e1;cases r with|cons r rr=>rw[hs];refine assignInOrder_cons (ck (h1 pins s σ H _ _ _ I r h) λ_ s1⟨σ1,H1,I1,q1⟩=>?_);exact h2 pins s1 σ1 H1 _ _ Q I1 rr q1
def Dy(K:⇑0)(n:Nat)(t:Au):TG:=λv σ H Q=>∃a xs,v=.ref a/\dO K H a xs/\xs.length=n/\t xs σ H Q
theorem Eg{es:List LU}{k:Nat}{t:Au}{n:Nat}(hc:X.calm=true)(h:xP X es t)(hn:(NO es X.env).length=n:=by rfl)(hst:(NO es X.env).findIdx? (·.1)=none:=by rfl):PG X (.Tuple es k pos) (Dy X.K n t):=by intro pins s σ H v u Q I r hw;obtain⟨a,xs,e1,hq,hl,hw⟩:=hw;subst e1;cases r;obtain⟨its,rv,ht,hz⟩:=I.tuple hq;refine assign_Tuple_tuple (I.ok.hd hc) ht (by simp[hn,<-hl,rv.length]) hst λh' hx=>?_;have I1:aA X pins σ H {s with heap:=h'}:=I.kept (t':=s.toks) λb o e=>hx b o (MI (Mq e)) e;exact h pins _ σ H xs _ Q I1 (by simpa using rv) hw
def GE(te:TE)(g:TG):TS:=λD σ H=>te σ H λx H1=>g x σ H1 D.nx
theorem Ei{tg e:LU}{te:TE}{g:TG}(he:PE X e te)(hg:PG X tg g)(hs:swapsWithSole [tg] e pos.line X.env=pure false:=by rfl)(hw:swappedStores [tg] e X.env=pure none:=by rfl)(h1:(NO [tg] X.env).map (·.2)=[assign tg X.env]:=by rfl):PS X (.Assign [tg] e pos) (GE te g):=by intro pins s σ H D I h;refine wpAny_Assign_stores (ck (he pins s σ H _ I h) λv s1⟨x,H1,I1,r1,q1⟩=>?_) hs hw;rw[h1];exact ck (hg pins s1 σ H1 x v _ I1 r1 q1) λ_ s2 q=>q
theorem uY{i:Nat}{x:Str}{e:LU}{te:TE}{pos':Pos}(hN:X.N.Nodup)(hi:X.N[i]?=some x)(hx:EZ X.env.scope x)(he:PE X e te)(hs:OR e (some (.Name x pos')) pos.line X.env=pure false:=by rfl)(hf:X.fn x=true\/X.env.scope.names.lookup x=some .local:=by first|exact .inl rfl|exact .inr rfl|assumption):PS X (.Assign [.Name x pos'] e pos) (GE te (CJ i)):=by intro pins s σ H D I h;refine wpAny_Assign_Name (ck (he pins s σ H _ I h) λv s1⟨y,H1,I1,r1,q1⟩=>?_) hs;exact jA I1 hN hi hx r1 (λs2 I2=>⟨_,H1,I2,q1⟩) hf
def HS(i j:Nat)(ta:TA):TS:=λD σ H=>ta σ H λvs H1=>∃v w,vs=[v,w]/\D.nx ((σ.set i (some v)).set j (some w)) H1
theorem Ek{i j:Nat}{x y:Str}{a b:LU}{ta:TA}{px py pt:Pos}{kt k2 pt2}(hc:X.calm=true)(hN:X.N.Nodup)(hi:X.N[i]?=some x)(hj:X.N[j]?=some y)(hij:i≠j)(hx:X.env.scope.names.lookup x=some .local)(hy:X.env.scope.names.lookup y=some .local)(ha:PA X [a,b] ta)(hw:swappedStores [.Tuple [.Name x px,.Name y py] kt pt] (.Tuple [a,b] k2 pt2) X.env=pure (some [x,y]))(hs:swapsWithSole [.Tuple [.Name x px,.Name y py] kt pt] (.Tuple [a,b] k2 pt2) pos.line X.env=pure false:=by rfl):PS X (.Assign [.Tuple [.Name x px,.Name y py] kt pt] (.Tuple [a,b] k2 pt2) pos) (HS i j ta):=by
 intro pins s σ H D I h;rw[exec_Assign_arm];refine Mb (OS ?_);rw[hs];refine Mb (Mj ?_);rw[if_neg ⋯];refine Mb (Tuple_ (ck (ha _ pins s σ H _ I h) λus s1⟨vs,H1,I1,r1,q1⟩=>?_));obtain⟨v,w,e1,q1⟩:=q1;subst e1;obtain⟨u1,u2,rfl,rv,rw'⟩:∃u1 u2,us=[u1,u2]/\bu v u1/\bu w u2:=by cases r1 with|cons p q=>cases q with|cons p' q'=>cases q';exact⟨_,_,rfl,p,p'⟩
 refine OG ?_ (by show 2<=Mi;decide);have I2:aA X pins σ H1 {s1 with heap:=s1.heap.push {cls:=.type "tuple",data:=.seq [u1,u2].toArray}}:=I1.kept (t':=s1.toks) λb o e=>MJ _ e;rw[hw];refine Mb (Mj ?_);show Ma (LY X.prog X.w) X.A (do rule "assign.swapped-stores";let items<-unpackItems (.ref ↑s1) 2 none;assignInOrder [λv=>bindName X.env y v,λv=>bindName X.env x v] items.reverse;pure Flow.next) _ _ _;refine Mb (NW (Mb (unpackItems_tuple (items:=#[u1,u2]) (I.ok.hd hc) (IsTup.new s1.heap _) λh' hx'=>?_)));have I3:=I2.kept (h':=h') (t':=s1.toks) λb o e=>hx' b o (MI (Mq e)) e;show Ma _ _ (assignInOrder [λv=>bindName X.env y v,λv=>bindName X.env x v] [u2,u1]>>=λ_=>pure Flow.next) _ _ _;refine Mb (assignInOrder_cons (wpAny_bindName (jA I3 hN hj (.inl hy) rw' (λs2 I4=>?_) (.inr hy))));refine assignInOrder_cons (wpAny_bindName (jA I4 hN hi (.inl hx) rv (λs3 I5=>assignInOrder_nil (Mj ?_)) (.inr hx)));rw[List.set_comm _ _ (NM hij)]at I5;exact⟨_,H1,I5,q1⟩
end
section
variable{X:Cx}{pos:Pos}
def EN(c:TT)(tb:TS):TS:=λD σ H=>∃W:Nat->St->Hp->Prop,(∃m,W m σ H)/\∀m σ H,W m σ H->c σ H λb H1=>if b=true then∃N:St->Hp->Prop,(∀σ' H',N σ' H'->∃m',m'<m/\W m' σ' H')/\tb {D with nx:=N,ct:=N,bk:=D.nx} σ H1 else D.nx σ H1
theorem zH{c:LU}{body:List Me}{tc:TT}{tb:TS}(hp:PassesOwn (LY X.prog X.w) X.A X.env X.xe)(hc:PT X c tc)(hb:ky X body tb):PS X (.While c body [] pos) (EN tc tb):=by intro pins s σ H D I h;obtain⟨W,⟨m0,w0⟩,turn⟩:=h;refine wpAny_While (codeAny_whileLoop (λn s'=>∃σ' H',aA X pins σ' H' s'/\W n σ' H') ?_ m0 ⟨σ,H,I,w0⟩);rintro n s1⟨σ1,H1,I1,w1⟩;refine OT hp (ck (hc pins s1 σ1 H1 _ I1 (turn n σ1 H1 w1)) λb s2⟨H2,I2,q2⟩=>?_);cases b with
 |true=>obtain⟨N,hN,q2⟩:=q2;rw[if_pos rfl];refine OT hp (ck (hb pins s2 σ1 H2 _ I2 q2) λf s3 q3=>?_);cases f with|next=>obtain⟨σ3,H3,I3,n3⟩:=q3;obtain⟨m',hm,w3⟩:=hN σ3 H3 n3;exact⟨m',hm,σ3,H3,I3,w3⟩|cont=>obtain⟨σ3,H3,I3,n3⟩:=q3;obtain⟨m',hm,w3⟩:=hN σ3 H3 n3;exact⟨m',hm,σ3,H3,I3,w3⟩|brk=>exact q3|ret v=>exact q3
 |false=>rw[if_neg Oo];exact Ql ⟨σ1,H2,I2,q2⟩
end
structure It where
 go:Nat->Hp->Prop
 yld:Nat->Hp->V->Hp->Prop
 stop:Nat->Hp->Prop
def j7(X:Cx)(pins:List (LQ×Obj))(H:Hp)(b:LQ):Prop:=H b=none/\b≠X.env.locals/\b∉X.fs/\(b∈X.ex\/X.s₀.heap.objs.size<=b)/\(∀x c,X.env.cells.lookup x=some c->c≠b)/\∀p∈X.pn++pins,p.1≠b
theorem aA.fpOk{X:Cx}{pins:List (LQ×Obj)}{σ:St}{H H':Hp}{s:LR}{b:LQ}(I:aA X pins σ H s)(hb:↑s<=b)(hn:H' b=none):j7 X pins H' b:=by
 refine⟨hn,Nat.ne_of_gt (MW I.lt hb),I.nofs hb,.inr (Mv I.sz hb),λx c e z=>?_,λp hp z=>?_⟩;·obtain⟨v,q⟩:=I.cell x c e;exact absurd (MW q.lt (by rw[z];exact hb)) (On _)
 ·exact absurd (MW (Mq (I.pin p hp).1) (by rw[z];exact hb)) (On _)
structure AD (P:Mc) (w:LV) (K:⇑0) (tg:LU) (J:It) (fp:List LQ) (it:LQ) (tn:Nat->LZ->Prop):Prop where
 mem:it∈fp
 obj:∀i h,tn i h->∀b∈fp,∃o,h.get? b=some o/\∀v,o.data≠.cell v
 keep:∀i h h',tn i h->(∀b∈fp,∀o,h.get? b=some o->h'.get? b=some o)->tn i h'
 item:∀(X:Cx),X.prog=P->X.w=w->X.K=K->X.calm=true->∀(i:Nat) (pins:List (LQ×Obj)) (s:LR) (σ:St) (H:Hp) (E:LP->LR->Prop),aA X pins σ H s->(∀b∈fp,j7 X pins H b)->tn i s.heap->J.go i H->Ma (LY P w) X.A (pyNext (.ref it)) (λr s1=>∃u,r=some u/\Ma (LY P w) X.A (OU tg (.ref it) u) (λ_ s2=>∃x H',aA X pins σ H' s2/\bu x u/\J.yld i H x H'/\tn (i+1) s2.heap/\∀b∈fp,H' b=none) E s1) E s
 done:∀(X:Cx),X.prog=P->X.w=w->X.K=K->X.calm=true->∀(i:Nat) (pins:List (LQ×Obj)) (s:LR) (σ:St) (H:Hp) (E:LP->LR->Prop),aA X pins σ H s->(∀b∈fp,j7 X pins H b)->tn i s.heap->J.stop i H->Ma (LY P w) X.A (pyNext (.ref it)) (λr s1=>r=none/\aA X pins σ H s1) E s
 self:∀(A:Md) (i:Nat) (s:LR) (Q:LP->LR->Prop) (E:LP->LR->Prop),tn i s.heap->Q (.ref it) s->Ma (LY P w) A (pyIter (.ref it)) Q E s
abbrev TI:=St->Hp->(It->Hp->Prop)->Prop
def Ie(X:Cx)(pins:List (LQ×Obj))(σ:St)(tg:LU)(R:It->Hp->Prop)(itv:LP)(s2:LR):Prop:=∃(it:LQ) (fp:List LQ) (tn:Nat->LZ->Prop) (J:It) (H':Hp),itv=.ref it/\aA X pins σ H' s2/\AD X.prog X.w X.K tg J fp it tn/\tn 0 s2.heap/\(∀b∈fp,j7 X pins H' b)/\R J H'
def PI(X:Cx)(tg iter:LU)(wi:TI):Prop:=∀(pins:List (LQ×Obj)) (s:LR) (σ:St) (H:Hp) (R:It->Hp->Prop),aA X pins σ H s->wi σ H R->Ma (LY X.prog X.w) X.A (Ml iter X.env) (λv s1=>Ma (LY X.prog X.w) X.A (pyIter v) (Ie X pins σ tg R) X.xe s1) X.xe s
theorem yE{M:Model}{A:Md}{E:LP->LR->Prop}{s:LR}{tg:LU}{it:LQ}{u:LP}{o:Obj}{n:String}{vs:Array LP}{Q:Unit->LR->Prop}(ho:s.heap.get? it=some o)(hc:o.cls=.type n)(hd:o.data=.fields vs)(hn:["enumerate","zip","dict_itemiterator","dict_reverseitemiterator","odict_iterator","itertools.zip_longest","itertools.pairwise"].contains n=false)(hQ:Q () s):Ma M A (OU tg (.ref it) u) Q E s:=by unfold OU;cases tg<;>first|exact Mj hQ|(cases u<;>first|exact Mj hQ| (refine Mb (wpAny_load ho ?_);rw[hc,hd];show Ma M A (if (["enumerate","zip","dict_itemiterator","dict_reverseitemiterator","odict_iterator","itertools.zip_longest","itertools.pairwise"].contains n&&vs[0]?==some (rawInt _))=true then _ else _) Q E s;rw[if_neg (by intro h;rw[hn,Bool.false_and]at h;cases h)];exact Mj hQ))
def Hb(K:⇑0)(a:LQ):It:=⟨λi H=>∃xs x,i6 K H a xs/\xs[i]?=some x,λi H x H'=>H'=H/\∀xs,i6 K H a xs->xs[i]?=some x,λi H=>∃xs,i6 K H a xs/\xs.length<=i⟩
def Hc(K:⇑0)(a:LQ):It:=⟨λi H=>∃xs x,dO K H a xs/\xs[i]?=some x,λi H x H'=>H'=H/\∀xs,dO K H a xs->xs[i]?=some x,λi H=>∃xs,dO K H a xs/\xs.length<=i⟩
def GW(lo:Int)(n:Nat):It:=⟨λi _=>i<n,λi H x H'=>H'=H/\x=.int (lo+i),λi _=>n<=i⟩
theorem xJ{P:Mc}{w:LV}{K:⇑0}{tg:LU}(a it:LQ):AD P w K tg (Hb K a) [it] it (λi h=>h.IsListIter it a i) where
 mem:=by simp
 obj:=λi h st b hb=>by
  have e:b=it:=by simpa using hb
  subst e;obtain⟨o,e,c,d⟩:=st;exact⟨o,e,λv z=>by rw[d]at z;cases z⟩
 keep:=λi h h' st k=>st.at λo e=>k it ↥1 o e;item:=by intro X hP hw hK hc i pins s σ H E I hf st hg;subst hP hw hK;obtain⟨xs,x,hq,hx⟩:=hg;obtain⟨its,rv,p,hz⟩:=I.list hq;obtain⟨u,hu,ru⟩:=rv.get hx;obtain⟨f0,f1,f2,f3,f4,f5⟩:=hf it ↥1;refine wpAny_pyNext_list_item st p.isList (x:=u) (by simpa using hu) λh' st' sb=>?_;have I1:aA X pins σ H {s with heap:=h'}:=I.turned (t':=s.toks) (λb o hb e=>(sb.2 b hb).trans e) f0 f1 f3 f4 f5;obtain⟨o,e,c,d⟩:=id st';exact⟨u,rfl,yE (s:={s with heap:=h'}) e c d ⋯ ⟨x,H,I1,ru,⟨rfl,λys hy=>by rw[I.list_inj hy hq];exact hx⟩,st',λb hb=>(hf b hb).1⟩⟩
 done:=by intro X hP hw hK hc i pins s σ H E I hf st hg;subst hP hw hK;obtain⟨xs,hq,hx⟩:=hg;obtain⟨its,rv,p,hz⟩:=I.list hq;obtain⟨f0,f1,f2,f3,f4,f5⟩:=hf it ↥1;have hl:=rv.length;exact wpAny_pyNext_list_end (I.ok.hd hc) st p.isList ↥7 λh' eb=>⟨rfl,I.turned (t':=s.toks) (λb o hb e=>eb b o hb e) f0 f1 f3 f4 f5⟩
 self:=λ_ _ _ _ _ st h=>wpAny_pyIter_listiter st h
theorem vg{P:Mc}{w:LV}{K:⇑0}{tg:LU}(a it:LQ):AD P w K tg (Hc K a) [it] it (λi h=>h.IsTupleIter it a i) where
 mem:=by simp
 obj:=λi h st b hb=>by
  have e:b=it:=by simpa using hb
  subst e;obtain⟨o,e,c,d⟩:=st;exact⟨o,e,λv z=>by rw[d]at z;cases z⟩
 keep:=λi h h' st k=>st.at λo e=>k it ↥1 o e;item:=by intro X hP hw hK hc i pins s σ H E I hf st hg;subst hP hw hK;obtain⟨xs,x,hq,hx⟩:=hg;obtain⟨its,rv,p,hz⟩:=I.tuple hq;obtain⟨u,hu,ru⟩:=rv.get hx;obtain⟨f0,f1,f2,f3,f4,f5⟩:=hf it ↥1;refine wpAny_pyNext_tuple_item st (show s.heap.IsTuple a its.toArray from p) (x:=u) (by simpa using hu) λh' st' sb=>?_;have I1:aA X pins σ H {s with heap:=h'}:=I.turned (t':=s.toks) (λb o hb e=>(sb.2 b hb).trans e) f0 f1 f3 f4 f5;obtain⟨o,e,c,d⟩:=id st';exact⟨u,rfl,yE (s:={s with heap:=h'}) e c d ⋯ ⟨x,H,I1,ru,⟨rfl,λys hy=>by rw[I.tuple_inj hy hq];exact hx⟩,st',λb hb=>(hf b hb).1⟩⟩
 done:=by intro X hP hw hK hc i pins s σ H E I hf st hg;subst hP hw hK;obtain⟨xs,hq,hx⟩:=hg;obtain⟨its,rv,p,hz⟩:=I.tuple hq;obtain⟨f0,f1,f2,f3,f4,f5⟩:=hf it ↥1;have hl:=rv.length;exact wpAny_pyNext_tuple_end (I.ok.hd hc) st (show s.heap.IsTuple a its.toArray from p) ↥7 λh' eb=>⟨rfl,I.turned (t':=s.toks) (λb o hb e=>eb b o hb e) f0 f1 f3 f4 f5⟩
 self:=λ_ _ _ _ _ st h=>wpAny_pyIter_tupleiter st h
theorem vf{P:Mc}{w:LV}{K:⇑0}{tg:LU}(it:LQ)(lo:Int)(n:Nat):AD P w K tg (GW lo n) [it] it (λi h=>IsRangeIter h it (lo+(i:Nat)*1) ((n:Int)-(i:Nat)) 1) where
 mem:=by simp
 obj:=λi h st b hb=>by
  have e:b=it:=by simpa using hb
  subst e;exact⟨_,st,λv z=>by have z':Data.fields _=Data.cell v:=z;cases z'⟩
 keep:=λi h h' st k=>k it ↥1 _ st;item:=by intro X hP hw hK hc i pins s σ H E I hf st hg;subst hP hw hK;obtain⟨f0,f1,f2,f3,f4,f5⟩:=hf it ↥1;have W:=Walks.range (prog:=X.prog) (w:=X.w) (I.ok.hd hc) it lo 1 n;refine W.item i s _ _ hg st λv h' tk hv st' kk=>?_;obtain⟨t,rfl⟩:=hv;have I1:aA X pins σ H {s with heap:=h',toks:=tk}:=I.turned (λb o hb e=>kk b o (by simpa using hb) e) f0 f1 f3 f4 f5;refine⟨_,rfl,yE (s:={s with heap:=h',toks:=tk}) (n:="range_iterator") st' rfl rfl ⋯ ⟨.int (lo+i),H,I1,⟨t,?_⟩,⟨rfl,rfl⟩,st',λb hb=>(hf b hb).1⟩⟩;rw[Int.mul_one]
 done:=by intro X hP hw hK hc i pins s σ H E I hf st hg;subst hP hw hK;obtain⟨f0,f1,f2,f3,f4,f5⟩:=hf it ↥1;exact wpAny_pyNext_range_end (I.ok.hd hc) st (by have:n<=i:=hg;lia) λh' eb=>⟨rfl,I.turned (t':=s.toks) (λb o hb e=>eb b o hb e) f0 f1 f3 f4 f5⟩
 self:=λ_ _ _ _ _ st h=>wpAny_pyIter_rangeiter st h
section
variable{X:Cx}{tg:LU}
def CL(K:⇑0)(tl:TE):TI:=λσ H R=>tl σ H λx H1=>∃a,x=.ref a/\(∃xs,i6 K H1 a xs)/\R (Hb K a) H1
def Fw(K:⇑0)(tl:TE):TI:=λσ H R=>tl σ H λx H1=>∃a,x=.ref a/\(∃xs,dO K H1 a xs)/\R (Hc K a) H1
theorem BC{l:LU}{tl:TE}(hl:PE X l tl):PI X tg l (CL X.K tl):=by
 intro pins s σ H R I h;refine ck (hl pins s σ H _ I h) λv s1⟨x,H1,I1,r1,q1⟩=>?_;obtain⟨a,e,⟨xs,hq⟩,q⟩:=q1;subst e;cases r1;obtain⟨its,rv,p,hz⟩:=I1.list hq;refine wpAny_pyIter_list p.isList ?_;refine⟨↑s1,[↑s1],_,_,H1,rfl,I1.kept (t':=s1.toks) λb o e=>MJ _ e,xJ a _,⟨_,Nl _ rfl,rfl,rfl⟩,λb hb=>?_,q⟩;have e:b=↑s1:=by simpa using hb
 subst e;exact I1.fpOk ↥8 (I1.hok.fresh ↥8)
theorem Eh{l:LU}{tl:TE}(hl:PE X l tl):PI X tg l (Fw X.K tl):=by
 intro pins s σ H R I h;refine ck (hl pins s σ H _ I h) λv s1⟨x,H1,I1,r1,q1⟩=>?_;obtain⟨a,e,⟨xs,hq⟩,q⟩:=q1;subst e;cases r1;obtain⟨its,rv,p,hz⟩:=I1.tuple hq;refine wpAny_pyIter_tuple (show s1.heap.IsTuple a its.toArray from p) ?_;refine⟨↑s1,[↑s1],_,_,H1,rfl,I1.kept (t':=s1.toks) λb o e=>MJ _ e,vg a _,⟨_,Nl _ rfl,rfl,rfl⟩,λb hb=>?_,q⟩;have e:b=↑s1:=by simpa using hb
 subst e;exact I1.fpOk ↥8 (I1.hok.fresh ↥8)
theorem zV{pins:List (LQ×Obj)}{σ:St}{H:Hp}{s:LR}{R:It->Hp->Prop}{E:LP->LR->Prop}{lo hi:Int}{t u v:Tok}{tk:Nat}(I:aA X pins σ H s)(h1:-(2^62)<=lo)(h2:lo<2^62)(h3:-(2^62)<=hi)(h4:hi<2^62)(q:R (GW lo (hi-lo).toNat) H):Ma (LY X.prog X.w) X.A (pyIter (.ref ↑s)) (Ie X pins σ tg R) E {s with heap:=s.heap.push {cls:=.type "range",data:=.fields #[.int lo t,.int hi u,.int 1 v]},toks:=tk}:=by
 refine wpAny_pyIter_range (IsRange.new ..) (small_one h1 h2 h3 h4) ?_;have I1:aA X pins σ H {s with heap:=s.heap.push {cls:=.type "range",data:=.fields #[.int lo t,.int hi u,.int 1 v]},toks:=tk}:=I.kept λb o e=>MJ _ e;refine⟨(s.heap.push {cls:=.type "range",data:=.fields #[.int lo t,.int hi u,.int 1 v]}).objs.size,[(s.heap.push {cls:=.type "range",data:=.fields #[.int lo t,.int hi u,.int 1 v]}).objs.size],_,_,H,rfl,I1.kept (t':=tk) λb o e=>MJ _ e,vf _ lo (hi-lo).toNat,?_,λb hb=>?_,q⟩
 ·have e1:lo+((0:Nat):Int)*1=lo:=by simp
  have e2:(((hi-lo).toNat:Nat):Int)-((0:Nat):Int)=Builtin.Range.rangeSize lo hi 1:=by rw[rangeSize_one];split<;>lia
  show IsRangeIter _ _ (lo+((0:Nat):Int)*1) ((((hi-lo).toNat:Nat):Int)-((0:Nat):Int)) 1;rw[e1,e2];exact Nl _ rfl
 ·have e:b=(s.heap.push {cls:=.type "range",data:=.fields #[.int lo t,.int hi u,.int 1 v]}).objs.size:=by simpa using hb
  subst e;exact I1.fpOk ↥8 (I1.hok.fresh ↥8)
def Fv(ta:TA):TI:=λσ H R=>ta σ H λvs H1=>∃j:Int,vs=[.int j]/\-(2^62)<=j/\j<2^62/\R (GW 0 j.toNat) H1
theorem xq{a:LU}{ta:TA}{p pos:Pos}(hg:Gl X "range")(hm:X.mg "range"=none)(ha:PA X [a] ta)(hs:Mf [a] X.env=[(false,Ml a X.env)]:=by rfl):PI X tg (.Call (.Name "range" p) [a] [] pos) (Fv ta):=by intro pins s σ H R I h;refine Call_ (l_ I hg hm boot_range (Qm (ck (ha pos pins s σ H _ I h) λus s1⟨vs,H1,I1,r1,q1⟩=>?_) hs rfl));obtain⟨j,e,q1,q2,q⟩:=q1;subst e;cases r1 with|cons r rr=>cases rr;obtain⟨t,rfl⟩:=r;exact call_range_1 (zV I1 ↥0 ↥0 q1 q2 (by simpa using q))
def HP(wi:TI)(g:TG)(tb:TS):TS:=λD σ H=>wi σ H λJ H1=>∃W:Nat->Nat->St->Hp->Prop,(∃m,W 0 m σ H1)/\∀i m σ H,W i m σ H->(J.stop i H/\D.nx σ H)\/(J.go i H/\∃N:St->Hp->Prop,(∀σ' H',N σ' H'->∃m',m'<m/\W (i+1) m' σ' H')/\∀x H',J.yld i H x H'->g x σ H' λσ2 H2=>tb {D with nx:=N,ct:=N,bk:=D.nx} σ2 H2)
def kh(fp:List LQ)(h:LZ):List (LQ×Obj):=fp.filterMap λb=>(h.get? b).map λo=>(b,o)
theorem cA{fp:List LQ}{h:LZ}{b:LQ}{o:Obj}(hb:b∈fp)(e:h.get? b=some o):(b,o)∈kh fp h:=QQ.mpr ⟨b,hb,by rw[e];rfl⟩
theorem xh{fp:List LQ}{h:LZ}{p:LQ×Obj}(hp:p∈kh fp h):p.1∈fp/\h.get? p.1=some p.2:=by obtain⟨b,hb,e⟩:=QQ.mp hp;cases q:h.get? b with|none=>rw[q]at e;cases e|some o=>rw[q]at e;have e':(b,o)=p:=Nm e;subst e';exact⟨hb,q⟩
theorem aA.pinned{pins:List (LQ×Obj)}{σ:St}{H:Hp}{s:LR}{fp:List LQ}(I:aA X pins σ H s)(hf:∀b∈fp,j7 X pins H b)(ho:∀b∈fp,∃o,s.heap.get? b=some o/\∀v,o.data≠.cell v):aA X (pins++kh fp s.heap) σ H s:=I.pins_of λp hp=>(LK hp).elim (λz=>I.pin p (MR _ z)) λz=>by obtain⟨hb,e⟩:=xh z;obtain⟨f0,f1,f2,_⟩:=hf p.1 hb;obtain⟨o,e',d⟩:=ho p.1 hb;rw[e]at e';cases e';exact⟨e,f0,f1,f2,d⟩
theorem aA.unpinned{pins pl:List (LQ×Obj)}{σ:St}{H:Hp}{s:LR}(I:aA X (pins++pl) σ H s):aA X pins σ H s:=I.pins_of λp hp=>I.pin p (MR _ (Qj _ hp))
theorem Ej{iter:LU}{body:List Me}{wi:TI}{g:TG}{tb:TS}{pos:Pos}(hp:PassesOwn (LY X.prog X.w) X.A X.env X.xe)(hc:X.calm=true)(hi:PI X tg iter wi)(hg:PG X tg g)(hb:ky X body tb)(hs:∀x,NP iter X.env x=pure x:=by intro _;rfl):PS X (.For tg iter body [] pos) (HP wi g tb):=by
 intro pins s σ H D I h;refine wpAny_For (ck (hi pins s σ H _ I h) λv s1 h1=>ck h1 λitv s2 h2=>?_) hs;obtain⟨it,fp,tn,J,H2,e,I2,T,st2,f2,W,⟨m0,w0⟩,turn⟩:=h2;subst e;have stat:∀{H':Hp},(∀b∈fp,H' b=none)->∀b∈fp,j7 X pins H' b:=λhn b hb=>⟨hn b hb,(f2 b hb).2⟩;refine codeAny_forLoop_any (λn s'=>∃i σ' H',aA X pins σ' H' s'/\tn i s'.heap/\(∀b∈fp,H' b=none)/\W i n σ' H') ?_ m0 ⟨0,σ,H2,I2,st2,λb hb=>(f2 b hb).1,w0⟩;rintro n s3⟨i,σ3,H3,I3,st3,fr3,w3⟩;rcases turn i n σ3 H3 w3 with⟨stop,qn⟩|⟨go,N,hN,step⟩;·refine OT hp (ck (T.done X rfl rfl rfl hc i pins s3 σ3 H3 X.xe I3 (stat fr3) st3 stop) λr s4⟨hr,I4⟩=>?_);subst hr;exact Ql ⟨σ3,H3,I4,qn⟩
 ·refine OT hp (ck (T.item X rfl rfl rfl hc i pins s3 σ3 H3 X.xe I3 (stat fr3) st3 go) λr s4⟨u,hr,h4⟩=>?_);subst hr;refine OT hp (ck h4 λ_ s5⟨x,H5,I5,r5,y5,st5,fr5⟩=>?_);have I5':=I5.pinned (stat fr5) (T.obj _ _ st5);refine OT hp (ck (hg _ s5 σ3 H5 x u _ I5' r5 (step x H5 y5)) λ_ s6⟨σ6,H6,I6,q6⟩=>?_);refine OT hp (ck (hb _ s6 σ6 H6 _ I6 q6) λf s7 q7=>?_);have again:∀{σ7:St}{H7:Hp},aA X (pins++kh fp s5.heap) σ7 H7 s7->N σ7 H7->∃m,m<n/\∃i σ' H',aA X pins σ' H' s7/\tn i s7.heap/\(∀b∈fp,H' b=none)/\W i m σ' H':=fun{σ7 H7}I7 n7=>by obtain⟨m',hm,w7⟩:=hN σ7 H7 n7;refine⟨m',hm,i+1,σ7,H7,I7.unpinned,T.keep _ _ _ st5 λb hb o e=>(I7.pin (b,o) (MR _ (MR _ (cA hb e)))).1,λb hb=>?_,w7⟩;obtain⟨o,e,d⟩:=T.obj _ _ st5 b hb;exact(I7.pin (b,o) (MR _ (MR _ (cA hb e)))).2.1
  cases f with|next=>obtain⟨σ7,H7,I7,n7⟩:=q7;exact again I7 n7|cont=>obtain⟨σ7,H7,I7,n7⟩:=q7;exact again I7 n7|brk=>obtain⟨σ7,H7,I7,q7⟩:=q7;exact⟨σ7,H7,I7.unpinned,q7⟩|ret v=>obtain⟨x7,σ7,H7,I7,r7,q7⟩:=q7;exact⟨x7,σ7,H7,I7.unpinned,r7,q7⟩
end
abbrev R2:=V->V->Hp->VK->Prop
def i5(X:Cx)(f:LP->LP->Sem LP)(r:R2):Prop:=∀(pins:List (LQ×Obj)) (s:LR) (σ:St) (H:Hp) (x y:V) (v u:LP) (Q:VK),aA X pins σ H s->bu x v->bu y u->r x y H Q->Ma (LY X.prog X.w) X.A (f v u) (EP X pins σ Q) X.xe s
def G1(X:Cx)(f:LP->Sem LP)(r:V->Hp->VK->Prop):Prop:=∀(pins:List (LQ×Obj)) (s:LR) (σ:St) (H:Hp) (x:V) (v:LP) (Q:VK),aA X pins σ H s->bu x v->r x H Q->Ma (LY X.prog X.w) X.A (f v) (EP X pins σ Q) X.xe s
def cJ(X:Cx)(f:LP)(r:List V->Hp->VK->Prop):Prop:=∀(pins:List (LQ×Obj)) (s:LR) (σ:St) (H:Hp) (xs:List V) (us:List LP) (Q:VK),aA X pins σ H s->aR xs us->r xs H Q->Ma (LY X.prog X.w) X.A (call f us) (EP X pins σ Q) X.xe s
def GJ(r:R2)(ta tb:TE):TE:=λσ H Q=>ta σ H λx H1=>tb σ H1 λy H2=>r x y H2 Q
def Iq(r:V->Hp->VK->Prop)(ta:TE):TE:=λσ H Q=>ta σ H λx H1=>r x H1 Q
def rI(C:Int->Int->Prop)(g:Int->Int->V):R2:=λx y H Q=>∃i j,x=.int i/\y=.int j/\C i j/\Q (g i j) H
def xu(g:Int->Int->V):R2:=λx y H Q=>∃i j,x=.int i/\y=.int j/\Q (g i j) H
def rU(g:Int->V):V->Hp->VK->Prop:=λx H Q=>∃i,x=.int i/\Q (g i) H
section
variable{X:Cx}{a b c:LU}{ta tb tc:TE}{pos:Pos}
theorem Dp(ha:PE X a ta)(hb:PE X b tb){pins:List (LQ×Obj)}{s:LR}{σ:St}{H:Hp}{R:V->V->Hp->Prop}(I:aA X pins σ H s)(h:ta σ H λx H1=>tb σ H1 λy H2=>R x y H2){Q:LP->LR->Prop}{f:LP->LP->Sem LP}(hf:∀v u s2 x y H2,aA X pins σ H2 s2->bu x v->bu y u->R x y H2->Ma (LY X.prog X.w) X.A (f v u) Q X.xe s2):Ma (LY X.prog X.w) X.A (Ml a X.env) (λv s₁=>Ma (LY X.prog X.w) X.A (Ml b X.env) (λu s₂=>Ma (LY X.prog X.w) X.A (f v u) Q X.xe s₂) X.xe s₁) X.xe s:=by refine ck (ha pins s σ H _ I h) λv s1⟨x,H1,I1,r1,q1⟩=>?_;refine ck (hb pins s1 σ H1 _ I1 q1) λu s2⟨y,H2,I2,r2,q2⟩=>?_;exact hf v u s2 x y H2 I2 r1 r2 q2
theorem Gi{op:Operator}{r:R2}(ho:i5 X (Ng op) r)(ha:PE X a ta)(hb:PE X b tb):PE X (.BinOp a op b pos) (GJ r ta tb):=by intro pins s σ H Q I h;exact wpAny_BinOp (Dp ha hb I h λv u s2 x y H2 I2 rx ry q=>ho pins s2 σ H2 x y v u Q I2 rx ry q)
theorem Gj{op:UnaryOp}{r:V->Hp->VK->Prop}(ho:G1 X (unaryOp op) r)(ha:PE X a ta):PE X (.UnaryOp op a pos) (Iq r ta):=by intro pins s σ H Q I h;exact UnaryOp_ (ck (ha pins s σ H _ I h) λv s1⟨x,H1,I1,r1,q1⟩=>ho pins s1 σ H1 x v Q I1 r1 q1)
theorem Gb{f:LP->LP->Sem LP}{C:Int->Int->Prop}{g:Int->Int->Int}(rule:∀(i j:Int) (t u:Tok) (s:LR) (Q:LP->LR->Prop) (E:LP->LR->Prop),C i j->Q (.int (g i j) s.toks) {s with toks:=s.toks+1}->Ma (LY X.prog X.w) X.A (f (.int i t) (.int j u)) Q E s):i5 X f (rI C λi j=>.int (g i j)):=by intro pins s σ H x y v u Q I rx ry h;obtain⟨i,j,rfl,rfl,hc,q⟩:=h;obtain⟨t,rfl⟩:=rx;obtain⟨t',rfl⟩:=ry;exact rule i j t t' s _ _ hc ⟨.int (g i j),H,I.tok _,⟨_,rfl⟩,q⟩
theorem Gc{f:LP->LP->Sem LP}{g:Int->Int->Int}(rule:∀(i j:Int) (t u:Tok) (s:LR) (Q:LP->LR->Prop) (E:LP->LR->Prop),Q (.int (g i j) s.toks) {s with toks:=s.toks+1}->Ma (LY X.prog X.w) X.A (f (.int i t) (.int j u)) Q E s):i5 X f (xu λi j=>.int (g i j)):=by intro pins s σ H x y v u Q I rx ry h;obtain⟨i,j,rfl,rfl,q⟩:=h;obtain⟨t,rfl⟩:=rx;obtain⟨t',rfl⟩:=ry;exact rule i j t t' s _ _ ⟨.int (g i j),H,I.tok _,⟨_,rfl⟩,q⟩
theorem D3{f:LP->LP->Sem LP}{g:Int->Int->Bool}(rule:∀(i j:Int) (t u:Tok) (s:LR) (Q:LP->LR->Prop) (E:LP->LR->Prop),Q (.bool (g i j)) s->Ma (LY X.prog X.w) X.A (f (.int i t) (.int j u)) Q E s):i5 X f (xu λi j=>.bl (g i j)):=by intro pins s σ H x y v u Q I rx ry h;obtain⟨i,j,rfl,rfl,q⟩:=h;obtain⟨t,rfl⟩:=rx;obtain⟨t',rfl⟩:=ry;exact rule i j t t' s _ _ ⟨.bl (g i j),H,I,rfl,q⟩
def Dh(i j:Int):Prop:=0<=j/\j<=1000000/\i.natAbs<2^64
def Ay(i j:Int):Prop:=(-(2^64)<i/\i<2^64)\/(-(2^64)<j/\j<2^64)
theorem Ay.ok{i j:Int}(h:Ay i j):IntMulOk i j:=by
 rcases h with⟨h1,h2⟩|⟨h1,h2⟩;·exact .of_left (intBits_le_64 h1 h2)
 ·exact .of_right (intBits_le_64 h1 h2)
theorem D4:i5 X (Ng .Add) (xu λi j=>.int (i+j)):=Gc λ_ _ _ _ _ _ _ q=>add_int q
theorem Ea:i5 X (Ng .Sub) (xu λi j=>.int (i-j)):=Gc λ_ _ _ _ _ _ _ q=>sub_int q
theorem D8:i5 X (Ng .Mult) (rI Ay λi j=>.int (i*j)):=Gb λ_ _ _ _ _ _ _ hc q=>mul_int q hc.ok
theorem Bp:i5 X (Ng .Mod) (rI (λ_ j=>j≠0) λi j=>.int (i.fmod j)):=Gb λ_ _ _ _ _ _ _ hc q=>mod_int' hc q
theorem D_:i5 X (Ng .Pow) (rI Dh λi j=>.int (i^j.toNat)):=Gb λ_ _ _ _ _ _ _ hc q=>pow_int_small hc.1 hc.2.1 hc.2.2 q
theorem I0{f:LP->Sem LP}{g:Int->Int}(rule:∀(i:Int) (t:Tok) (s:LR) (Q:LP->LR->Prop) (E:LP->LR->Prop),Q (.int (g i) s.toks) {s with toks:=s.toks+1}->Ma (LY X.prog X.w) X.A (f (.int i t)) Q E s):G1 X f (rU λi=>.int (g i)):=by intro pins s σ H x v Q I rx h;obtain⟨i,rfl,q⟩:=h;obtain⟨t,rfl⟩:=rx;exact rule i t s _ _ ⟨.int (g i),H,I.tok _,⟨_,rfl⟩,q⟩
theorem ET:G1 X (unaryOp .USub) (rU λi=>.int (-i)):=I0 λ_ _ _ _ _ q=>neg_int q
end
section
variable{X:Cx}{a b c:LU}{ta tb tc:TE}{pos:Pos}
theorem Gf:i5 X (NX .Lt) (xu λi j=>.bl (decide (i<j))):=D3 λ_ _ _ _ _ _ _ q=>lt_int q
theorem Ge:i5 X (NX .Gt) (xu λi j=>.bl (decide (j<i))):=D3 λ_ _ _ _ _ _ _ q=>gt_int q
theorem Gd:i5 X (NX .GtE) (xu λi j=>.bl (decide (j<=i))):=D3 λ_ _ _ _ _ _ _ q=>ge_int q
theorem i5.or{f:LP->LP->Sem LP}{r r':R2}(h:i5 X f r)(h':i5 X f r'):i5 X f (λx y H Q=>r x y H Q\/r' x y H Q):=by
 intro pins s σ H x y v u Q I rx ry q;rcases q with q|q;·exact h pins s σ H x y v u Q I rx ry q
 ·exact h' pins s σ H x y v u Q I rx ry q
theorem be(b:LU){op:CmpOp}(h:op≠.In:=by decide)(h2:op≠.NotIn:=by decide):OH op b=false:=by
 have e1:(op==CmpOp.In)=false:=by cases op<;>first|rfl|exact absurd rfl h
 have e2:(op==CmpOp.NotIn)=false:=by cases op<;>first|rfl|exact absurd rfl h2
 cases b<;>simp[OH,e1,e2]
theorem Bx{op:CmpOp}{r:R2}(ho:i5 X (NX op) r)(ha:PE X a ta)(hb:PE X b tb)(hm:OH op b=false):PE X (.Compare a [op] [b] pos) (GJ r ta tb):=by intro pins s σ H Q I h;exact wpAny_Compare1 (Dp ha hb I h λv u s2 x y H2 I2 rx ry q=>ho pins s2 σ H2 x y v u Q I2 rx ry q) hm
def GM(t:TE):TT:=λσ H Q=>t σ H λx H'=>∃k,x=.bl k/\Q k H'
theorem BJ{op:CmpOp}{r:R2}(ho:i5 X (NX op) r)(ha:PE X a ta)(hb:PE X b tb)(hm:OH op b=false):PT X (.Compare a [op] [b] pos) (GM (GJ r ta tb)):=by intro pins s σ H Q I h;refine wpAny_isTrue_Compare1 (ck (ha pins s σ H _ I h) λv s1⟨x,H1,I1,r1,q1⟩=>ck (hb pins s1 σ H1 _ I1 q1) λu s2⟨y,H2,I2,r2,q2⟩=>ck (ho pins s2 σ H2 x y v u _ I2 r1 r2 q2) λc s3⟨z,H3,I3,r3,k,e,q3⟩=>?_) hm;subst e;cases r3;exact Qk ⟨H3,I3,q3⟩
theorem uL:(Mi:Nat)<2^63:=by rw[MO];decide
theorem qA{x:V}{us:List LP}(r:aR [x] us):∃u,us=[u]/\bu x u:=by cases r with|cons r1 r2=>cases r2;exact⟨_,rfl,r1⟩
theorem De{x y:V}{us:List LP}(r:aR [x,y] us):∃u w',us=[u,w']/\bu x u/\bu y w':=by cases r with|cons r1 r2=>cases r2 with|cons r3 r4=>cases r4;exact⟨_,_,rfl,r1,r3⟩
theorem yd:cJ X (.builtin "abs") (λxs H Q=>∃i,xs=[.int i]/\Q (.int (if i<0 then-i else i)) H):=by intro pins s σ H xs us Q I r h;obtain⟨i,rfl,q⟩:=h;obtain⟨u,rfl,t,rfl⟩:=qA r;exact call_abs_int λu tk=>⟨.int (if i<0 then-i else i),H,I.tok _,⟨_,rfl⟩,q⟩
theorem wF(hc:X.calm=true):cJ X (.builtin "max") (λxs H Q=>∃i j,xs=[.int i,.int j]/\Q (.int (if j>i then j else i)) H):=by
 intro pins s σ H xs us Q I r h;obtain⟨i,j,rfl,q⟩:=h;obtain⟨u,w',rfl,⟨t,rfl⟩,⟨t',rfl⟩⟩:=De r;refine max_two_ints (I.ok.hd hc) λh' tk k=>⟨_,H,I.kept k,?_,q⟩;by_cases hj:j>i;·rw[if_pos hj,if_pos hj];exact⟨_,rfl⟩
 ·rw[if_neg hj,if_neg hj];exact⟨_,rfl⟩
theorem wG(hc:X.calm=true):cJ X (.builtin "min") (λxs H Q=>∃i j,xs=[.int i,.int j]/\Q (.int (if j<i then j else i)) H):=by
 intro pins s σ H xs us Q I r h;obtain⟨i,j,rfl,q⟩:=h;obtain⟨u,w',rfl,⟨t,rfl⟩,⟨t',rfl⟩⟩:=De r;refine min_two_ints (I.ok.hd hc) λh' tk k=>⟨_,H,I.kept k,?_,q⟩;by_cases hj:j<i;·rw[if_pos hj,if_pos hj];exact⟨_,rfl⟩
 ·rw[if_neg hj,if_neg hj];exact⟨_,rfl⟩
theorem wD:cJ X (.type "int") (λxs H Q=>(∃i,xs=[.int i]/\Q (.int i) H)\/∃k,xs=[.bl k]/\Q (.int (if k then 1 else 0)) H):=by
 intro pins s σ H xs us Q I r h;rcases h with⟨i,rfl,q⟩|⟨k,rfl,q⟩;·obtain⟨u,rfl,t,rfl⟩:=qA r;exact call_int_int ⟨.int i,H,I,⟨_,rfl⟩,q⟩
 ·obtain⟨u,rfl,r1⟩:=qA r;cases r1;exact call_int_bool ⟨.int (if k then 1 else 0),H,I.tok _,⟨_,rfl⟩,q⟩
end
structure IH (h:LZ) (x dx C:LQ) (mA:Str->Option LP):Prop where
 obj:h.get? x=some (PySem.W.instObj C dx)ns:h.Ns1 dx mA
 ne:dx≠x
section
variable{prog:Mc}{w:LV}{A:Md}{E:LP->LR->Prop}{s:LR}{K:⇑0}{x dx C f:LQ}{mA:Str->Option LP}{name:Str}{v:LP}
end
section
variable{P:Mc}{w:LV}{H H':Hp}{h h':LZ}{a C dx:LQ}{fs fs':List (Str×V)}
end
structure Iy (K:⇑0) (C:LQ):Prop where
 pg:PySem.W.plainGet K C Oz=true
 hd:PySem.W.hasDictIn K C=true
 po:PySem.W.plainOver K C=true
 sa:PD K (.ref C) "__setattr__"=some (some (.builtin "object.__setattr__"))
structure Ja (K:⇑0) (C:LQ) (f:Str) (v:V) (u:LP):Prop where
 at_:PD K (.ref C) f=some (some u)rel:bu v u
 get:PySem.W.specialIn K u "__get__"=some none
 cp:PySem.W.copiedNames.contains f=false
structure IF (K:⇑0) (C:LQ) (m:Str) (f:LQ):Prop where
 at_:PD K (.ref C) m=some (some (.ref f))fn:PySem.W.isFn K (.ref f)=true
 kp:OI K (.ref f)=true
section
variable{X:Cx}{pins:List (LQ×Obj)}{σ:St}{H:Hp}{s:LR}{a C dx:LQ}{fs:List (Str×V)}{f:Str}{v:V}{A:Md}{E:LP->LR->Prop}
end
section
variable{X:Cx}{o e value:LU}{f:Str}{pos pos' tpos:Pos}{ta tv:TE}
end
section
variable{X:Cx}{pins:List (LQ×Obj)}{σ:St}{H:Hp}{s:LR}{A:Md}{E:LP->LR->Prop}{Q:LP->LR->Prop}{c:LP}{b:Bool}
inductive nW (K:⇑0) (H:Hp):V->LP->Prop where|non:nW K H .non (.type "NoneType")|bl (x:Bool):nW K H (.bl x) (.type "bool")|int (i:Int):nW K H (.int i) (.type "int")|str (x:Str):nW K H (.str x) (.type "str")|flt (x:UInt64):nW K H (.flt x) (.type "float")|lst{a:LQ}{xs:List V}(e:H a=some (.lst xs)):nW K H (.ref a) (.type "list")|frz{a:LQ}{o:Obj}{xs:List V}(e:H a=some (.frz o (.lst xs))):nW K H (.ref a) (.type "list")|tup{a:LQ}{xs:List V}(e:H a=some (.tup xs)):nW K H (.ref a) (.type "tuple")|dK{a:LQ}{kvs:List (j8×V)}(e:H a=some (.dK kvs)):nW K H (.ref a) (.type "dict")|dT{a:LQ}{kvs:List (List j8×V)}(e:H a=some (.dT kvs)):nW K H (.ref a) (.type "dict")|ins{a C dx:LQ}{fs:List (Str×V)}(e:H a=some (.ins C dx fs)) (cl:Iy K C) (ha:PD K (.ref C) "__class__"=some (some (.builtin "object.__class__")))(hn:PySem.W.specialIn K (.builtin "object.__class__") "__get__"=some (some (.builtin "getset_descriptor.__get__"))) (htk:PySem.W.takesIn K (.builtin "object.__class__")=some true)(hm:PySem.W.mroIn K C (.type "object")=some true):nW K H (.ref a) (.ref C)
end
structure bZ (k:Nat) (A:Md):Prop where
 hd:A.handled=none
 dp:A.depth+3*k+5<recursionLimit
 un:A.units+16*k+200<cLine
 gd:A.guards=some []
theorem bZ.mono{j k:Nat}{A:Md}(r:bZ k A)(h:j<=k):bZ j A:=⟨r.hd,by have:=r.dp;lia,by have:=r.un;lia,r.gd⟩
theorem bZ.deeper{k:Nat}{A:Md}(r:bZ (k+1) A)(env:Env):bZ k (A.deeper env):=⟨r.hd,by have:=r.dp;show A.depth+1+3*k+5<_;lia,by have:=r.un;show A.units+3+16*k+200<_;lia,r.gd⟩
theorem bZ.depth{k:Nat}{A:Md}(r:bZ k A):A.depth<recursionLimit:=by have:=r.dp;lia
theorem bZ.units{k:Nat}{A:Md}(r:bZ k A):A.units+64<cLine:=by have:=r.un;lia
def Ae:TA:=λ_ H Q=>Q [] H
def lR(ta:TE)(tr:TA):TA:=λσ H Q=>ta σ H λx H1=>tr σ H1 λxs H2=>Q (x::xs) H2
section
variable{X:Cx}{e:LU}{es:List LU}{te:TE}{t:TA}{pos:Pos}
theorem mj:PA X [] Ae:=λ_ _ _ _ H Q I h=>Calls.spliced_nil ⟨[],H,I,.nil,h⟩
theorem dJ(ha:PE X e te)(hr:PA X es t)(hs:Mf (e::es) X.env=(false,Ml e X.env)::Mf es X.env:=by rfl):PA X (e::es) (lR te t):=by intro pos pins s σ H Q I h;rw[hs];show Ma _ _ (spliced ((false,Ml e X.env)::MF pos (Mf es X.env))) _ _ s;refine Calls.spliced_cons (ck (ha pins s σ H _ I h) λu s1⟨x,H1,I1,r1,q1⟩=>?_);exact ck (hr pos pins s1 σ H1 _ I1 q1) λus s2⟨xs,H2,I2,r2,q2⟩=>⟨x::xs,H2,I2,.cons r1 r2,q2⟩
def GN(t:TA):TE:=λσ H Q=>t σ H λxs H1=>xs.length<=Mi/\∀p,H1 p=none->Q (.ref p) (bI H1 p (.tup xs))
def GI(t:TA):TE:=λσ H Q=>t σ H λxs H1=>xs.length<=Mi/\∀p,H1 p=none->Q (.ref p) (bI H1 p (.lst xs))
theorem zu{x1}(h:PA X es t):PE X (.Tuple es x1 pos) (GN t):=by intro pins s σ H Q I hq;refine wpAny_Tuple_spliced (ck (h pos pins s σ H _ I hq) λus s1⟨xs,H1,I1,r,z,q⟩=>⟨by rw[<-r.length];exact z,?_⟩);have hf:H1 ↑s1=none:=I1.hok.fresh ↥8;refine⟨.ref ↑s1,bI H1 ↑s1 (.tup xs),I1.laid (t':=s1.toks) (λb u e=>MJ _ e) ↥8 ?_,rfl,q _ hf⟩;exact⟨z,us,r,⟨_,Nl _ rfl,rfl,_,rfl,rfl⟩⟩
theorem Ed(h:PA X es t):PE X (.List es pos) (GI t):=by intro pins s σ H Q I hq;refine wpAny_List_spliced (ck (h pos pins s σ H _ I hq) λus s1⟨xs,H1,I1,r,z,q⟩=>⟨by rw[<-r.length];exact z,?_⟩);have hf:H1 ↑s1=none:=I1.hok.fresh ↥8;refine⟨.ref ↑s1,bI H1 ↑s1 (.lst xs),I1.laid (t':=s1.toks) (λb u e=>MJ _ e) ↥8 ?_,rfl,q _ hf⟩;exact⟨z,us,0,r,Nl _ rfl⟩
end
abbrev Sp:=List V->Hp->VK->XK->Prop
abbrev pk:=List Env->Hp->LR->XK->LP->LR->Prop
structure Az (P:Mc) (w:LV) (K:⇑0) (mg:Str->Option LP) (base:LZ) (A:Md) (outer:List Env) (s:LR) (H:Hp):Prop where
 frames:A.frames=some outer
 mod:Mod K mg base
 bs:∀b o,base.get? b=some o->s.heap.get? b=some o/\H b=none
 bsz:base.objs.size<=↑s
 funs:s.heap.FunFrames base outer
 frf:∀b∈gU outer,H b=none
 hok:ni P w H s.heap
 bare:Od s.gens
def CE(outer:List Env)(P:Mc)(w:LV)(H:Hp)(s:LR)(Q:VK)(u:LP)(s':LR):Prop:=∃v H',s'.os=s.os/\Od s'.gens/\Un (gU outer) [] H H' s.heap s'.heap/\ni P w H' s'.heap/\bu v u/\Q v H'
def CR(CX:pk)(outer:List Env)(P:Mc)(w:LV)(H:Hp)(s:LR)(Q:VK)(E:XK)(r:Result)(s':LR):Prop:=match r with|.ok (.ret u)=>CE outer P w H s Q u s'|.ok _=>False|.error e=>CX outer H s E e s'
structure a_ (P:Mc) (w:LV) (K:⇑0) (mg:Str->Option LP) (base:LZ) (CX:pk) (k:Nat) (f:LQ) (fd:Mw) (ps:List Str) (sp:Sp):Prop where
 len:∀vs H Q E,sp vs H Q E->vs.length=ps.length
 run:∀(A:Md) (outer:List Env) (s:LR) (H:Hp) (args:Args) (us:List LP) (vs:List V) (Q:VK) (E:XK),bZ k A->Az P w K mg base A outer s H->BindsTo s fd args (ps.zip us)->aR vs us->sp vs H Q E->ND (LY P w) A (.call (.ref f) args) (CR CX outer P w H s Q E) s
section
variable{X:Cx}{pins:List (LQ×Obj)}{σ:St}{H:Hp}{s s':LR}
theorem aA.env0(I:aA X pins σ H s):Az X.prog X.w X.K X.mg X.base X.A X.stack s H:=⟨I.ok.frames,I.ok.mod,I.bs,Mv I.ok.bsz I.sz,I.stack,I.stkFree,I.hok,I.bare⟩
theorem aA.after{Q:VK}{u:LP}(I:aA X pins σ H s)(h:CE X.stack X.prog X.w H s Q u s'):EP X pins σ Q u s':=by obtain⟨v,H',os,bare,un,hok,r,q⟩:=h;obtain⟨hh,g,d,t,os'⟩:=s';obtain rfl:os'=s.os:=os;exact⟨v,H',I.call (h':=hh) (g':=g) (d':=d) (t':=t) (ch:=[]) un hok bare (λb z=>absurd z ↥1),r,q⟩
end
def wj(sp:Sp)(dvs:List V)(E:XK)(t:TA):TE:=λσ H Q=>t σ H λvs H1=>sp (vs++dvs) H1 Q E
def nR(K:⇑0)(fd:Mw)(ps:List Str)(ds:List LP):Prop:=∀(s:LR) (us:List LP),K.In s.heap->(us++ds).length=ps.length->BindsTo s fd ⟨us,[]⟩ (ps.zip (us++ds))
theorem nR.all{K:⇑0}{fd:Mw}{ps:List Str}(h:∀us:List LP,us.length=ps.length->bindArgs fd ⟨us,[]⟩=pure (ps.zip us)):nR K fd ps []:=λs us _ hl=>by rw[Mu]at hl⊢;exact .of_eq (h us hl)
def uo(CX:pk)(X:Cx)(E:XK):Prop:=∀(pins:List (LQ×Obj)) (σ:St) (H:Hp) (s:LR) (e:LP) (s':LR),aA X pins σ H s->CX X.stack H s E e s'->X.xe e s'
section
variable{X:Cx}{CX:pk}{k:Nat}{f C:LQ}{fd:Mw}{ps:List Str}{sp:Sp}{dvs:List V}{ds:List LP}{E:XK}{x m:Str}{p pos apos:Pos}{e o:LU}{es:List LU}{ta:TE}{t:TA}
theorem EG{pins:List (LQ×Obj)}{σ:St}{H:Hp}{s:LR}{Q:VK}{us:List LP}{vs:List V}(F:a_ X.prog X.w X.K X.mg X.base CX k f fd ps sp)(hr:bZ k X.A)(hb:nR X.K fd ps ds)(hd:aR dvs ds)(hx:uo CX X E)(I:aA X pins σ H s)(r:aR vs us)(h:sp (vs++dvs) H Q E):Ma (LY X.prog X.w) X.A (call (.ref f) us) (EP X pins σ Q) X.xe s:=by
 have r2:aR (vs++dvs) (us++ds):=r.append hd;have hl:(us++ds).length=ps.length:=by rw[<-r2.length];exact F.len _ _ _ _ h
 refine wpAny_call (PF (F.run X.A X.stack s H ⟨us,[]⟩ (us++ds) (vs++dvs) Q E hr I.env0 (hb s us I.kIn hl) r2 h) λr s' hq=>?_);cases r with|error e=>exact hx pins σ H s e s' I hq|ok fl=>cases fl with|ret u=>exact I.after hq|next=>exact Nf hq|brk=>exact Nf hq|cont=>exact Nf hq
theorem vS(F:a_ X.prog X.w X.K X.mg X.base CX k f fd ps sp)(hr:bZ k X.A)(hg:Gl X x)(hm:X.mg x=some (.ref f))(hk:OI X.K (.ref f)=true)(hb:nR X.K fd ps ds)(hd:aR dvs ds)(hx:uo CX X E)(ha:PA X (e::es) t)(hdb:(x==("__debug__":Str))=false:=by decide)(he:Mf (e::es) X.env=(false,Ml e X.env)::Mf es X.env:=by rfl)(hpl:(MF pos (Mf es X.env)).any (·.1)=false:=by rfl):PE X (.Call (.Name x p) (e::es) [] pos) (wj sp dvs E t):=by intro pins s σ H Q I h;refine Pj (jN I hg hm ?_ hdb);refine QR (h₀:=X.base) I.ok.mod.kin hk (ck (ha pos pins s σ H _ I h) λus s1⟨vs,H1,I1,r,q⟩=>⟨I1.kIn,?_⟩) he hpl;exact EG F hr hb hd hx I1 r q
structure Mk (K:⇑0) (C f:LQ):Prop where
 makes:PySem.W.makesIn K C=true
 init:PD K (.ref C) "__init__"=some (some (.ref f))fn:PySem.W.isFn K (.ref f)=true
 kp:OI K (.ref C)=true
end
section
variable{X:Cx}{CX:pk}{k:Nat}{f C:LQ}{fd:Mw}{ps ks:List Str}{sp:Sp}{E:XK}{x m:Str}{p pos apos kpos:Pos}{e o:LU}{es:List LU}{kws:List NQ}{te ta:TE}{t tk:TA}{nm:Option Str}
structure Hd (K:⇑0) (fd:Mw) (ps ks:List Str) (g:List LP->List LP->List LP) (gV:List V->List V->List V):Prop where to:∀(s:LR) (us ws:List LP),K.In s.heap->(g us ws).length=ps.length->BindsTo s fd ⟨us,ks.zip ws⟩ (ps.zip (g us ws))rel:∀{vs:List V}{us:List LP}{zs:List V}{ws:List LP},aR vs us->aR zs ws->aR (gV vs zs) (g us ws)
variable{g:List LP->List LP->List LP}{gV:List V->List V->List V}
end
structure aw (N P:List Str) (sc:Mr):Prop where
 kind:sc.kind=.function
 co:sc.isCoroutine=false
 gen:sc.isGenerator=false
 nd:N.Nodup
 pre:N.take P.length=P
 par:∀x∈P,sc.names.lookup x=some .local\/sc.names.lookup x=some .cell
 nofree:∀y∈sc.names,y.2≠.free
theorem pR{MX:Str->Option Nn}{x:Str}:∀{binds:List (Str×LP)}{m:Str->Option LP},(∀v,(x,v)∉binds)->bindL MX binds m x=m x
 |[],_,_=>rfl|(n,v)::r,m,h=>by
  unfold bindL;rw[pR λw hw=>h w (Nt _ hw)];split
  ·have:x≠n:=by rintro rfl;exact h v Oy
   simp[this]
  ·rfl
theorem pP{MX:Str->Option Nn}{x:Str}:∀{binds:List (Str×LP)}{m:Str->Option LP},(∀v,(x,v)∉binds)->bindC MX binds m x=m x
 |[],_,_=>rfl|(n,v)::r,m,h=>by
  unfold bindC;rw[pP λw hw=>h w (Nt _ hw)];split;·rfl
  ·have:x≠n:=by rintro rfl;exact h v Oy
   simp[this]
theorem pQ{MX:Str->Option Nn}{x:Str}{v:LP}:∀{P:List Str}{vs:List LP}{i:Nat}{m:Str->Option LP},P.Nodup->P[i]?=some x->vs[i]?=some v->MX x=some .local->bindL MX (P.zip vs) m x=some v|[],_,_,_,_,h,_,_=>by simp at h|_::_,[],_,_,_,_,h,_=>by simp at h|p::P,w::vs,0,m,nd,h1,h2,hk=>by simp at h1 h2;subst h1;subst h2;show bindL MX ((p,w)::P.zip vs) m p=_;unfold bindL;rw[pR λv hv=>(OV.mp nd).1 (List.of_mem_zip hv).1,if_pos hk];simp|p::P,w::vs,i+1,m,nd,h1,h2,hk=>by show bindL MX ((p,w)::P.zip vs) m x=_;unfold bindL;exact pQ (i:=i) (OV.mp nd).2 (by simpa using h1) (by simpa using h2) hk
theorem pO{MX:Str->Option Nn}{x:Str}{v:LP}:∀{P:List Str}{vs:List LP}{i:Nat}{m:Str->Option LP},P.Nodup->P[i]?=some x->vs[i]?=some v->MX x≠some .local->bindC MX (P.zip vs) m x=some v|[],_,_,_,_,h,_,_=>by simp at h|_::_,[],_,_,_,_,h,_=>by simp at h|p::P,w::vs,0,m,nd,h1,h2,hk=>by simp at h1 h2;subst h1;subst h2;show bindC MX ((p,w)::P.zip vs) m p=_;unfold bindC;rw[pP λv hv=>(OV.mp nd).1 (List.of_mem_zip hv).1,if_neg hk];simp|p::P,w::vs,i+1,m,nd,h1,h2,hk=>by show bindC MX ((p,w)::P.zip vs) m x=_;unfold bindC;exact pO (i:=i) (OV.mp nd).2 (by simpa using h1) (by simpa using h2) hk
def dM(N:List Str)(vs:List V):St:=vs.map some++Mh (N.length-vs.length) none
def dR(CX:pk)(P:Mc)(w:LV)(K:⇑0)(mg:Str->Option LP)(base:LZ)(N:List Str)(qual:Str)(scope:Mr)(f:LQ)(cd:LP)(A:Md)(outer:List Env)(s:LR)(H:Hp)(E:XK):Cx where prog:=P;w:=w;K:=K;mg:=mg;base:=base;A:=A.deeper (Mt qual scope ↑s f cd);N:=N;s₀:=s;H₀:=H;env:=Mt qual scope ↑s f cd;outer:=outer;stack:=Mt qual scope ↑s f cd::outer;ex:=[];calm:=true;fn:=λ_=>true;pn:=[];xe:=λe s'=>Ma (LY P w) (A.deeper (Mt qual scope ↑s f cd)) (leaving (Mt qual scope ↑s f cd) e) (λ_ s''=>CX outer H s E e s'') (λe' s''=>CX outer H s E e' s'') s'
theorem sG{sc:Mr}{n:Nat}{x:Str}(h:sc.names.lookup x=some .cell):∃c,(MB n sc.names []).lookup x=some c:=by have q:=PySem.W.cellsFrom_some sc.names n [] (.inl h);exact QS.mp q
theorem wU{CX:pk}{P:Mc}{w:LV}{K:⇑0}{mg:Str->Option LP}{base:LZ}{N ps:List Str}{qual:Str}{scope:Mr}{f:LQ}{cd:LP}{A:Md}{outer:List Env}{s s1:LR}{H:Hp}{E:XK}{us:List LP}{vs:List V}(S:aw N ps scope)(hd:A.handled=none)(e0:Az P w K mg base A outer s H)(hl:vs.length=ps.length)(r:aR vs us)(x:InCallC s ↑s (bindL (Mt qual scope ↑s f cd).kindOf (ps.zip us) λ_=>none) (MB (↑s+1) scope.names []) (bindC (Mt qual scope ↑s f cd).kindOf (ps.zip us) λ_=>none) s1):aA (dR CX P w K mg base N qual scope f cd A outer s H E) [] (dM N vs) H s1:=by
 have hpl:ps.length<=N.length:=by have:=congrArg List.length S.pre;rw[Nh]at this;lia
 obtain⟨h1,tk,rfl,hk⟩:=x.done;have noA:∀b:LQ,b∉(dR CX P w K mg base N qual scope f cd A outer s H E).ex:=λb z=>absurd (show b∈([]:List LQ) from z) ↥1;refine⟨⟨e0.mod,S.kind,rfl,rfl,MU _,λy z c h1 h2=>?_,λy hy=>?_,λy c _ h=>?_,λ_=>hd,Around.frames_deeper e0.frames,.inr ⟨rfl,rfl⟩,λb z=>absurd z (noA b),e0.bs,e0.bsz,λb _ _=>noA b,λb z=>absurd z (noA b),e0.funs,e0.frf⟩,rfl,e0.bare,Un.kept hk,⟨_,x.toInCall.ns,λi y v h1 h2 h3=>?_⟩,λy c h=>⟨_,x.cell y c h⟩,e0.hok.fresh ↥8,λy c h=>?_,λp hp=>absurd (show p∈([]:List (LQ×Obj)) from hp) ↥1,e0.hok.kept hk,?_⟩;·exact name_of_addr x.apart (PH h1) (PH h2)
 ·have hy:scope.names.lookup y=some .cell\/scope.names.lookup y=some .free:=hy;rcases hy with hy|hy;·exact sG hy
  ·exact absurd rfl (S.nofree _ (PH hy))
 ·exact Ox (x.above y c (PH h))
 ·have hi:i<vs.length:=by
   unfold dM at h2;by_cases hi:i<vs.length;·exact hi
   ·rw[Qn (by simpa using hi)]at h2;rw[QT]at h2;split at h2<;>cases h2
  have ha:vs[i]?=some v:=by unfold dM at h2;rw[Oe (by simpa using hi),MS]at h2;cases e:vs[i]? with|none=>rw[e]at h2;cases h2|some a=>rw[e]at h2;cases h2;rfl
  obtain⟨u,hu,rv⟩:=r.get ha;have hp:ps[i]?=some y:=by rw[<-S.pre,List.getElem?_take_of_lt ↥0];exact h1
  have ndP:ps.Nodup:=by rw[<-S.pre];exact S.nd.sublist (PJ _ _)
  refine⟨u,rv,?_⟩;rcases S.par y (LO hp) with k|k;·exact .inl ⟨k,pQ ndP hp hu k⟩
  ·obtain⟨c,e⟩:=sG (n:=↑s+1) k;refine .inr ⟨.inl k,c,e,?_⟩;have q:=x.cell y c e;rw[pO ndP hp hu (by show scope.names.lookup y≠_;rw[k];decide)]at q;exact q
 ·exact e0.hok.fresh (Ox (x.above y c (PH h)))
 ·unfold dM;show _=N.length;rw[MY,Mn,Qo];lia
theorem CB{CX:pk}{P:Mc}{w:LV}{K:⇑0}{mg:Str->Option LP}{base:LZ}{k:Nat}{f:LQ}{name qual:Str}{params:Arguments}{body:List Me}{scope:Mr}{dV kV doc pm cdv ct oc:LP}{an od:Option LQ}{osl:Array (Option LP)}{N ps:List Str}{sp:Sp}(lk:K.lookup f=some ⟨oc,od,.func (NJ name qual params body scope dV kV doc pm an cdv ct),osl⟩)(hcd:PK K cdv qual=true)(S:aw N ps scope)(len:∀vs H Q E,sp vs H Q E->vs.length=ps.length)(hbody:∀(A:Md) (outer:List Env) (s:LR) (H:Hp) (vs:List V) (Q:VK) (E:XK),bZ k (A.deeper (Mt qual scope ↑s f cdv))->sp vs H Q E->∃t,ky (dR CX P w K mg base N qual scope f cdv A outer s H E) body t/\t {nx:=λ_ H'=>Q .non H',rt:=Q} (dM N vs) H):a_ P w K mg base CX (k+1) f (NJ name qual params body scope dV kV doc pm an cdv ct) ps sp:=by
 refine⟨len,λA outer s H args us vs Q E hr e0 hb r hsp=>?_⟩;have hl:=len _ _ _ _ hsp;have KX:K.In s.heap:=e0.mod.kin.keeps λb o e=>(e0.bs b o e).1;have lim:s.heap.NoLimit:=e0.mod.nolimit.keeps λb o e=>(e0.bs b o e).1;have hkind:∀y∈ps.zip us,scope.names.lookup y.1=some .local\/(scope.names.lookup y.1=some .cell/\((MB (↑s+1) scope.names []).lookup y.1).isSome=true):=λ⟨n,v⟩hy=>by
  rcases S.par n (List.of_mem_zip hy).1 with q|q;·exact .inl q
  ·exact .inr ⟨q,PySem.W.cellsFrom_some _ _ _ (.inl q)⟩
 refine codeAny_call_function hr.depth (KX _ _ lk) rfl S.co S.gen rfl (PySem.W.codeRec_of KX hcd) (hb _ _ _ _ ?_);refine wpAny_newFunctionEnv_cells S.kind hkind λenv he s1 x=>?_;subst he;refine⟨lim.keeps x.toInCall.keep,codeAny_func ?_⟩;obtain⟨t,ht,hq⟩:=hbody A outer s H vs Q E (hr.deeper _) hsp;have I:aA (dR CX P w K mg base N qual scope f cdv A outer s H E) [] (dM N vs) H s1:=wU S hr.hd e0 hl r x;refine Ms (ht [] s1 (dM N vs) H _ I hq) (λfl s' hs=>?_) λe s' hs=>hs;have fin:∀{σ':St}{H':Hp}{v:V}{u:LP},aA (dR CX P w K mg base N qual scope f cdv A outer s H E) [] σ' H' s'->bu v u->Q v H'->CE outer P w H s Q u s':=fun{σ' H' v u}J rv q=>⟨v,H',J.os,J.bare,J.base,J.hok,rv,q⟩;cases fl with|ret u=>obtain⟨v,σ',H',J,rv,q⟩:=hs;exact fin J rv q|next=>obtain⟨σ',H',J,q⟩:=hs;exact fin (v:=V.non) (u:=Value.none) J rfl q|brk=>obtain⟨_,_,_,q⟩:=hs;exact Nf q|cont=>obtain⟨_,_,_,q⟩:=hs;exact Nf q
section
variable{X:Cx}{x:Str}{p pos:Pos}{e:LU}{es:List LU}{t:TA}{id T:String}{r:List V->Hp->VK->Prop}
def HN(r:List V->Hp->VK->Prop)(t:TA):TE:=λσ H Q=>t σ H λvs H1=>r vs H1 Q
theorem oJ(hc:cJ X (.builtin id) r)(hg:Gl X x)(hm:X.mg x=none)(hv:NL x=some (.builtin id))(ha:PA X (e::es) t)(hn:x≠"__name__":=by decide)(hdb:(x==("__debug__":Str))=false:=by decide)(he:Mf (e::es) X.env=(false,Ml e X.env)::Mf es X.env:=by rfl)(hpl:(MF pos (Mf es X.env)).any (·.1)=false:=by rfl):PE X (.Call (.Name x p) (e::es) [] pos) (HN r t):=by intro pins s σ H Q I h;refine Pj (l_ I hg hm hv ?_ hn hdb);exact PyProof.Rows.callWith_builtin1 (ck (ha pos pins s σ H _ I h) λus s1⟨vs,H1,I1,r1,q1⟩=>hc pins s1 σ H1 vs us Q I1 r1 q1) he hpl
theorem xn(hc:cJ X (.type T) r)(hg:Gl X x)(hm:X.mg x=none)(hv:NL x=some (.type T))(ha:PA X (e::es) t)(hn:x≠"__name__":=by decide)(hdb:(x==("__debug__":Str))=false:=by decide)(he:Mf (e::es) X.env=(false,Ml e X.env)::Mf es X.env:=by rfl)(hpl:(MF pos (Mf es X.env)).any (·.1)=false:=by rfl):PE X (.Call (.Name x p) (e::es) [] pos) (HN r t):=by intro pins s σ H Q I h;refine Pj (l_ I hg hm hv ?_ hn hdb);exact Qm (ck (ha pos pins s σ H _ I h) λus s1⟨vs,H1,I1,r1,q1⟩=>hc pins s1 σ H1 vs us Q I1 r1 q1) he hpl
end
end L2
namespace HT
open PySem PyProof.Rows
section
open PySem.SeqAt
open PySem.AutoSeq1 (wpAny_loadPart')
open PySem.MeetsSeq PySem.MeetsSeq2 PySem.MeetsSeq3
end
section
variable{prog:Mc}{w:LV}{A:Md}{E:LP->LR->Prop}{s:LR}
theorem cat_tup{t b:LQ}{vs ws:List LP}{Q:LP->LR->Prop}(ht:IsTup s.heap t vs.toArray)(hb:IsTup s.heap b ws.toArray)(hv:vs≠[])(h1:ws=[]->Q (.ref t) s)(h2:ws≠[]->Q (.ref ↑s) {s with heap:=s.heap.push {cls:=.type "tuple",data:=.seq (vs++ws).toArray}})(hsz:vs.length+ws.length<=Mi):Ma (LY prog w) A (Ng .Add (.ref t) (.ref b)) Q E s:=by
 obtain⟨⟨cls,dd,data,sl⟩,ho,hc,n,hd⟩:=id ht;obtain⟨⟨cls2,dd2,data2,sl2⟩,ho2,hc2,n2,hd2⟩:=id hb;simp only at hc hd hc2 hd2;subst hc hd hc2 hd2;have e:vs.toArray++ws.toArray=(vs++ws).toArray:=by simp
 by_cases hw:ws=[];·exact concat_meets ⟨_,ho,rfl⟩ ⟨_,ho2,rfl⟩ noFill_tuple_add seq_tuple_add PySem.F.slot_tuple_add PySem.F.entry_tuple_add (PySem.F.args_tuple_add_2 _ _) (tuple_addW1 t b vs.toArray ws.toArray n n2 dd dd2 sl sl2 (by simpa using hv) (by simp[hw])) ⟨ho,ho2,h1 hw⟩
 ·refine concat_meets ⟨_,ho,rfl⟩ ⟨_,ho2,rfl⟩ noFill_tuple_add seq_tuple_add PySem.F.slot_tuple_add PySem.F.entry_tuple_add (PySem.F.args_tuple_add_2 _ _) (tuple_addW2 t b vs.toArray ws.toArray n n2 dd dd2 sl sl2 (by simpa using hv) (by simpa using hw) (by rw[Mx,Mx];exact hsz)) ⟨ho,ho2,?_⟩;rw[e];exact h2 hw
def sIx(n d:Nat):Option Int->Nat|none=>d|some v=>if v<0 then(v+(n:Int)).toNat else min v.toNat n
theorem sIx_none(n d:Nat):sIx n d none=d:=rfl
theorem sIx_nat(n d k:Nat):sIx n d (some (k:Int))=min k n:=by show(if (k:Int)<0 then((k:Int)+(n:Int)).toNat else min (k:Int).toNat n)=min k n;rw[if_neg ↥0,Int.toNat_natCast]
theorem EH(n d:Nat)(hd:d<=n)(o:Option Int):sIx n d o<=n:=by cases o with|none=>exact hd|some v=>
 show(if v<0 then(v+(n:Int)).toNat else min v.toNat n)<=n;by_cases hv:v<0;·rw[if_pos hv];lia
 ·rw[if_neg hv];exact Nat.min_le_right _ _
theorem vB(v:Int)(n d:Nat):(if v<0 then max (v+(n:Int)) 0 else min v (n:Int))=((sIx n d (some v):Nat):Int):=by
 show(if v<0 then max (v+(n:Int)) 0 else min v (n:Int))=(((if v<0 then(v+(n:Int)).toNat else min v.toNat n):Nat):Int);by_cases hv:v<0;·simp only[if_pos hv];lia
 ·simp only[if_neg hv];lia
theorem ut(lo hi:Option Int)(n:Nat):QU lo hi 1 (n:Int)=(((sIx n 0 lo:Nat):Int),((sIx n n hi:Nat):Int)):=by
 have h1:¬((1:Int)<0):=by lia
 unfold QU;simp only[h1,if_false];refine Prod.ext ?_ ?_;·cases lo with|none=>rfl|some v=>exact vB v n 0
 ·cases hi with|none=>rfl|some v=>exact vB v n n
theorem uX(i j:Nat):Qp (i:Int) (j:Int) 1=j-i:=by
 unfold Qp;have h1:(1:Int)>0:=by lia
 simp only[h1,if_true,Int.ediv_one];split<;>lia
theorem o6{v:LP}{o:Option Int}{Q:Option Int->LR->Prop}(p:IsPart v o)(h:Q o s):Ma (LY prog w) A (Builtin.Slice.slicePartIndex v) Q E s:=by cases p with|none=>exact slicePart_none h|int i t=>exact slicePart_int h
theorem ic{sl:LQ}{vl vu:LP}{lo hi:Option Int}{n:Nat}{Q:Int×Int×Nat->LR->Prop}(hs:s.heap.IsSliceOf sl vl vu .none)(pl:IsPart vl lo)(pu:IsPart vu hi)(h:Q (((sIx n 0 lo:Nat):Int),1,sIx n n hi-sIx n 0 lo) s):Ma (LY prog w) A (Rp (.ref sl) (pure (n:Int))) Q E s:=by obtain⟨os,hos,hcs,hds⟩:=id hs;unfold Rp Builtin.Slice.sliceFields;refine Mb (Mb (wpAny_field hos hds (x:=vl) rfl (Mb (wpAny_field hos hds (x:=vu) rfl (Mb (wpAny_field hos hds (x:=.none) rfl (Mj ?_)))))));refine Mb (slicePart_none ?_);show Ma _ _ (if ((1:Int)==0)=true then _ else _) _ _ s;rw[if_neg ⋯];refine Mb (o6 pl (Mb (o6 pu (Mb (Mj ?_)))));show Ma _ _ (match QU lo hi 1 (n:Int) with|(lo,hi)=>pure (lo,(1:Int),Qp lo hi 1)) _ _ s;rw[ut lo hi n];show Ma _ _ (pure (((sIx n 0 lo:Nat):Int),(1:Int),Qp ((sIx n 0 lo:Nat):Int) ((sIx n n hi:Nat):Int) 1)) _ _ s;rw[uX];exact Mj h
theorem zy(xs:Array LP)(i k:Nat):((MD k).filterMap fun(m:Nat)=>xs[((i:Int)+(m:Int)*1).toNat]?).toArray=((xs.toList.drop i).take k).toArray:=by
 have e:(fun(m:Nat)=>xs[((i:Int)+(m:Int)*1).toNat]?)=λm=>xs[i+m]?:=by
  funext m;have:((i:Int)+(m:Int)*1).toNat=i+m:=by lia
  rw[this]
 rw[e];have:=pick_run xs i k;rw[List.filterMap_map]at this;have e2:((λx=>xs[x]?)∘λx=>i+x)=λm=>xs[i+m]?:=rfl;rw[e2]at this;rw[this]
theorem getItem_tuple_cut{t sl:LQ}{items:Array LP}{vl vu:LP}{lo hi:Option Int}{Q:LP->LR->Prop}(ht:IsTup s.heap t items)(hs:s.heap.IsSliceOf sl vl vu .none)(pl:IsPart vl lo)(pu:IsPart vu hi)(hw:¬(sIx items.size 0 lo=0/\sIx items.size items.size hi=items.size))(h:Q (.ref ↑s) {s with heap:=s.heap.push {cls:=.type "tuple",data:=.seq ((items.toList.drop (sIx items.size 0 lo)).take (sIx items.size items.size hi-sIx items.size 0 lo)).toArray}})(hsz:items.size<=Mi):Ma (LY prog w) A (getItem (.ref t) (.ref sl)) Q E s:=by
 have htake:sizeOk (.seq ((items.toList.drop (sIx items.size 0 lo)).take (sIx items.size items.size hi-sIx items.size 0 lo)).toArray):=by show((items.toList.drop (sIx items.size 0 lo)).take (sIx items.size items.size hi-sIx items.size 0 lo)).toArray.size<=Mi;rw[Mx,Nh,NY,MQ];lia
 have hj:sIx items.size items.size hi<=items.size:=EH _ _ ↥8 hi;obtain⟨os,hos,hcs,hds⟩:=id hs;have hTs:s.TypeIs (.ref sl) "slice":=⟨os,hos,hcs⟩;unfold getItem;try with_reducible refine Pk ?_
 first|refine Mb (Mj ?_)|skip
 refine Mb (wpAny_sequenceKey ht.typeIs ⋯ ?_);refine Mb (wpAny_callSpecial?_slot (name:=Nv "__getitem__") ht.typeIs OW (Qq OW ht.typeIs entry_tuple_getitem ?_ (args_tuple_getitem _ _)));show Ma _ _ (Rq (.ref t)>>=_) _ _ s;refine Mb (tupleItemsOf_ ht ?_);refine Mb (PL hTs ?_);rw[if_pos ⋯];refine Mb (ic hs pl pu ?_);have hno:¬((((sIx items.size 0 lo:Nat):Int)==0&&(1:Int)==1&&(sIx items.size items.size hi-sIx items.size 0 lo)==items.size)=true):=by intro q;rw[MC,MC]at q;have q1:((sIx items.size 0 lo:Nat):Int)=0:=eq_of_beq q.1.1;have q2:sIx items.size items.size hi-sIx items.size 0 lo=items.size:=eq_of_beq q.2;exact hw ⟨by lia,by lia⟩
 show Ma _ _ (if (((sIx items.size 0 lo:Nat):Int)==0&&(1:Int)==1&&(sIx items.size items.size hi-sIx items.size 0 lo)==items.size)=true then _ else _) _ _ s;rw[if_neg hno,zy];first|exact Mb (m:=Pl _) (OG (Mj ⟨_,rfl,Mj h⟩) htake)|exact Mb (m:=Pl _) (OG (Mb (Mj (Mj ⟨_,rfl,Mj h⟩))) htake)|exact Mb (Mb (m:=Pl _) (OG (Mj (Mj ⟨_,rfl,Mj h⟩)) htake))|exact Mb (Mb (m:=Pl _) (OG (Mj ⟨_,rfl,Mj h⟩) htake))
end
end HT
namespace L2
open PySem PySem.Spec PyProof.Rows
abbrev TO:=St->Hp->(Option Int->Hp->Prop)->Prop
def PO(X:Cx)(e:Option LU)(t:TO):Prop:=∀(pins:List (LQ×Obj)) (s:LR) (σ:St) (H:Hp) (Q:Option Int->Hp->Prop),aA X pins σ H s->t σ H Q->Ma (LY X.prog X.w) X.A (evalPart e X.env) (λu s'=>∃o H',aA X pins σ H' s'/\IsPart u o/\Q o H') X.xe s
def B6:TO:=λ_ H Q=>Q none H
def GK(t:TE):TO:=λσ H Q=>t σ H λx H1=>∃i,x=.int i/\Q (some i) H1
theorem ou{ns:List Int}:∀{us:List LP},aR (ns.map V.int) us->NF us ns:=by induction ns with|nil=>intro us r;rw[MG]at r;cases r;exact .nil|cons n ns ih=>intro us r;rw[Mp]at r;cases r with|cons r1 r2=>obtain⟨t,e⟩:=r1;subst e;exact .cons n t (ih r2)
section
variable{X:Cx}{e:LU}{te:TE}{lo hi:Option LU}{tl th:TO}{pos p2:Pos}
theorem BE:PO X none B6:=by intro pins s σ H Q I h;rw[evalPart_none];exact Mj ⟨none,H,I,.none,h⟩
theorem BF(h:PE X e te):PO X (some e) (GK te):=by intro pins s σ H Q I hw;rw[evalPart_some];refine ck (h pins s σ H _ I hw) λu s1⟨x,H1,I1,r1,q1⟩=>?_;obtain⟨i,rfl,q⟩:=q1;obtain⟨t,rfl⟩:=r1;exact⟨some i,H1,I1,.int i t,q⟩
def AC(X:Cx)(r:V->Option Int->Option Int->Hp->VK->Prop):Prop:=∀(pins:List (LQ×Obj)) (s:LR) (σ:St) (H:Hp) (x:V) (v vl vu:LP) (lo hi:Option Int) (sl:LQ) (Q:VK),aA X pins σ H s->bu x v->s.heap.IsSliceOf sl vl vu .none->IsPart vl lo->IsPart vu hi->r x lo hi H Q->∃T id,typeLookup (.type T) "__getitem__"=pure (some (.builtin id))/\s.TypeIs v T/\Ma (LY X.prog X.w) X.A (getItem v (.ref sl)) (EP X pins σ Q) X.xe s
theorem AC.or{r r':V->Option Int->Option Int->Hp->VK->Prop}(h:AC X r)(h':AC X r'):AC X (λx lo hi H Q=>r x lo hi H Q\/r' x lo hi H Q):=by
 intro pins s σ H x v vl vu lo hi sl Q I rx hs pl pu q;rcases q with q|q;·exact h pins s σ H x v vl vu lo hi sl Q I rx hs pl pu q
 ·exact h' pins s σ H x v vl vu lo hi sl Q I rx hs pl pu q
def IY(r:V->Option Int->Option Int->Hp->VK->Prop)(te:TE)(tl th:TO):TE:=λσ H Q=>te σ H λx H1=>tl σ H1 λl H2=>th σ H2 λu H3=>r x l u H3 Q
theorem zr{r:V->Option Int->Option Int->Hp->VK->Prop}(hr:AC X r)(he:PE X e te)(hl:PO X lo tl)(hu:PO X hi th):PE X (.Subscript e (.Slice lo hi none p2) pos) (IY r te tl th):=by intro pins s σ H Q I h;refine Subscript_ (ck (he pins s σ H _ I h) λv s1⟨x,H1,I1,r1,q1⟩=>?_);refine wpAny_Slice (ck (hl pins s1 σ H1 _ I1 q1) λvl s2⟨l,H2,I2,pl,q2⟩=>ck (hu pins s2 σ H2 _ I2 q2) λvu s3⟨u,H3,I3,pu,q3⟩=>?_);rw[evalPart_none];refine Mj ?_;have I4:aA X pins σ H3 {s3 with heap:=s3.heap.push {cls:=.type "slice",data:=.fields #[vl,vu,.none]}}:=I3.kept (t':=s3.toks) λb ob q=>MJ _ q;obtain⟨T,id,hT,ht,hg⟩:=hr pins {s3 with heap:=s3.heap.push {cls:=.type "slice",data:=.fields #[vl,vu,.none]}} σ H3 x v vl vu l u ↑s3 Q I4 r1 (Heap.IsSliceOf.new ..) pl pu q3;show Ma (LY X.prog X.w) X.A (subscriptTail e (.Slice lo hi none p2) v (.ref ↑s3)) (EP X pins σ Q) X.xe {s3 with heap:=s3.heap.push {cls:=.type "slice",data:=.fields #[vl,vu,.none]}};exact tail_any (ops:=[.ref ↑s3,v]) ht hT hg (by with_unfolding_all rfl)
def pC(xs:List V)(lo hi:Option Int):List V:=(xs.drop (HT.sIx xs.length 0 lo)).take (HT.sIx xs.length xs.length hi-HT.sIx xs.length 0 lo)
theorem mH(xs:List V)(lo hi:Option Int):(pC xs lo hi).length<=xs.length:=by unfold pC;rw[Nh,NY];lia
def Gw(K:⇑0):V->Option Int->Option Int->Hp->VK->Prop:=λx lo hi H Q=>∃a xs,x=.ref a/\dO K H a xs/\¬(HT.sIx xs.length 0 lo=0/\HT.sIx xs.length xs.length hi=xs.length)/\∀p,H p=none->Q (.ref p) (bI H p (.tup (pC xs lo hi)))
theorem EJ:AC X (Gw X.K):=by
 intro pins s σ H x v vl vu lo hi sl Q I rx hs pl pu h;obtain⟨a,xs,rfl,hx,hw,q⟩:=h;cases rx;obtain⟨its,r,ht,hz⟩:=I.tuple hx;have hlen:its.toArray.size=xs.length:=by rw[Mx];exact r.length.symm
 refine⟨"tuple",_,OW.lookup,ht.typeIs,?_⟩;refine HT.getItem_tuple_cut ht hs pl pu (by rw[hlen];exact hw) ?_ (by rw[hlen];exact hz);rw[hlen];refine⟨.ref ↑s,_,I.laid (t':=s.toks) (o:=.tup (pC xs lo hi)) (λb ob q=>MJ _ q) ↥8 ?_,rfl,q _ (I.hok.fresh ↥8)⟩;exact⟨Mv (mH xs lo hi) hz,_,(r.drop (HT.sIx xs.length 0 lo)).take (HT.sIx xs.length xs.length hi-HT.sIx xs.length 0 lo),qG.new _ _⟩
def Gq(K:⇑0):R2:=λx y H Q=>∃a b xs ys,x=.ref a/\y=.ref b/\dO K H a xs/\dO K H b ys/\xs≠[]/\xs.length+ys.length<=Mi/\(ys=[]->Q (.ref a) H)/\(ys≠[]->∀p,H p=none->Q (.ref p) (bI H p (.tup (xs++ys))))
theorem aR.nil_iff{xs:List V}{us:List LP}(r:aR xs us):us=[]↔xs=[]:=by cases r with|nil=>simp|cons _ _=>simp
theorem Bo:i5 X (Ng .Add) (Gq X.K):=by intro pins s σ H x y v u Q I rx ry h;obtain⟨a,b,xs,ys,rfl,rfl,ha,hb,hx,hz,q1,q2⟩:=h;cases rx;cases ry;obtain⟨its,r1,p1,_⟩:=I.tuple ha;obtain⟨its2,r2,p2,_⟩:=I.tuple hb;refine HT.cat_tup p1 p2 (λz=>hx (r1.nil_iff.mp z)) (λz=>⟨.ref a,H,I,rfl,q1 (r2.nil_iff.mp z)⟩) (λz=>?_) (by rw[<-r1.length,<-r2.length];exact hz);refine⟨.ref ↑s,_,I.laid (t':=s.toks) (o:=.tup (xs++ys)) (λb ob q=>MJ _ q) ↥8 ?_,rfl,q2 (λw=>z (r2.nil_iff.mpr w)) _ (I.hok.fresh ↥8)⟩;exact⟨by rw[MY];exact hz,_,r1.append r2,qG.new _ _⟩
end
def E5(n:Nat)(i:Int):Option Nat:=if 0<=i then(if i<n then some i.toNat else none) else if-(n:Int)<=i then some (i+n).toNat else none
def atI{α:Type}(xs:List α)(i:Int):Option α:=(E5 xs.length i).bind λj=>xs[j]?
theorem AW{n:Nat}{i:Int}{j:Nat}(h:E5 n i=some j):seqIndex? i n=some j/\j<n/\-(n:Int)<=i/\i<n:=by
 unfold E5 at h;by_cases h0:0<=i
 ·rw[if_pos h0]at h;by_cases h1:i<n;·rw[if_pos h1]at h;have e:i.toNat=j:=Nm h;exact⟨by rw[seqIndex_of h0 h1,e],by lia,by lia,h1⟩
  ·rw[if_neg h1]at h;cases h
 ·rw[if_neg h0]at h;by_cases h1:-(n:Int)<=i;·rw[if_pos h1]at h;have e:(i+n).toNat=j:=Nm h;exact⟨by rw[seqIndex_neg ↥0 h1,e],by lia,h1,by lia⟩
  ·rw[if_neg h1]at h;cases h
theorem vm{α:Type}{xs:List α}{i:Int}{v:α}(h:atI xs i=some v):∃j,seqIndex? i xs.length=some j/\xs[j]?=some v/\j<xs.length/\-(xs.length:Int)<=i/\i<xs.length:=by unfold atI at h;cases e:E5 xs.length i with|none=>rw[e]at h;cases h|some j=>rw[e]at h;obtain⟨h1,h2,h3,h4⟩:=AW e;exact⟨j,h1,h,h2,h3,h4⟩
def qI(b:LU):Prop:=∀o i,subscripted b false o i=operate [o,i] (getItem o i)
def AB(X:Cx)(r:R2):Prop:=∀(value slice:LU) (pins:List (LQ×Obj)) (s:LR) (σ:St) (H:Hp) (x y:V) (v u:LP) (Q:VK),aA X pins σ H s->bu x v->bu y u->r x y H Q->subscripted slice false v u=operate [v,u] (getItem v u)->Ma (LY X.prog X.w) X.A (subscriptTail value slice v u) (EP X pins σ Q) X.xe s
def Ib(X:Cx)(id:String)(r:V->List V->Hp->VK->Prop):Prop:=∀(pins:List (LQ×Obj)) (s:LR) (σ:St) (H:Hp) (x:V) (xs:List V) (v:LP) (us:List LP) (Q:VK),aA X pins σ H s->bu x v->aR xs us->r x xs H Q->Ma (LY X.prog X.w) X.A (call (.builtin id) (v::us)) (EP X pins σ Q) X.xe s
section
variable{X:Cx}{a b:LU}{ta tb:TE}{pos:Pos}
theorem AB.or{r r':R2}(h:AB X r)(h':AB X r'):AB X (λx y H Q=>r x y H Q\/r' x y H Q):=by
 intro value slice pins s σ H x y v u Q I rx ry q hs;rcases q with q|q;·exact h value slice pins s σ H x y v u Q I rx ry q hs
 ·exact h' value slice pins s σ H x y v u Q I rx ry q hs
theorem Gh{r:R2}(hr:AB X r)(ha:PE X a ta)(hb:PE X b tb)(hs:qI b):PE X (.Subscript a b pos) (GJ r ta tb):=by intro pins s σ H Q I h;exact Subscript_ (Dp ha hb I h λv u s2 x y H2 I2 rx ry q=>hr a b pins s2 σ H2 x y v u Q I2 rx ry q (hs _ _))
def Gs(K:⇑0):R2:=λx y H Q=>∃p xs i v,x=.ref p/\y=.int i/\i6 K H p xs/\atI xs i=some v/\Q v H
def Gu(K:⇑0):R2:=λx y H Q=>∃p xs i v,x=.ref p/\y=.int i/\dO K H p xs/\atI xs i=some v/\Q v H
theorem AX:AB X (Gs X.K):=by
 intro value slice pins s σ H x y v u Q I rx ry h hs;obtain⟨p,xs,i,z,rfl,rfl,hq,he,q⟩:=h;cases rx;obtain⟨t,rfl⟩:=ry;obtain⟨its,r,pl,hz⟩:=I.list hq;obtain⟨j,h1,h2,h3,h4,h5⟩:=vm he;obtain⟨w,ew,rw'⟩:=r.get h2;have hl:=r.length;have hn:=uL;have fin:EP X pins σ Q w s:=⟨z,H,I,rw',q⟩;by_cases h0:0<=i
 ·have hj:i.toNat=j:=by rw[seqIndex_of h0 h5]at h1;exact Nm h1
  exact item_listR pl.isList h0 ↥0 (by rw[hj];simpa using ew) fin hs
 ·have hj:(i+(its.toArray.size:Int)).toNat=j:=by rw[seqIndex_neg ↥0 h4]at h1;rw[Mx,<-hl];exact Nm h1
  exact subscriptTail_builtinR (x:=w) pl.isList.typeIs slot_list_getitem.lookup (wpAny_getItem_list_neg (Q:=λr s'=>r=w/\EP X pins σ Q r s') pl.isList ↥0 (by rw[Mx]<;>lia) ↥0 (by rw[hj];simpa using ew) ⟨rfl,fin⟩) hs
theorem DC:AB X (Gu X.K):=by intro value slice pins s σ H x y v u Q I rx ry h hs;obtain⟨p,xs,i,z,rfl,rfl,hq,he,q⟩:=h;cases rx;obtain⟨t,rfl⟩:=ry;obtain⟨its,r,pl,hz⟩:=I.tuple hq;obtain⟨j,h1,h2,h3,h4,h5⟩:=vm he;obtain⟨w,ew,rw'⟩:=r.get h2;have hl:=r.length;have hn:=uL;have fin:EP X pins σ Q w s:=⟨z,H,I,rw',q⟩;exact subscriptTail_builtinR (x:=w) pl.typeIs OW.lookup (getItem_tuple (j:=j) (Q:=λr s'=>r=w/\EP X pins σ Q r s') pl ↥0 ↥0 (by rw[Mx,<-hl];exact h1) (by simpa using ew) ⟨rfl,fin⟩) hs
theorem rZ(lo hi:Option Int)(n:Nat):(OX lo hi none n).1=((HT.sIx n 0 lo:Nat):Int)/\(OX lo hi none n).2.1=((HT.sIx n n hi:Nat):Int)/\(OX lo hi none n).2.2=1:=by
 refine⟨?_,?_,rfl⟩;·cases lo with|none=>simp[OX,HT.sIx]|some i=>
  simp only[OX,HT.sIx,Option.getD_none,show(1:Int)>0 by decide,if_true];by_cases h:i<0;·simp only[h,if_true]<;>lia
  ·simp only[h,if_false]<;>lia
 ·cases hi with|none=>simp[OX,HT.sIx]|some i=>
  simp only[OX,HT.sIx,Option.getD_none,show(1:Int)>0 by decide,if_true];by_cases h:i<0;·simp only[h,if_true]<;>lia
  ·simp only[h,if_false]<;>lia
theorem pJ(its:List LP)(lo hi:Option Int):slicePick its.toArray lo hi none=((its.drop (HT.sIx its.length 0 lo)).take (HT.sIx its.length its.length hi-HT.sIx its.length 0 lo)).toArray:=by obtain⟨h1,h2,h3⟩:=rZ lo hi its.toArray.size;unfold slicePick;rw[h1,h2,h3];simp only[sliceRange_one,pick_run,Mx]<;>rfl
def Gv(K:⇑0):V->Option Int->Option Int->Hp->VK->Prop:=λx lo hi H Q=>∃a xs,x=.ref a/\i6 K H a xs/\∀p,H p=none->Q (.ref p) (bI H p (.lst (pC xs lo hi)))
theorem BU:AC X (Gv X.K):=by intro pins s σ H x v vl vu lo hi sl Q I rx hs pl pu h;obtain⟨a,xs,rfl,hx,q⟩:=h;cases rx;obtain⟨its,r,ht,hz⟩:=I.list hx;have hlen:=r.length;refine⟨"list",_,slot_list_getitem.lookup,ht.isList.typeIs,?_⟩;refine wpAny_getItem_list_slice ht.isList hs pl pu .none ↥1 ?_ (by rw[Mx]<;>lia);rw[pJ,<-hlen];refine⟨.ref ↑s,_,I.laid (t':=s.toks) (o:=.lst (pC xs lo hi)) (λb ob q=>MJ _ q) ↥8 ?_,rfl,q _ (I.hok.fresh ↥8)⟩;exact⟨Mv (mH xs lo hi) hz,_,0,(r.drop (HT.sIx xs.length 0 lo)).take (HT.sIx xs.length xs.length hi-HT.sIx xs.length 0 lo),Nl _ rfl⟩
theorem qN:cJ X (.builtin "len") (λxs H Q=>∃p ys,xs=[.ref p]/\(i6 X.K H p ys\/dO X.K H p ys)/\Q (.int ys.length) H):=by
 intro pins s σ H xs us Q I r h;obtain⟨p,ys,rfl,hq,q⟩:=h;obtain⟨u,rfl,rx⟩:=qA r;cases rx;have hn:=uL;rcases hq with hq|hq;·obtain⟨its,r',pl,hz⟩:=I.list hq;have hlen:=r'.length;exact Calls.call_len_list pl.isList (by simp only[Mx]<;>lia) ⟨.int ys.length,H,I.tok _,⟨s.toks+1,by rw[Mx,hlen]⟩,q⟩
 ·obtain⟨its,r',pl,hz⟩:=I.tuple hq;have hlen:=r'.length;exact len_tuple pl (by simp only[Mx]<;>lia) ⟨.int ys.length,H,I.tok _,⟨s.toks+1,by rw[Mx,hlen]⟩,q⟩
theorem qO:cJ X (.type "list") (λxs H Q=>∃p ys,xs=[.ref p]/\(i6 X.K H p ys\/dO X.K H p ys)/\∀l,H l=none->Q (.ref l) (bI H l (.lst ys))):=by
 intro pins s σ H xs us Q I r h;obtain⟨p,ys,rfl,hq,q⟩:=h;obtain⟨u,rfl,rx⟩:=qA r;cases rx;have fin:∀(its:List LP),aR ys its->ys.length<=Mi->∀(h':LZ) (c':Nat),(∀b o',s.heap.get? b=some o'->h'.get? b=some o')->h'.get? ↑s=some {cls:=.type "list",dict:=none,data:=.seq its.toArray c',slots:=#[]}->EP X pins σ Q (.ref ↑s) {s with heap:=h'}:=λits r' hz h' c' kp e=>⟨.ref ↑s,_,I.laid (t':=s.toks) kp ↥8 (show df X.prog X.w _ h' _ (.lst ys) from⟨hz,its,c',r',e⟩),rfl,q _ (I.hok.fresh ↥8)⟩;rcases hq with hq|hq;·obtain⟨its,r',pl,hz⟩:=I.list hq;have hlen:=r'.length;obtain⟨o,ho,hc,n,hd⟩:=pl.isList;exact call_list_seq p (.inl rfl) ho hc hd (λh' c' kp e=>fin its r' hz h' c' kp e) (by simp only[Mx]<;>lia)
 ·obtain⟨its,r',pl,hz⟩:=I.tuple hq;have hlen:=r'.length;obtain⟨o,ho,hc,n,hd⟩:=pl;exact call_list_seq p (.inr rfl) ho hc hd (λh' c' kp e=>fin its r' hz h' c' kp e) (by simp only[Mx]<;>lia)
theorem pz:cJ X (.type "tuple") (λxs H Q=>∃p ys,xs=[.ref p]/\((i6 X.K H p ys/\∀l,H l=none->Q (.ref l) (bI H l (.tup ys)))\/(dO X.K H p ys/\Q (.ref p) H))):=by
 intro pins s σ H xs us Q I r h;obtain⟨p,ys,rfl,h⟩:=h;obtain⟨u,rfl,rx⟩:=qA r;cases rx;rcases h with⟨hq,q⟩|⟨hq,q⟩;·obtain⟨its,r',pl,hz⟩:=I.list hq;have hlen:=r'.length;refine call_tuple_list pl.isList (λh' kp=>?_) (by simp only[Mx]<;>lia);have I1:aA X pins σ H {s with heap:=h'}:=I.kept (t':=s.toks) kp;have I2:aA X pins σ (bI H h'.objs.size (.tup ys)) {s with heap:=h'.push {cls:=.type "tuple",data:=.seq its.toArray}}:=I1.laid (t':=s.toks) (λb o e=>MJ _ e) ↥8 (show df X.prog X.w _ _ _ (.tup ys) from⟨hz,its,r',qG.new _ _⟩);exact⟨.ref h'.objs.size,_,I2,rfl,q _ (I1.hok.fresh ↥8)⟩
 ·obtain⟨its,r',pl,hz⟩:=I.tuple hq;exact call_tuple_same pl ⟨.ref p,H,I,rfl,q⟩
def Ir(K:⇑0)(T:String)(x:V)(H:Hp):Prop:=match x with|.str _=>T="str"|.int _=>T="int"|.ref p=>(T="list"/\∃xs,i6 K H p xs)\/(T="tuple"/\∃o,K.lookup p=some o/\o.cls=.type "tuple"/\o.dict=none)\/(T="dict"/\((∃kvs,H p=some (.dK kvs))\/∃kvs,H p=some (.dT kvs)))\/(T="set"/\∃S n,H p=some (.set S n))|_=>False
theorem ES{pins:List (LQ×Obj)}{σ:St}{H:Hp}{s:LR}{T:String}{x:V}{v:LP}(I:aA X pins σ H s)(r:bu x v)(ty:Ir X.K T x H):
 s.TypeIs v T/\∀a,v=.ref a->∃ob,s.heap.get? a=some ob/\ob.dict=none:=by cases x with|str z=>obtain⟨t,rfl⟩:=r;cases (show T="str"from ty);exact⟨typeIs_str s z t,λ_ e=>nomatch e⟩|int i=>obtain⟨t,rfl⟩:=r;cases (show T="int"from ty);exact⟨PM s i t,λ_ e=>nomatch e⟩|ref p=>
  cases r;rcases ty with⟨rfl,xs,hq⟩|⟨rfl,o,hk,hc,hd⟩|⟨rfl,hk⟩|⟨rfl,S,n,hk⟩;·obtain⟨its,_,pl,_⟩:=I.list hq;refine⟨pl.isList.typeIs,λa e=>?_⟩;cases e;obtain⟨o,n,e,c,hd,_⟩:=pl;exact⟨o,e,hd⟩
  ·refine⟨⟨o,I.kIn p o hk,hc⟩,λa e=>?_⟩;cases e;exact⟨o,I.kIn _ o hk,hd⟩
  ·have z:∃o,s.heap.get? p=some o/\o.ExactDict:=by
    rcases hk with⟨kvs,hk⟩|⟨kvs,hk⟩;·obtain⟨_,_,_,_,o,_,_,e,ex,_⟩:=I.hok p _ hk;exact⟨o,e,ex⟩
    ·obtain⟨_,_,_,_,o,_,_,e,ex,_⟩:=I.hok p _ hk;exact⟨o,e,ex⟩
   obtain⟨o,e,ex⟩:=z;refine⟨⟨o,e,ex.1⟩,λa e2=>?_⟩;cases e2;exact⟨o,e,ex.2.1⟩
  ·obtain⟨o,_,_,_,e,ex,_⟩:=I.hok p _ hk;refine⟨⟨o,e,ex.1⟩,λa e2=>?_⟩;cases e2;exact⟨o,e,ex.2.1⟩|_=>exact Nf ty
def Ip(K:⇑0)(T:String)(r:V->List V->Hp->VK->Prop)(to:TE)(t:TA):TE:=λσ H Q=>to σ H λx H1=>Ir K T x H1/\t σ H1 λxs H2=>r x xs H2 Q
variable{o e:LU}{es:List LU}{to:TE}{t:TA}{name:Str}{apos cpos:Pos}{T id:String}{r:V->List V->Hp->VK->Prop}
theorem Gg(pa:PlainAttrs T)(slot:Slot T name id)(hty:typeOf (.builtin id)=pure (.type "method_descriptor"))(hm:Ib X id r)(ho:PE X o to)(ha:PA X (e::es) t)(hbase:PN o name X.env (Ml o X.env)=Ml o X.env:=by rfl)(hfew:((MF cpos (Mf (e::es) X.env)).all (λx=>!x.1)&&(backToKw cpos (keywordEach [] X.env)).all (λx=>x.1.isSome)&&decide ((e::es).length+([]:List NQ).length+(if ([]:List NQ).isEmpty then 0 else 1)<30))=true:=by rfl)(hline:(apos.endLine==cpos.line)=true:=by rfl)(hs:Mf (e::es) X.env=(false,Ml e X.env)::Mf es X.env:=by rfl)(hplain:(MF cpos (Mf es X.env)).any (·.1)=false:=by rfl):PE X (.Call (.Attribute o name apos) (e::es) [] cpos) (Ip X.K T r to t):=by intro pins s σ H Q I h;refine wpAny_Call_method_late hbase hfew hline rfl (ck (ho pins s σ H _ I h) λv s1⟨x,H1,I1,r1,ty,q1⟩=>?_);obtain⟨h1,h2⟩:=ES I1 r1 ty;refine⟨T,id,pa,slot,hty,h1,h2,?_⟩;have hA:=ha cpos pins s1 σ H1 _ I1 q1;rw[hs]at hA⊢;refine Calls.callWith_builtin (by show(false||(MF cpos (Mf es X.env)).any (·.1))=false;rw[hplain]<;>rfl) (Calls.evalArgs_plain ?_);exact ck hA λus s2⟨vs,H2,I2,r2,q2⟩=>hm pins s2 σ H2 x vs v us Q I2 r1 r2 q2
end
def Ia(X:Cx)(id:String)(r:V->List V->Hp->VK->Prop):Prop:=∀(pins:List (LQ×Obj)) (s:LR) (σ:St) (H:Hp) (x:V) (xs:List V) (v:LP) (us:List LP) (Q:VK),aA X pins σ H s->bu x v->aR xs us->r x xs H Q->Ma (LY X.prog X.w) X.A (call (.builtin id) (v::us)) (EP X pins σ Q) X.xe s
theorem aR.one:∀{x:V}{us:List LP},aR [x] us->∃u,us=[u]/\bu x u|_,_,.cons r .nil=>⟨_,rfl,r⟩
theorem aR.eraseIdx:∀{xs:List V}{us:List LP}(i:Nat),aR xs us->aR (xs.eraseIdx i) (us.eraseIdx i)|_,_,_,.nil=>.nil|_,_,0,.cons _ t=>t|_,_,i+1,.cons r t=>.cons r (aR.eraseIdx i t)
theorem aR.rep{xs:List V}{us:List LP}(h:aR xs us):∀k:Nat,aR (Mh k xs).flatten (Mh k us).flatten|0=>.nil|k+1=>by rw[OJ,OJ,Qr,Qr];exact aR.append h (aR.rep h k)
theorem p_{α:Type}:∀(l:List α) (i:Nat),(l.eraseIdx i).length<=l.length|[],_=>MU _|_::_,0=>OY _|_::r,i+1=>Nat.succ_le_succ (p_ r i)
theorem p5(its:List LP):∀(k:Nat) (acc:List LP),Pm (λx1 x2=>x1++x2) acc.toArray (Mh k its.toArray)=(acc++(Mh k its).flatten).toArray
 |0,acc=>by simp|k+1,acc=>by
  have e:acc.toArray++its.toArray=(acc++its).toArray:=by simp
  have e2:(acc++its)++(Mh k its).flatten=acc++(Mh (k+1) its).flatten:=by rw[OJ,Qr,MA]
  rw[<-e2,<-p5 its k (acc++its),<-e,OJ,List.foldl_cons]
section
variable{X:Cx}{pins:List (LQ×Obj)}{σ:St}{H:Hp}{s:LR}{l b:LQ}{xs ys zs:List V}
theorem aA.lset{its its':List LP}{n:Nat}{f:Array LP->Array LP}{t':Nat}(I:aA X pins σ H s)(hH:H l=some (.lst xs))(e:s.heap.get? l=some {cls:=.type "list",data:=.seq its.toArray n})(hf:f its.toArray=its'.toArray)(hv:aR ys its')(hz:ys.length<=Mi):aA X pins σ (bI H l (.lst ys)) {s with heap:=s.heap.update l (MK f),toks:=t'}:=by have q:=PySem.IsL.update e f;rw[hf]at q;refine I.write (x:=l) (e:=l) (by rw[hH];exact trivial) (.inl rfl) (λb' u hb hu=>(Heap.get?_update_other s.heap (MK f) (NM hb)).trans hu) ⟨_,q⟩ ?_;exact⟨hz,its',_,hv,q⟩
theorem aA.lnew{its:List LP}{t':Nat}(I:aA X pins σ H s)(hv:aR ys its)(hz:ys.length<=Mi):aA X pins σ (bI H ↑s (.lst ys)) {s with heap:=s.heap.push {cls:=.type "list",data:=.seq its.toArray},toks:=t'}:=I.laid (λ_ _ q=>MJ _ q) ↥8 ⟨hz,its,0,hv,Nl _ rfl⟩
theorem aA.fresh(I:aA X pins σ H s):H ↑s=none:=I.hok.fresh ↥8
theorem aA.lstM(I:aA X pins σ H s)(hH:H l=some (.lst xs)):xs.length<=Mi/\∃(its:List LP) (n:Nat),aR xs its/\xs.length=its.length/\s.heap.get? l=some {cls:=.type "list",data:=.seq its.toArray n}:=by obtain⟨z,its,n,r,e⟩:=I.hok l _ hH;exact⟨z,its,n,r,r.length,e⟩
theorem y9{n:Nat}(h:n<=Mi):QV n=false:=by unfold QV;exact decide_eq_false ↥0
end
section
variable{X:Cx}
def vX:V->List V->Hp->VK->Prop:=λx vs H Q=>∃l xs y,x=.ref l/\vs=[y]/\H l=some (.lst xs)/\xs.length<Mi/\Q .non (bI H l (.lst (xs++[y])))
theorem me:Ia X "list.append" vX:=by intro pins s σ H x vs v us Q I rx rv h;obtain⟨l,xs,y,rfl,rfl,hH,hz,q⟩:=h;cases rx;obtain⟨u,rfl,ru⟩:=rv.one;obtain⟨z,its,n,r,hl,e⟩:=I.lstM hH;refine OK F.slot_list_append ⟨_,e,rfl⟩ F.entry_list_append (F.args_list_append_2 _ _) (PySem.list_append l its.toArray n u (by rw[Mx];lia)) ⟨e,?_⟩;refine⟨.non,_,I.lset (its':=its++[u]) hH e ↥1 (r.append (.cons ru .nil)) ?_,rfl,q⟩;rw[MY,List.length_singleton];lia
def zQ:V->List V->Hp->VK->Prop:=λx vs H Q=>∃l xs i k y,x=.ref l/\vs=[.int i]/\H l=some (.lst xs)/\-(2^63)<=i/\i<2^63/\seqIndex? i xs.length=some k/\xs[k]?=some y/\Q y (bI H l (.lst (xs.eraseIdx k)))
theorem yY:Ia X "list.pop" zQ:=by
 intro pins s σ H x vs v us Q I rx rv h;obtain⟨l,xs,i,k,y,rfl,rfl,hH,h1,h2,hk,hy,q⟩:=h;cases rx;obtain⟨u,rfl,ru⟩:=rv.one;obtain⟨t,rfl⟩:=ru;obtain⟨z,its,n,r,hl,e⟩:=I.lstM hH;obtain⟨w,hw,rw'⟩:=r.get hy;refine OK F.slot_list_pop ⟨_,e,rfl⟩ F.entry_list_pop (F.args_list_pop_2 _ _) (MeetsSeq.list_pop_at l its.toArray n i t k w (fitsIndex_both h1 h2) (by rw[Mx,<-hl];exact hk) (by rw[<-Array.getElem?_toList];exact hw) (by rw[Mx];lia)) ⟨e,?_⟩;refine⟨y,_,I.lset (its':=its.eraseIdx k) hH e ?_ (r.eraseIdx k) ?_,rw',q⟩;·show its.toArray.eraseIdxIfInBounds k=(its.eraseIdx k).toArray;rw[List.eraseIdxIfInBounds_toArray]
 ·have:=p_ xs k;lia
def Eu:R2:=λx y H Q=>∃l b xs zs,x=.ref l/\y=.ref b/\H l=some (.lst xs)/\H b=some (.lst zs)/\xs.length+zs.length<=Mi/\∀p,H p=none->Q (.ref p) (bI H p (.lst (xs++zs)))
theorem D5:i5 X (Ng .Add) Eu:=by
 intro pins s σ H x y v u Q I rx ry h;obtain⟨l,b,xs,zs,rfl,rfl,hH,hB,hz,q⟩:=h;cases rx;cases ry;obtain⟨z,its,n,r,hl,e⟩:=I.lstM hH;obtain⟨z2,its2,n2,r2,hl2,e2⟩:=I.lstM hB;refine PySem.P.add_list e e2 ?_ (by rw[Mx,Mx];lia);have ea:its.toArray++its2.toArray=(its++its2).toArray:=by simp
 rw[ea];exact⟨.ref _,_,I.lnew (t':=s.toks) (r.append r2) (by rw[MY];lia),rfl,q _ I.fresh⟩
def Ey:R2:=λx y H Q=>∃l k xs,x=.ref l/\y=.int k/\H l=some (.lst xs)/\-(2^63)<=k/\k<2^63/\xs.length*k.toNat<=Mi/\∀p,H p=none->Q (.ref p) (bI H p (.lst (Mh k.toNat xs).flatten))
theorem A9{α:Type}(xs:List α)(k:Nat):(Mh k xs).flatten.length=k*xs.length:=by induction k with|zero=>simp|succ k ih=>rw[OJ,Qr,MY,ih,Nat.succ_mul,Nat.add_comm]
theorem D':i5 X (Ng .Mult) Ey:=by
 intro pins s σ H x y v u Q I rx ry h;obtain⟨l,k,xs,rfl,rfl,hH,h1,h2,hz,q⟩:=h;cases rx;obtain⟨t,rfl⟩:=ry;obtain⟨z,its,n,r,hl,e⟩:=I.lstM hH;have hlen:its.toArray.size*k.toNat<=Mi:=by rw[Mx,<-hl];exact hz
 have hcap:¬its.toArray.size*k.toNat>(2^63-1)/8:=by
  have:(Mi:Nat)<=(2^63-1)/8:=by decide
  lia
 have hfit:¬(!Builtin.List.listFitsIndex k)=true:=by rw[fitsIndex_both h1 h2];exact Oo
 have hlong:¬QV (its.toArray.size*k.toNat)=true:=by rw[y9 hlen];exact Oo
 have hnew:Pm (λx1 x2=>x1++x2) #[] (Mh (if its.toArray.isEmpty=true then 0 else k.toNat) its.toArray)=(Mh k.toNat its).flatten.toArray:=by
  have f0:∀m:Nat,Pm (λx1 x2=>x1++x2) #[] (Mh m its.toArray)=(Mh m its).flatten.toArray:=λm=>by have:=p5 its m [];rw[NR]at this;exact this
  rw[f0];cases its with|nil=>simp|cons a r'=>rw[if_neg ↥1]
 refine wpAny_binaryOp_repeat_ref (T:="list") (U:="int") ⋯ ⟨_,e,rfl⟩ (λs'=>PM s' k t) noFill_list_mul F.fills_int_mul Qs repeat_list F.slot_int_index.lookup (OK Qs (PM s k t) F.entry_int_rmul (F.args_int_rmul_2 _ _) (int___rmul___int_list k t l its.toArray n) ⟨e,rfl,⟨_,e,rfl⟩,OK F.slot_list_mul ⟨_,e,rfl⟩ F.entry_list_mul (F.args_list_mul_2 _ _) (AutoListH.list___mul___list_int_3 l its.toArray n k t hfit hcap hlong) ⟨e,?_⟩⟩);rw[hnew];exact⟨.ref _,_,I.lnew (t':=s.toks) (r.rep k.toNat) (by rw[A9,Nat.mul_comm];exact hz),rfl,q _ I.fresh⟩
end
section
variable{prog:Mc}{w:LV}{A:Md}{E:LP->LR->Prop}{s:LR}
end
section
variable{X:Cx}
end
end L2
namespace Att
open PySem PySem.W PySem.Calls PyProof.Rows
theorem nu{P:Params}{h:LZ}:∀(ns:List Int) (vs:List LP),WellAll P h vs (ns.map WData.int)->NF vs ns:=by intro ns;induction ns with|nil=>intro vs w;rw[MG]at w;cases w;exact .nil|cons n ns ih=>intro vs w;rw[Mp]at w;cases w with|cons a b=>cases a;exact .cons _ _ (ih _ b)
theorem xA{l:OpenLaw}{n:Nat}(hn:l.most=some n){P:Params}{h:LZ}{args:List WData}{vals:List LP}(hpre:l.row.toRowW.claim.pre args=true)(hwl:WellAll P h vals args):∃a vs ns,vals=[Value.ref a]/\args=[WData.list (ns.map WData.int)]/\h.get? a=some {cls:=.type "list",data:=.seq vs.toArray}/\NF vs ns/\ns.length<=n:=by
 have hsh:WShape.hasAll [] args [.list .int]=true:=(pre_splitW hpre).1;have hc:l.pre.holds [] {args:=args}=true:=(pre_splitW hpre).2;obtain⟨d,r,rfl,h1,h2⟩:=hasAllW_cons hsh;obtain rfl:=hasAllW_nil h2;obtain⟨xs,rfl,h3⟩:=hasW_list h1;obtain⟨ns,rfl⟩:=items_int h3;have hlen:ns.length<=n:=by
  unfold OpenLaw.pre at hc;have h4:(WTm.not (.lt (.lit (.int (n:Int))) (.len (.arg 0)))).holds [] {args:=[.list (ns.map .int)]}=true:=by have h4:=(holds_andW hc).1;rw[hn]at h4;exact h4
  have h5:=condW_of h4 (w_not (w_lt w_lit (w_len_list (w_arg rfl))));rw[Mn]at h5;refine Nat.le_of_not_lt λq=>?_;have q':(n:Int)<((ns.length:Nat):Int):=by lia
  first|(rw[decide_eq_true q']at h5;exact absurd h5 ⋯)|(simp at h5;lia)
 cases hwl with|cons w1 w2=>cases w2;cases w1 with|list ho hall=>exact⟨_,_,ns,rfl,rfl,ho,nu ns _ hall,hlen⟩
theorem xr(l:OpenLaw)(args:List WData):l.row.toRowW.claim.post args (.bool true) args=true:=postW_of (r:=l.row.toRowW) (X:=(true==true)) (show WShape.has [] (.bool true) .bool=true by first|rfl|decide|simp[WShape.has,WShape.arms,WShape.armsAll]) (show(WTm.eq .res (.lit (.bool true))).value [] {args:=args,res:=some (.bool true),after:=args}=some (.bool (true==true)) from w_eq_bool (w_res rfl) w_lit) rfl
theorem attach_call{l:OpenLaw}{n:Nat}{q:Mc}{loose:List Str}{XP:(Str->Option LP)->LZ->Prop}{YP:LV->LZ->Prop}{d:DefRec}(hn:l.most=some n)(hdf:d.params.defaults=[])(call:∀(w:LV) (s₀ s₁:LR) (mg mb:Str->Option LP) (fa:LQ) (o:Obj) (pm cd doc:LP) (a:LQ) (vs:List LP) (ns:List Int),Ground q loose [] XP w s₀ mg mb s₁.heap->YP w s₁.heap->s₁.heap.get? fa=some o->o.data=.func (docDef d.name d.params d.body d.scope pm cd doc)->s₁.heap.CodeRec cd d.name->mg d.name=some (.ref fa)->s₁.heap.get? a=some {cls:=.type "list",data:=.seq vs.toArray}->NF vs ns->ns.length<=n->s₁.gens=#[]->ND (LY l.prog w) callerA (.call (.ref fa) ⟨[.ref a],[]⟩) (λr s'=>r=.ok (.ret (.bool true))/\OldK s₁.heap s'.heap/\s'.os=s₁.os/\Od s'.gens) s₁):WalkO q loose XP YP l.row.toRowW d [] (λf vs=>PySem.call f vs):=by intro w s₀ s₁ mg mb G Y fa o pm cd doc dV kV ho hd hcd hD hmg hg args vals as hpre hlay hrd hwl hlo;obtain rfl:dV=.none:=Dflts.none hD hdf;obtain rfl:kV=.none:=Dflts.noKw hD;obtain⟨a,vs,ns,rfl,rfl,hobj,hints,hlen⟩:=xA hn hpre hwl;refine enter_call (PF (call w s₀ s₁ mg mb fa o pm cd doc a vs ns G Y ho (fd_plain hd) hcd hmg hobj hints hlen hg) λr s' hq=>?_);obtain⟨rfl,h2,h3,h4⟩:=hq;exact⟨.inl ⟨.bool true,.bool true,[],rfl,λ_=>rfl,.bool true,xr l _,λ_=>⟨List.Pairwise.nil,λ_ hm=>(nomatch hm)⟩⟩,h2,h3,h4⟩
section
variable{prog:Mc}{w:LV}{A:Md}{E:LP->LR->Prop}{s:LR}{K:Frag}
end
end Att
namespace L2
open PySem PySem.Spec PyProof.Rows
theorem jX:∀{vs:List LP}{ns:List Int},NF vs ns->aR (ns.map V.int) vs|_,_,.nil=>.nil|_,_,.cons n t h=>.cons ⟨t,rfl⟩ (jX h)
def Dl(H:Hp):Prop:=∀b,H b=none\/∃o xs,H b=some (.frz o (.lst xs))
theorem yR{P:Mc}{w:LV}{K:⇑0}{mg mb:Str->Option LP}{CX:pk}{k:Nat}{fa a:LQ}{fd:Mw}{x:Str}{sp:Sp}{s₁:LR}{vs:List LP}{ns:List Int}(KX:K.In s₁.heap)(hns:s₁.heap.Ns ME mg)(hb:s₁.heap.Ns builtinsNs mb)(hbb:∀x:Str,x≠"__name__"->mb x=NL x)(hlim:s₁.heap.NoLimit)(hg:s₁.gens=#[])(ha:s₁.heap.get? a=some {cls:=.type "list",data:=.seq vs.toArray})(hi:NF vs ns)(hl:ns.length<=Mi)(hr:bZ k callerA)(F:∀base:LZ,K.In base->base.Ns ME mg->a_ P w K mg base CX k fa fd [x] sp)(hbind:∀(s:LR) (u:LP),BindsTo s fd ⟨[u],[]⟩ [(x,u)])(hsp:∀H:Hp,Dl H->i6 K H a (ns.map V.int)->sp [.ref a] H (λv _=>v=.bl true) λ_ _ _=>False)(hCX:∀H e s',CX [] H s₁ (λ_ _ _=>False) e s'->False):ND (LY P w) callerA (.call (.ref fa) ⟨[.ref a],[]⟩) (λr s'=>r=.ok (.ret (.bool true))/\OldK s₁.heap s'.heap/\s'.os=s₁.os/\Od s'.gens) s₁:=by
 have rv:=jX hi;have lenV:=hi.length;have core:∀H:Hp,Dl H->i6 K H a (ns.map V.int)->ni P w H s₁.heap->(∀b,H b≠none->b=a)->(H a≠none->K.lookup a=none)->ND (LY P w) callerA (.call (.ref fa) ⟨[.ref a],[]⟩) (λr s'=>r=.ok (.ret (.bool true))/\OldK s₁.heap s'.heap/\s'.os=s₁.os/\Od s'.gens) s₁:=by
  intro H hO hS hok hA hK;have base_of:∀{b:LQ}{o:Obj},s₁.heap.get? b=some o->H b=none->(rg s₁.heap H).get? b=some o:=λe n=>yG e n;have noA:∀{b:LQ}{o:Obj}{es:Array DictEntry}{ep:Nat},s₁.heap.get? b=some o->o.data=.dict es ep->H b=none:=fun{b o es ep}e d=>by cases q:H b with|none=>rfl|some u=>have e':b=a:=hA b (by rw[q];simp);subst e';rw[ha]at e;cases e;have d':Data.seq vs.toArray _=Data.dict es ep:=d;cases d'
  have nsK:∀{b:LQ}{m:Str->Option LP},s₁.heap.Ns b m->(rg s₁.heap H).Ns b m:=fun{b m}⟨o,es,ep,e,d,r⟩=>⟨o,es,ep,base_of e (noA e d),d,r⟩;have hKb:K.In (rg s₁.heap H):=λb o e=>base_of (KX b o e) (by cases q:H b with|none=>rfl|some u=>have e':b=a:=hA b (by rw[q];simp);subst e';rw[hK (by rw[q];simp)]at e;cases e);have hM:Mod K mg (rg s₁.heap H):=⟨hKb,nsK hns,⟨mb,nsK hb,hbb⟩,let⟨mc,h1,h2⟩:=hlim;⟨mc,nsK h1,h2⟩⟩;have e0:Az P w K mg (rg s₁.heap H) callerA [] s₁ H:=⟨rfl,hM,λb o e=>Bd e,Nat.le_of_eq (wR _ _),trivial,λb hb=>absurd (show b∈([]:List LQ) from hb) ↥1,hok,.of_eq hg⟩;refine PF ((F _ hKb (nsK hns)).run callerA [] s₁ H ⟨[.ref a],[]⟩ [.ref a] [.ref a] _ _ hr e0 (hbind s₁ (.ref a)) (.cons rfl .nil) (hsp H hO hS)) λr s' h=>?_;cases r with|error e=>exact(hCX H e s' h).elim|ok fl=>cases fl with|next=>exact Nf h|brk=>exact Nf h|cont=>exact Nf h|ret u=>obtain⟨v,H',os,bare,un,hok',r',q⟩:=h;have q':v=.bl true:=q;subst q';obtain rfl:u=Value.bool true:=r';refine⟨rfl,OldK.of_keep λb o e=>?_,os,bare⟩;cases q:H b with|none=>exact un.keep b o e q (by intro z;exact absurd (show b∈([]:List LQ) from z) ↥1) ↥1|some u=>
   rcases hO b with z|⟨ob,xs,z⟩;·rw[q]at z;cases z
   ·have z2:=un.frzs b ob _ z;obtain⟨e1,_⟩:=hok b _ z;obtain⟨e2,_⟩:=hok' b _ z2;rw[e]at e1;cases e1;exact e2
 cases hk:K.lookup a with|some o=>have e:=KX a o hk;rw[ha]at e;cases e;refine core (λ_=>none) (λ_=>.inl rfl) (.inr ⟨_,vs.toArray,_,hk,rfl,rfl,rfl,by rw[Mx,lenV];exact hl,by simpa using rv⟩) (λb u z=>by have z':(none:Option HO)=some u:=z;cases z') (λb z=>absurd rfl z) λz=>absurd rfl z|none=>
  refine core (λb=>if b=a then some (.frz {cls:=.type "list",data:=.seq vs.toArray} (.lst (ns.map V.int))) else none) (λb=>?_) (.inl (.inr ⟨{cls:=.type "list",data:=.seq vs.toArray},if_pos rfl⟩)) (λb u z=>?_) (λb z=>?_) λ_=>hk
  ·by_cases hb:b=a;·exact .inr ⟨_,_,if_pos hb⟩
   ·exact .inl (if_neg hb)
  ·by_cases hb:b=a;·have z':=(if_pos hb).symm.trans z;cases z';subst hb;exact⟨ha,by rw[Mn];exact hl,vs,_,rv,ha⟩
   ·have z':=(if_neg hb).symm.trans z;cases z'
  ·by_cases hb:b=a;·exact hb
   ·exact absurd (if_neg hb) z
theorem walk_of{l:PySem.W.OpenLaw}{n k:Nat}{q:Mc}{loose:List Str}{XP:(Str->Option LP)->LZ->Prop}{YP:LV->LZ->Prop}{d:DefRec}{K:Params->⇑0}{CX:LV->pk}{sp:LV->Sp}{x:Str}(hn:l.most=some n)(hn2:n<=Mi)(hdf:d.params.defaults=[])(hr:bZ k callerA)(hY:∀(w:LV) (h:LZ),YP w h->(K w.params).In h)(F:∀(w:LV) (mg:Str->Option LP) (fa:LQ) (h:LZ),(K w.params).In h->h.Ns ME mg->mg d.name=some (.ref fa)->∃fd:Mw,(∀(s:LR) (u:LP),BindsTo s fd ⟨[u],[]⟩ [(x,u)])/\∀base:LZ,(K w.params).In base->base.Ns ME mg->a_ l.prog w (K w.params) mg base (CX w) k fa fd [x] (sp w))(hsp:∀(w:LV) (H:Hp) (a:LQ) (ns:List Int),ns.length<=n->Dl H->i6 (K w.params) H a (ns.map V.int)->sp w [.ref a] H (λv _=>v=.bl true) λ_ _ _=>False)(hCX:∀(w:LV) (H:Hp) (s:LR) (e:LP) (s':LR),CX w [] H s (λ_ _ _=>False) e s'->False):PySem.W.WalkO q loose XP YP l.row.toRowW d [] (λf vs=>PySem.call f vs):=by refine Att.attach_call hn hdf λw s₀ s₁ mg mb fa o pm cd doc a vs ns G Y ho hd hcd hmg hobj hints hlen hg=>?_;have KX:=hY w _ Y;obtain⟨fd,hb,hF⟩:=F w mg fa _ KX G.T.g hmg;exact yR KX G.T.g G.T.b G.T.builtins G.T.nolimit hg hobj hints (Mv hlen hn2) hr hF hb (λH hO hS=>hsp w H a ns hlen hO hS) λH e s'=>hCX w H s₁ e s'
abbrev eW:pk:=λ_ _ _ _ _ _=>False
abbrev E0:XK:=λ_ _ _=>False
theorem CT{X:Cx}:uo eW X E0:=λ_ _ _ _ _ _ _ h=>h.elim
structure Cq (K:⇑0) (x qual:Str) (st:Me) (f:LQ) (fd:Mw):Prop where
 ex:∃(oc:LP) (od:Option LQ) (kV doc pm:LP) (an:Option LQ) (cdv ct:LP) (osl:Array (Option LP)),fd=NJ x qual (dD st) (b_ st) (ao st) .none kV doc pm an cdv ct/\K.lookup f=some ⟨oc,od,.func fd,osl⟩/\PK K cdv qual=true
 kp:OI K (.ref f)=true
section
variable{P:Mc}{w:LV}{K:⇑0}{mg:Str->Option LP}{base:LZ}
theorem Cq.ok{x qual:Str}{st:Me}{f:LQ}{fd:Mw}{N ps:List Str}{k:Nat}{sp:Sp}(F:Cq K x qual st f fd)(S:aw N ps (ao st))(len:∀vs H Q E,sp vs H Q E->vs.length=ps.length)(hbody:∀(cdv:LP) (A:Md) (outer:List Env) (s:LR) (H:Hp) (vs:List V) (Q:VK) (E:XK),bZ k (A.deeper (Mt qual (ao st) ↑s f cdv))->sp vs H Q E->∃t,ky (dR eW P w K mg base N qual (ao st) f cdv A outer s H E).nox (b_ st) t/\t {nx:=λ_ H'=>Q .non H',rt:=Q} (dM N vs) H):a_ P w K mg base eW (k+1) f fd ps sp:=by obtain⟨oc,od,kV,doc,pm,an,cdv,ct,osl,rfl,lk,hcd⟩:=F.ex;refine CB lk hcd S len λA outer s H vs Q E hr hsp=>?_;obtain⟨t,h,q⟩:=hbody cdv A outer s H vs Q E hr hsp;exact⟨t,h.nox,q⟩
theorem Cq.binds{x qual:Str}{st:Me}{f:LQ}{fd:Mw}{ps:List Str}(F:Cq K x qual st f fd)(h:∀(kV doc pm:LP) (an:Option LQ) (cdv ct:LP) (us:List LP),us.length=ps.length->bindArgs (NJ x qual (dD st) (b_ st) (ao st) .none kV doc pm an cdv ct) ⟨us,[]⟩=pure (ps.zip us)):nR K fd ps []:=by obtain⟨oc,od,kV,doc,pm,an,cdv,ct,osl,rfl,lk,hcd⟩:=F.ex;exact .all (h kV doc pm an cdv ct)
theorem yt{x qual:Str}{st:Me}{f:LQ}{oc:LP}{od an:Option LQ}{osl:Array (Option LP)}{kV doc pm cdv ct:LP}(l:K.lookup f=some ⟨oc,od,.func (NJ x qual (dD st) (b_ st) (ao st) .none kV doc pm an cdv ct),osl⟩)(c:PK K cdv qual=true)(k:OI K (.ref f)=true):Cq K x qual st f (NJ x qual (dD st) (b_ st) (ao st) .none kV doc pm an cdv ct):=⟨⟨oc,od,kV,doc,pm,an,cdv,ct,osl,rfl,l,c⟩,k⟩
end
theorem qq{n:Nat}(h:n<=1000):n<Mi:=Qt h ⋯
section
variable{X:Cx}
theorem pv(i:Nat){x:Str}{pos:Pos}(hN:X.N[i]?=some x:=by rfl)(hv:E1 X.env.scope x:=by first|exact Or.inl rfl|exact Or.inr ↥3|exact Or.inr (Or.inr rfl))(hd:(x==("__debug__":Str))=false:=by decide)(hcd:(x==("__classdict__":Str))=false:=by decide):PE X (.Name x pos) (xG i):=uW hN hv hd hcd
end
theorem wX{A B:Prop}(h:B):if false=true then A else B:=by rw[if_neg Oo];exact h
theorem wY{A B:Prop}(h:A):if true=true then A else B:=by rw[if_pos rfl];exact h
def av(H H':Hp):Prop:=∀b o,H b=some o->H' b=some o
theorem av.refl(H:Hp):av H H:=λ_ _ h=>h
theorem av.trans{H H1 H2:Hp}(a:av H H1)(b:av H1 H2):av H H2:=λc o h=>b c o (a c o h)
theorem av.free{H H':Hp}(e:av H H'){l:LQ}(h:H' l=Option.none):H l=Option.none:=by cases q:H l with|none=>rfl|some o=>rw[e l o q]at h;cases h
theorem av.seq{K:⇑0}{H H':Hp}{a:LQ}{xs:List V}(e:av H H')(h:i6 K H a xs):i6 K H' a xs:=by
 rcases h with (h|⟨o,h⟩)|h;·exact .inl (.inl (e _ _ h))
 ·exact .inl (.inr ⟨o,e _ _ h⟩)
 ·exact .inr h
end L2
set_option maxHeartbeats 4000000
namespace L2
open PySem PySem.Spec PyProof.Rows
def Bt(n:Nat)(i:Int):Prop:=i.natAbs<2^n
theorem Bt.mono{m n:Nat}{i:Int}(h:Bt m i)(hm:m<=n):Bt n i:=MW h (PP ⋯ hm)
theorem Bt.mul{m n:Nat}{i j:Int}(h:Bt m i)(h':Bt n j):Bt (m+n) (i*j):=by unfold Bt at*;rw[Int.natAbs_mul,Nat.pow_add];exact Nat.mul_lt_mul'' h h'
theorem Bt.log{m:Nat}{i:Int}(h:Bt m i)(hm:0<m):i.natAbs.log2<m:=by
 unfold Bt at h;rcases NS i.natAbs with h0|hp;·rw[h0];exact hm
 ·exact(Nat.log2_lt ↥0).mpr h
theorem Bt.bits{m:Nat}{i:Int}(h:Bt m i)(hm:0<m):Builtin.Int.intBits i<=m:=by
 unfold Builtin.Int.intBits;split;·exact Np _
 ·exact h.log hm
theorem Bt.of_le{m:Nat}{i:Int}{j:Int}(h:Bt m j)(e:i.natAbs<=j.natAbs):Bt m i:=Qt e h
section
variable{X:Cx}
def Ck(i j:Int):Prop:=Bt 4000 i/\Bt 4000 j
theorem Bs:i5 X (Ng .Mult) (rI Ck λi j=>.int (i*j)):=Gb λ_ _ _ _ _ _ _ hc q=>mul_int q (.of_bits (Mv (hc.1.bits ⋯) ⋯) (Mv (hc.2.bits ⋯) ⋯))
def Cj(i j:Int):Prop:=j≠0/\Bt 8000 j
theorem zl:i5 X (Ng .FloorDiv) (rI Cj λi j=>.int (i.fdiv j)):=Gb λ_ _ _ _ _ _ _ hc q=>floordiv_int hc.1 q (.inl (PyProof.noPylong_of_log2 (Nat.lt_trans (hc.2.log ⋯) ⋯)))
end
def mB(H H':Hp):Prop:=∀a o,H a=some o->(∀xs,o≠.lst xs)->(∀ob xs,o≠.frz ob (.lst xs))->H' a=some o
theorem mB.trans{H H1 H2:Hp}(a:mB H H1)(b:mB H1 H2):mB H H2:=λc o h n m=>b c o (a c o h n m) n m
theorem av.ts{H H':Hp}(h:av H H'):mB H H':=λa o e _ _=>h a o e
theorem mB.tup{K:⇑0}{H H':Hp}(h:mB H H'){a:LQ}{xs:List V}(q:dO K H a xs):dO K H' a xs:=by
 rcases q with (q|⟨o,q⟩)|q;·exact .inl (.inl (h _ _ q (λ_ e=>nomatch e) (λ_ _ e=>nomatch e)))
 ·exact .inl (.inr ⟨o,h _ _ q (λ_ e=>nomatch e) (λ_ _ e=>nomatch e)⟩)
 ·exact .inr q
section
variable{X:Cx}
end
structure eQ (K:⇑0) (mg:Str->Option LP) (x:Str) (st:Me) (f:LQ) (fd:Mw) (ps:List Str):Prop where
 F:Cq K x x st f fd
 m:mg x=some (.ref f)b:nR K fd ps []
theorem Dz{K:⇑0}{mg:Str->Option LP}{h:LZ}{x:Str}{st:Me}{f:LQ}{ps:List Str}{oc:LP}{od an:Option LQ}{osl:Array (Option LP)}{kV doc pm cdv ct:LP}(X:K.In h)(G:h.Ns ME mg)(a:NG K ME x=some (some (.ref f)))(l:K.lookup f=some ⟨oc,od,.func (NJ x x (dD st) (b_ st) (ao st) .none kV doc pm an cdv ct),osl⟩)(c:PK K cdv x=true)(k:OI K (.ref f)=true)(hb:∀(kV doc pm:LP) (an:Option LQ) (cdv ct:LP) (us:List LP),us.length=ps.length->bindArgs (NJ x x (dD st) (b_ st) (ao st) .none kV doc pm an cdv ct) ⟨us,[]⟩=pure (ps.zip us)):eQ K mg x st f (NJ x x (dD st) (b_ st) (ao st) .none kV doc pm an cdv ct) ps:=⟨yt l c k,NZ X G a,(yt l c k).binds hb⟩
theorem HF{X:Cx}{x:Str}{st:Me}{f:LQ}{fd:Mw}{ps:List Str}{k:Nat}{sp:Sp}{e:LU}{es:List LU}{t:TA}{p pos:Pos}(h:eQ X.K X.mg x st f fd ps)(G:a_ X.prog X.w X.K X.mg X.base eW k f fd ps sp)(hr:bZ k X.A)(ha:PA X (e::es) t)(hg:Gl X x:=by rfl)(hdb:(x==("__debug__":Str))=false:=by decide)(he:Mf (e::es) X.env=(false,Ml e X.env)::Mf es X.env:=by rfl)(hpl:(MF pos (Mf es X.env)).any (·.1)=false:=by rfl):PE X (.Call (.Name x p) (e::es) [] pos) (wj sp [] E0 t):=vS G hr hg h.m h.F.kp h.b .nil CT ha hdb he hpl
theorem av.new{H:Hp}{p:LQ}{o:HO}(h:H p=none):av H (bI H p o):=λb u e=>by rw[aJ (dX e h)];exact e
theorem av.tup{K:⇑0}{H H':Hp}{a:LQ}{xs:List V}(e:av H H')(h:dO K H a xs):dO K H' a xs:=e.ts.tup h
def lowM(t b:Int):Int×Int:=if b<0 then(t.fdiv (-(Mm t b:Int)),b.fdiv (-(Mm t b:Int))) else(t.fdiv (Mm t b:Int),b.fdiv (Mm t b:Int))
theorem sV(x y:Int):Mm y (x.fmod y)=Mm x y:=by rw[Int.fmod_def,Int.gcd_sub_mul_left_right,Int.gcd_comm]
theorem gg(x:Int){y:Int}(h:y≠0):(x.fmod y).natAbs<y.natAbs:=by
 rcases Int.lt_or_gt_of_ne h with h|h
 ·have h1:x.fmod y=-((-x).fmod (-y)):=by have:=Int.neg_fmod_neg x y;lia
  have h2:=Int.fmod_nonneg_of_pos (-x) (b:=-y) ↥0;have h3:=Int.fmod_lt_of_pos (-x) (b:=-y) ↥0;lia
 ·have h2:=Int.fmod_nonneg_of_pos x h;have h3:=Int.fmod_lt_of_pos x h;lia
theorem rc{t b:Int}(h:b≠0):(0:Int)<Mm t b:=by have:=Int.gcd_pos_of_ne_zero_right t h;lia
theorem jO{t b:Int}(h:b≠0):∃d:Int,d.natAbs=Mm t b/\d≠0/\(lowM t b).1*d=t/\(lowM t b).2*d=b/\0<(lowM t b).2:=by
 have hg:=rc (t:=t) h;have d1:(Mm t b:Int)∣t:=Int.gcd_dvd_left ..;have d2:(Mm t b:Int)∣b:=Int.gcd_dvd_right ..;unfold lowM;split
 ·rename_i hb;have e1:t.fdiv (-(Mm t b:Int))*(-(Mm t b:Int))=t:=Qu (Int.neg_dvd.mpr d1);have e2:b.fdiv (-(Mm t b:Int))*(-(Mm t b:Int))=b:=Qu (Int.neg_dvd.mpr d2);refine⟨-(Mm t b:Int),by lia,by lia,e1,e2,?_⟩;show 0<b.fdiv (-(Mm t b:Int));have h3:b.fdiv (-(Mm t b:Int))*(Mm t b:Int)=-b:=by rw[Int.mul_neg]at e2;lia
  exact Int.pos_of_mul_pos_left ↥0 ↥0 (b:=(Mm t b:Int))
 ·rename_i hb;have e1:t.fdiv (Mm t b:Int)*(Mm t b:Int)=t:=Qu d1;have e2:b.fdiv (Mm t b:Int)*(Mm t b:Int)=b:=Qu d2;refine⟨(Mm t b:Int),by lia,by lia,e1,e2,?_⟩;show 0<b.fdiv (Mm t b:Int);exact Int.pos_of_mul_pos_left ↥0 ↥0 (b:=(Mm t b:Int))
theorem tf{t b:Int}(h:b≠0):Mm (lowM t b).1 (lowM t b).2=1:=by
 obtain⟨d,h1,h2,h3,h4,h5⟩:=jO (t:=t) h;have e:Mm ((lowM t b).1*d) ((lowM t b).2*d)=Mm (lowM t b).1 (lowM t b).2*d.natAbs:=Int.gcd_mul_right ..;rw[h3,h4,<-h1]at e;have hd:0<d.natAbs:=by lia
 exact(Nat.eq_of_mul_eq_mul_right hd (by rw[Nat.one_mul];exact e)).symm
theorem yD{t b:Int}(h:b≠0){n:Nat}(hb:Bt n b):Bt n (Mm t b:Int):=by refine hb.of_le ?_;have h1:=Nat.le_of_dvd (show 0<b.natAbs by lia) (Int.ofNat_dvd.mp (by rw[Int.dvd_natAbs];exact Int.gcd_dvd_right t b));lia
mutual
def cnt:LS->Nat|.tuple ds=>1+j_ ds|.str _=>0|_=>1
def j_:List LS->Nat|[]=>0|d::ds=>cnt d+j_ ds
end
mutual
def oC:LS->Bool|.tuple ds=>g_ ds|.str _=>false|.list _=>false|.dict _=>false|_=>true
def g_:List LS->Bool|[]=>true|d::ds=>oC d&&g_ ds
end
theorem pF{a:Int}(h:a.natAbs.log2<1920):(Nv (toString a)).length<=1921:=by have e:=int_text_length_le (k:=1920) ⋯ h;rw[PySem.ofString_length];lia
theorem oK(x:Str)(r:List Str):piled (x::r)=x.length+2+piled r:=by simp[piled]
theorem qy(ts:List Str):(tupleText ts).length<=piled ts+3:=by
 unfold tupleText;rw[strLen_append,strLen_append];have h1:(("(":Str)).length=1:=by decide
 have h2:(Nv (if (ts.length==1)=true then",)"else")")).length<=2:=by split<;>decide
 have h3:(Str.join ", " ts).length<=piled ts:=by cases ts with|nil=>show(Str.join ", " []).length<=0;decide|cons x r=>have:=join_length_add (x::r) ↥1;lia
 lia
mutual
theorem qp:∀{d:LS},oC d=true->d.showable=true->d.shown.length+2<=2000*cnt d
 |.none,_,_=>by show(Nv "None").length+2<=2000*1;decide|.bool b,_,_=>by
  cases b;·show(Nv "False").length+2<=2000*1;decide
  ·show(Nv "True").length+2<=2000*1;decide|.int i,_,hs=>by simp only[PyData.showable,decide_eq_true_eq]at hs;have:=pF hs;show(Nv (toString i)).length+2<=2000*1;lia|.tuple ds,hn,hs=>by simp only[PyData.showable]at hs;simp only[oC]at hn;have h1:=lP hn hs;have h2:=qy (Of ds);simp only[PyData.shown,cnt];lia|.str _,hn,_=>by simp[oC]at hn|.list _,hn,_=>by simp[oC]at hn|.dict _,hn,_=>by simp[oC]at hn
theorem lP:∀{ds:List LS},g_ ds=true->Pn ds=true->piled (Of ds)<=2000*j_ ds|[],_,_=>by simp[Of,piled]|d::ds,hn,hs=>by simp only[g_,MC]at hn;simp only[Pn,MC]at hs;have h1:=qp hn.1 hs.1;have h2:=lP hn.2 hs.2;simp only[Of,j_,oK];lia
end
def gT(env:Env):List (Str×Nn)->List (Str×LQ)->List (Str×LQ)|[],cs=>cs|(n,k)::r,cs=>gT env r (if k==.free then(n,(env.cells.lookup n).getD 0)::cs else cs)
theorem kJ{env:Env}:∀(names:List (Str×Nn)) (cs:List (Str×LQ)),(∀y∈names,y.2=.free->∃c,env.cells.lookup y.1=some c)->(forIn names cs (fun(x:Str×Nn) (r:List (Str×LQ))=>(if (x.2==Nw)=true then do let a<-cellOf env x.1;pure (OA ((x.1,a)::r)) else pure (OA r):Sem (ForInStep (List (Str×LQ))))):Sem (List (Str×LQ)))=pure (gT env names cs)
 |[],cs,_=>rfl|(n,k)::r,cs,h=>by
  rw[List.forIn_cons];have ih:=λcs'=>kJ (env:=env) r cs' (λy hy=>h y (Nt _ hy));by_cases hk:(k==Nw)=true
  ·have hk':k=.free:=by simpa using hk
   obtain⟨c,hc⟩:=h (n,k) Oy hk';have e:cellOf env n=pure c:=by unfold cellOf;rw[hc]
   simp only[hk,if_true,e,pure_bind,gT,hc,Og];exact ih _
  ·have hk':(k==Nw)=false:=by simpa using hk
   simp only[hk',PQ,if_false,pure_bind,gT];exact ih _
theorem n5{scope:Mr}{env:Env}(h:∀y∈scope.names,y.2=.free->∃c,env.cells.lookup y.1=some c):closureFor scope env=pure (gT env scope.names []):=by have e:=kJ (env:=env) scope.names [] h;unfold closureFor;simp only[pure_bind,bind_pure]at e⊢;exact e
theorem nZ{env:Env}:∀(names:List (Str×Nn)) (cs:List (Str×LQ)) (x:Str) (c:LQ),(∀y∈names,y.2=.free->∃c,env.cells.lookup y.1=some c)->(∀x c,cs.lookup x=some c->env.cells.lookup x=some c)->(gT env names cs).lookup x=some c->env.cells.lookup x=some c
 |[],cs,x,c,_,hs,h=>hs x c h|(n,k)::r,cs,x,c,hn,hs,h=>by
  refine nZ r _ x c (λy hy=>hn y (Nt _ hy)) (λx' c' e=>?_) h;by_cases hk:(k==Nw)=true
  ·rw[if_pos hk]at e;obtain⟨c0,hc⟩:=hn (n,k) Oy (by simpa using hk)
   rw[Oh]at e;cases hx:x'==n with|true=>
    rw[hx]at e;have e1:x'=n:=by simpa using hx
    subst e1;simp only[hc,Og,OQ]at e;rw[<-e];exact hc|false=>rw[hx]at e;exact hs x' c' e
  ·rw[if_neg hk]at e;exact hs x' c' e
theorem sI{env:Env}:∀(names:List (Str×Nn)) (cs:List (Str×LQ)) (x:Str),((∃y∈names,y.1=x/\y.2=.free)\/∃c,cs.lookup x=some c)->∃c,(gT env names cs).lookup x=some c
 |[],cs,x,h=>by
  rcases h with⟨y,hy,_⟩|h;·cases hy
  ·exact h|(n,k)::r,cs,x,h=>by
  refine sI r _ x ?_;by_cases hk:(k==Nw)=true;·rw[if_pos hk,Oh];cases hx:x==n with|true=>exact .inr ⟨_,rfl⟩|false=>
   rcases h with⟨y,hy,e1,e2⟩|h
   ·rcases LN hy with z|z;·subst z;subst e1;simp at hx
    ·exact .inl ⟨y,z,e1,e2⟩
   ·exact .inr h
  ·rw[if_neg hk];rcases h with⟨y,hy,e1,e2⟩|h
   ·rcases LN hy with z|z;·subst z;exact absurd (by simpa using e2) hk
    ·exact .inl ⟨y,z,e1,e2⟩
   ·exact .inr h
theorem iZ{env:Env}:∀{names:List (Str×Nn)}{x:Str},names.lookup x=some .free->(names.map fun(n,k)=>if (k==Nw&&env.scope.kind==.function&&env.kindOf n==some .cell) then(n,OZ) else(n,k)).lookup x≠some .local|[],x,h=>by simp at h|(n,k)::r,x,h=>by rw[Mp];cases hx:x==n with|true=>simp only[hx,Oh]at h;cases h;show Oq x ((if (Nw==Nw&&env.scope.kind==.function&&env.kindOf n==some .cell)=true then(n,OZ) else(n,Nw))::_)≠_;split<;>simp[Oh,hx]|false=>
 simp only[hx,Oh]at h;have ih:=@iZ env r x h;have e2:∀(l:List (Str×Nn)),((if (k==Nw&&env.scope.kind==.function&&env.kindOf n==some .cell)=true then(n,OZ) else(n,k))::l).lookup x=l.lookup x:=λl=>by split<;>simp[Oh,hx]
 simp only[e2];exact ih
def sr(X:Cx)(ifs:List LU)(t:TT):Prop:=∀(pins:List (LQ×Obj)) (s:LR) (σ:L2.St) (H:Hp) (Q:Bool->Hp->Prop),aA X pins σ H s->t σ H Q->Ma (LY X.prog X.w) X.A (forIn ifs true λc r=>if r=true then do let ok<-isTrue c X.env (Ml c X.env);pure (OA ok) else pure (OA r)) (TP X pins σ Q) X.xe s
theorem BK{X:Cx}:sr X [] (λ_ H Q=>Q true H):=λ_ _ _ H _ I h=>wpAny_tests_nil ⟨H,I,h⟩
theorem BL{X:Cx}{c:LU}{t:TT}(h:PT X c t):sr X [c] t:=λpins s σ H Q I q=>wpAny_tests_one (h pins s σ H Q I q)
abbrev vQ:LP->LR->Prop:=λ_ _=>False
def yi(prog:Mc)(w:LV)(A:Md)(elt tg:LU)(ifs:List LU)(env:Env)(it acc:LP)(onward:LR->Prop)(v:LP)(u:LR):Prop:=Ma (LY prog w) A (OU tg it v) (λ_ u1=>Ma (LY prog w) A (assign tg env v) (λ_ u2=>Ma (LY prog w) A (forIn ifs true λc r=>if r=true then do let ok<-isTrue c env (Ml c env);pure (OA ok) else pure (OA r)) (λok u3=>if ok=true then Ma (LY prog w) A (Ml elt env) (λx u4=>Ma (LY prog w) A (call (.builtin "list.append") [acc,x]) (λ_ u5=>onward u5) vQ u4) vQ u3 else onward u3) vQ u2) vQ u1) vQ u
theorem qQ{prog:Mc}{w:LV}{A:Md}{R:Result->LR->Prop}{elt tg iter:LU}{ifs:List LU}{scope:Mr}{pos:Pos}{it acc:LP}{env:Env}(J:Nat->LR->Prop)(turn:∀n u,J n u->Ma (LY prog w) A (pyNext it) (λr u1=>(r=none->R (.ok .next) u1)/\∀v,r=some v->yi prog w A elt tg ifs env it acc (λu2=>∃m,m<n/\J m u2) v u1) vQ u){n0:Nat}{u0:LR}(dM:J n0 u0):ND (LY prog w) A (.compLoop (.ListComp elt [⟨tg,iter,ifs,0⟩] scope pos) 0 it acc env) R u0:=by refine codeAny_loop rfl J (λn u ju=>?_) n0 dM;show Ma _ A ((compTurn (.ListComp elt [⟨tg,iter,ifs,0⟩] scope pos) 0 it acc env).onRaise _) _ _ u;refine wpAny_noted ?_;rw[compTurn_list];refine Mb (OS (Mb (Ms (turn n u ju) (λr u1 k1=>?_) λ_ _ z=>z.elim)));cases r with|none=>exact Mj (k1.1 rfl)|some v=>refine Mb (Ms (k1.2 v rfl) (λ_ u2 k2=>Mb (Ms k2 (λ_ u3 k3=>Mb (Ms k3 (λok u4 k4=>?_) λ_ _ z=>z.elim)) λ_ _ z=>z.elim)) λ_ _ z=>z.elim);cases ok with|false=>rw[if_neg Oo]at k4;exact Mj ⟨rfl,k4⟩|true=>rw[if_pos rfl]at k4;refine Mb (Mb (Ms k4 (λx u5 k5=>Mb (Ms k5 (λ_ u6 k6=>?_) λ_ _ z=>z.elim)) λ_ _ z=>z.elim));exact Mj (Mj ⟨rfl,k6⟩)
def e_(cp:List (Nat×Str))(nT:Nat)(σ:L2.St):L2.St:=cp.map (λp=>(σ[p.1]?).join)++Mh nT none
structure Ac (cp:List (Nat×Str)) (nT:Nat) (wi:TI) (g:TG) (tc:TT) (te:TE) (σ:L2.St) (H:Hp) (Q:VK):Prop where go:wi σ H λJ H1=>∀l,H1 l=none->∃W:Nat->Nat->L2.St->Hp->Prop,(∃m,W 0 m (e_ cp nT σ) (bI H1 l (.lst [])))/\∀i m σ' H',W i m σ' H'->(J.stop i H'/\Q (.ref l) H')\/(J.go i H'/\∃N:L2.St->Hp->Prop,(∀σ2 H2,N σ2 H2->∃m',m'<m/\W (i+1) m' σ2 H2)/\∀x H2,J.yld i H' x H2->g x σ' H2 λσ2 H3=>tc σ2 H3 λb H4=>if b=true then te σ2 H4 λv H5=>∃ys,H5 l=some (.lst ys)/\ys.length<Mi/\N σ2 (bI H5 l (.lst (ys++[v]))) else N σ2 H4)
section
variable{X:Cx}
def zP(K:⇑0):R2:=λx y H Q=>∃a b xs ys,x=.ref a/\y=.ref b/\dO K H a xs/\dO K H b ys/\xs.length+ys.length<=Mi/\∀p H',av H H'->dO K H' p (xs++ys)->Q (.ref p) H'
theorem Bn:i5 X (Ng .Add) (zP X.K):=by
 intro pins s σ H x y v u Q I rx ry h;obtain⟨a,b,xs,ys,rfl,rfl,ha,hb,hz,q⟩:=h;cases rx;cases ry;by_cases hx:xs=[]
 ·obtain⟨i1,r1,p1,_⟩:=I.tuple ha;obtain⟨i2,r2,p2,_⟩:=I.tuple hb;obtain⟨m,F⟩:=I.fr;have e1:i1=[]:=by subst hx;cases r1;rfl
  refine add_tuples F (y6 (g:=X.base)) p1 p2 (λ_=>?_) (λz1 _=>absurd e1 z1) (λz1 _ _ _ _=>absurd e1 z1) (by rw[<-r1.length,<-r2.length];exact hz);exact⟨.ref b,H,I,rfl,q b H (av.refl H) (by rw[hx];exact hb)⟩
 ·exact Bo pins s σ H (.ref a) (.ref b) _ _ Q I rfl rfl ⟨a,b,xs,ys,rfl,rfl,ha,hb,hx,hz,λz=>q a H (av.refl H) (by rw[z,Mu];exact ha),λ_ p hp=>q p _ (av.new hp) (dO.of aC)⟩
theorem oI{x:V}{us:List LP}(r:aR [x] us):∃u,us=[u]/\bu x u:=by cases r with|cons p p'=>cases p';exact⟨_,rfl,p⟩
theorem mG{prog:Mc}{w:LV}{A:Md}{E:LP->LR->Prop}{s:LR}{t:LQ}{vs:List LP}{Q:List LP->LR->Prop}(ht:IsTup s.heap t vs.toArray)(h:Q vs {s with heap:=(s.heap.push (Mo "list" #[] 0)).update ↑s (MK (·++vs.toArray))})(hsz:vs.length<=Mi):Ma (LY prog w) A (collect (.ref t)) Q E s:=by obtain⟨o,ho,hc,n,hd⟩:=id ht;unfold collect;refine Mb (wpAny_runValue (PR entry_proto_collect' ?_));show Ma _ _ (do again (.builtin "list.__iadd__" ⟨[<-newList [],.ref t],[]⟩)) _ _ s;refine Mb (PU (Mj ⟨QW _ ↥2,?_⟩));refine PR entry_list_iadd' ?_;show Ma _ _ (Qv (.ref ↑s) (.ref t) (.ref ↑s)) _ _ {s with heap:=s.heap.push (Mo "list" #[] 0)};unfold Qv;have ho':(s.heap.push (Mo "list" #[] 0)).get? t=some o:=MJ _ ho;refine Mb (PL (T:="tuple") ⟨o,ho',hc⟩ ?_);rw[if_pos (by rw[show(PB "tuple"==PB "tuple")=true from rfl,Bool.or_true])];refine Mb (PV ho' hd ?_);refine Mb (PV (xs:=#[]) (n:=0) (Nl _ rfl) rfl ?_);rw[if_neg ↥1];refine Mb (PX (xs:=#[]) (n:=0) (Nl _ rfl) rfl ?_ (Np _) (by show(#[]++vs.toArray).size<=Mi+1;simp only[Array.size_append,Mx,List.length_nil];lia));refine Mj ?_;show Ma (LY prog w) A (load ↑s>>=λo=>match o.data with|.seq xs _=>pure xs.toList|_=>unsupported "internal:collect") Q E {s with heap:=(s.heap.push (Mo "list" #[] 0)).update ↑s (MK (·++vs.toArray))};refine Mb (wpAny_load (get?_update_seq (Nl _ rfl) _) ?_);show Ma _ _ (pure ((#[]:Array LP)++vs.toArray).toList) Q E _;rw[show((#[]:Array LP)++vs.toArray).toList=vs by simp];exact Mj h
theorem u_{prog:Mc}{w:LV}{A:Md}{E:LP->LR->Prop}{s:LR}{t:LQ}{vs:List LP}{ns:List Int}{Q:LP->LR->Prop}(ht:IsTup s.heap t vs.toArray)(hI:NF vs ns)(h64:vs.length<64)(h:∀(out:Array LP) (ns':List Int),NF out.toList ns'->ns'.Perm ns->ns'.Pairwise (·<=·)->Q (.ref (↑s+1)) {s with heap:=sortedAll s.heap vs out}):Ma (LY prog w) A (call (.builtin "sorted") [.ref t]) Q E s:=by
 refine Calls.call_function_entry kind_sorted plain_sorted entry_sorted (args_sorted1 _) ?_;unfold NH.«sorted»;refine Mb (m:=checkCount "sorted" 1 1 _) (Mj ?_);refine Mb (mG ht ?_ (Mv (Ox h64) ⋯));have z:((s.heap.push (Mo "list" #[] 0)).update ↑s (MK (·++vs.toArray))).objs.size=↑s+1:=by rw[Qw,size_push']
 have o:(((s.heap.push (Mo "list" #[] 0)).update ↑s (MK (·++vs.toArray))).push (Mo "list" vs.toArray 0)).get? (↑s+1)=some (Mo "list" vs.toArray 0):=by rw[<-z];exact Nl _ rfl
 refine Mb (PU ?_);show Ma _ _ _ _ _ {s with heap:=((s.heap.push (Mo "list" #[] 0)).update ↑s (MK (·++vs.toArray))).push (Mo "list" vs.toArray 0)};rw[z];refine Mb (Pk (Qq slot_list_sort ⟨_,o,rfl⟩ entry_list_sort (list_sort_tree o hI h64 λout ns' b1 b2 b3=>⟨_,rfl,?_⟩) (args_list_sort _)));exact Mj ⟨_,rfl,h out ns' b1 b2 b3⟩
theorem sD:cJ X (.builtin "sorted") (λxs H Q=>∃(a:LQ) (ns:List Int),xs=[.ref a]/\dO X.K H a (ns.map V.int)/\ns.length<64/\∀(l:LQ) (ns':List Int) (H':Hp),av H H'->H l=none->H' l=some (.lst (ns'.map V.int))->ns'.Perm ns->ns'.Pairwise (·<=·)->Q (.ref l) H'):=by
 intro pins s σ H xs us Q I r h;obtain⟨a,ns,rfl,hs,h64,q⟩:=h;obtain⟨u,rfl,ru⟩:=oI r;cases ru;obtain⟨its,rv,p,hz⟩:=I.tuple hs;have hl:=rv.length;rw[Mn]at hl;refine u_ p (ou rv) ↥0 λout ns' a1 a2 a3=>?_;obtain⟨e,he⟩:=sortedAll_at s.heap its out;have hf:H (↑s+1)=none:=I.hok.fresh (OY _);refine⟨.ref (↑s+1),bI H (↑s+1) (.lst (ns'.map V.int)),I.laid (t':=s.toks) (λ_ _=>sortedAll_old) (OY _) ⟨?_,out.toList,e,jX a1,?_⟩,rfl,q _ ns' _ (av.new hf) hf aC a2 a3⟩;·rw[Mn,a2.length_eq];exact Mv (Ox h64) ⋯
 ·simpa[Mo]using he
end
section
variable{X:Cx}
end
theorem xD{e:LU}{es:List LU}{env:Env}(h:QX e=false):Mf (e::es) env=(false,Ml e env)::Mf es env:=by cases e<;>first|rfl|cases h
theorem HE{X:Cx}{e:LU}{es:List LU}{te:TE}{t:TA}(ha:PE X e te)(hr:PA X es t)(h:QX e=false:=by rfl):PA X (e::es) (lR te t):=dJ ha hr (xD h)
def wk:List (Int×Int)->TA|[]=>Ae|p::r=>lR (GN (lR (tC (.int p.1)) (lR (tC (.int p.2)) Ae))) (wk r)
@[irreducible]def HR(ps:List (Int×Int)):TA:=wk ps
structure lV where
 one:Int
 other:Int
 top:Int
 bot:Int
 worth:Int
structure aN where
 things:Int
 ties:List lV
 pat:List Int
 asks:Int
structure lV.Ok (n:Int) (t:lV):Prop where
 o0:0<=t.one
 o1:t.one<t.other
 o2:t.other<n
 c0:0<=t.top
 c1:t.top<=t.bot
 b0:1<=t.bot
 b1:t.bot<=100
 w0:0<=t.worth
 w1:t.worth<=1000
 cop:Mm t.top t.bot=1
structure aN.Ok (w:aN):Prop where
 t0:0<=w.things
 t1:w.things<=12
 ties:∀t∈w.ties,t.Ok w.things
 len:w.ties.length<=16
 pl:(w.pat.length:Int)=w.things
 pat:∀p∈w.pat,0<=p/\p<=20
 a0:0<=w.asks
 a1:w.asks<=40
def Fd(K:⇑0)(H:Hp)(v:V)(t:lV):Prop:=∃p q,v=.ref p/\dO K H p [.int t.one,.int t.other,.ref q,.int t.worth]/\dO K H q [.int t.top,.int t.bot]
inductive qK (K:⇑0) (H:Hp):List V->List lV->Prop|nil:qK K H [] []|cons{v vs t ts}:Fd K H v t->qK K H vs ts->qK K H (v::vs) (t::ts)
structure Ii (K:⇑0) (H:Hp) (v:V) (w:aN):Prop where ex:∃a b c ts,v=.ref a/\dO K H a [.int w.things,.ref b,.ref c,.int w.asks]/\dO K H b ts/\qK K H ts w.ties/\dO K H c (w.pat.map V.int)
section
variable{K:⇑0}{H H':Hp}
end
theorem uO{t b:Int}(hb:0<b)(h0:0<=t)(h1:t<=b)(h2:b<=100):0<=(lowM t b).1/\(lowM t b).1<=(lowM t b).2/\1<=(lowM t b).2/\(lowM t b).2<=100:=by
 obtain⟨d,e1,e2,e3,e4,e5⟩:=jO (t:=t) (b:=b) ↥0;generalize (lowM t b).1=x at*;generalize (lowM t b).2=y at*;have dp:0<d:=by
  rcases Int.lt_or_gt_of_ne e2 with z|z;·exfalso;have:y*d<0:=Int.mul_neg_of_pos_of_neg e5 z;lia
  ·exact z
 have x0:0<=x:=by
  rcases Int.lt_or_le x 0 with z|z;·have:x*d<0:=Int.mul_neg_of_neg_of_pos z dp;lia
  ·exact z
 have xy:x<=y:=by
  rcases Int.lt_or_le y x with z|z;·have:y*d<x*d:=Int.mul_lt_mul_of_pos_right z dp;lia
  ·exact z
 have yb:y<=y*d:=by have:=Int.mul_le_mul_of_nonneg_left (show(1:Int)<=d by lia) (show 0<=y by lia);lia
 exact⟨x0,xy,by lia,by lia⟩
inductive ng{α β:Type}(R:α->β->Prop):List α->List β->Prop|nil:ng R [] []|cons{a b as bs}:R a b->ng R as bs->ng R (a::as) (b::bs)
namespace ng
variable{α β:Type}{R S:α->β->Prop}
theorem mono(h:∀a b,R a b->S a b):∀{as:List α}{bs:List β},ng R as bs->ng S as bs|_,_,.nil=>.nil|_,_,.cons x r=>.cons (h _ _ x) (mono h r)
theorem len:∀{as:List α}{bs:List β},ng R as bs->as.length=bs.length|_,_,.nil=>rfl|_,_,.cons _ r=>by simp[len r]
theorem snoc{a:α}{b:β}(h:R a b):∀{as:List α}{bs:List β},ng R as bs->ng R (as++[a]) (bs++[b])|_,_,.nil=>.cons h .nil|_,_,.cons x r=>.cons x (snoc h r)
theorem get:∀{as:List α}{bs:List β}{i:Nat}{b:β},ng R as bs->bs[i]?=some b->∃a,as[i]?=some a/\R a b|_,_,_,_,.nil,e=>by simp at e|_,_,0,_,.cons x _,e=>by simp at e;subst e;exact⟨_,rfl,x⟩|_,_,i+1,b,.cons _ r,e=>by obtain⟨v,h1,h2⟩:=get (i:=i) (b:=b) r (by simpa using e);exact⟨v,by simpa using h1,h2⟩
end ng
section
variable{K:⇑0}{a l:LQ}{xs:List V}{g:TG}{tc:TT}{te:TE}{Q:VK}{σ:L2.St}{H:Hp}{α β:Type}{us:List α}{cp:List (Nat×Str)}{nT:Nat}
def GZ(aZ:Hp->V->β->Prop)(SI:L2.St->Prop)(us:List α)(f:α->Option β)(H:Hp)(l:LQ)(i:Nat)(σ:L2.St)(H':Hp):Prop:=SI σ/\av H H'/\∃vs,H' l=some (.lst vs)/\vs.length<=i/\ng (aZ H') vs ((us.take i).filterMap f)
end
theorem m_:∀{a b:List Int},a.Perm b->a.Pairwise (·<=·)->b.Pairwise (·<=·)->a=b|[],b,p,_,_=>by have:=p.length_eq;exact(List.length_eq_zero_iff.mp this.symm).symm|x::a,b,p,h1,h2=>by cases b with|nil=>have:=p.length_eq;simp at this|cons y b=>
 have h1':=List.pairwise_cons.mp h1;have h2':=List.pairwise_cons.mp h2;have e:x=y:=by
  have m1:y∈x::a:=p.mem_iff.mpr ↥1;have m2:x∈y::b:=p.mem_iff.mp ↥1;rcases LN m1 with z|z;·exact z.symm
  ·rcases LN m2 with z2|z2;·exact z2
   ·have:=h1'.1 y z;have:=h2'.1 x z2;lia
 subst e;rw[m_ ((List.perm_cons x).mp p) h1'.2 h2'.2]
def dP(ns:List Int):List Int:=ns.mergeSort
theorem tZ{ns ns':List Int}(p:ns'.Perm ns)(h:ns'.Pairwise (·<=·)):ns'=dP ns:=by refine m_ (p.trans (Qx ns _).symm) h ?_;have:=QY (le:=λa b:Int=>decide (a<=b)) (λa b c h1 h2=>by simp at*;lia) (λa b=>by simp;lia) ns;exact this.imp λh=>by simpa using h
theorem ko(ns:List Int):(dP ns).Perm ns:=Qx ns _
theorem qs{ns:List Int}{x:Int}:x∈dP ns↔x∈ns:=(ko ns).mem_iff
theorem qr(ns:List Int):(dP ns).length=ns.length:=(ko ns).length_eq
section
variable{X:Cx}{K:⇑0}{pos:Pos}
theorem Bz{es:List LU}{k:Nat}{t:Au}{n:Nat}(hK:X.K=K)(hc:X.calm=true)(h:xP X es t)(hn:(NO es X.env).length=n:=by rfl)(hst:(NO es X.env).findIdx? (·.1)=none:=by rfl):PG X (.Tuple es k pos) (Dy K n t):=hK▸Eg hc h hn hst
theorem BD{tg l:LU}{tl:TE}(h:X.K=K)(hl:PE X l tl):PI X tg l (Fw K tl):=h▸Eh hl
theorem zx{tg l:LU}{tl:TE}(h:X.K=K)(hl:PE X l tl):PI X tg l (CL K tl):=h▸BC hl
end
instance:Inhabited lV:=⟨⟨0,1,1,1,0⟩⟩
def aN.tie(W:aN)(k:Int):lV:=W.ties.getD k.toNat default
def aN.has(W:aN)(k thing:Int):Bool:=(W.tie k).one==thing||(W.tie k).other==thing
def aN.many(W:aN)(asked:List Int)(thing:Int):Int:=((asked.filter λk=>W.has k thing).length:Nat)
def aN.bears(W:aN)(asked taken:List Int)(thing:Int):Bool:=!taken.contains thing&&decide (W.many asked thing<W.pat.getD thing.toNat 0)
def aN.may(W:aN)(asked taken:List Int)(k:Int):Bool:=!(asked.contains k||decide (W.asks<=(asked.length:Int)))&&(W.bears asked taken (W.tie k).one&&W.bears asked taken (W.tie k).other)
def aN.askd(asked:List Int)(k:Int):List Int:=dP (asked++[k])
def aN.took(W:aN)(taken:List Int)(k:Int)(truth:Bool):List Int:=if truth then dP (taken++[(W.tie k).one,(W.tie k).other]) else taken
def aN.rng(W:aN):List Int:=(MD W.ties.length).map Int.ofNat
def gG(W:aN)(k:Int):Prop:=0<=k/\k<(W.ties.length:Int)
theorem gG.get{W:aN}{k:Int}(h:gG W k):W.ties[k.toNat]?=some (W.tie k):=by
 have hk:k.toNat<W.ties.length:=by have:=h.1;have:=h.2;lia
 unfold aN.tie;rw[NT,My hk];rfl
theorem gG.ok{W:aN}{k:Int}(h:gG W k)(o:W.Ok):(W.tie k).Ok W.things:=o.ties _ (LO h.get)
theorem G4{W:aN}{k:Int}:k∈W.rng↔gG W k:=by
 unfold aN.rng gG;rw[List.mem_map];constructor;·rintro⟨n,hn,rfl⟩;have:=Pf.mp hn;exact⟨Int.natCast_nonneg n,by simp;lia⟩
 ·rintro⟨h0,h1⟩;exact⟨k.toNat,Pf.mpr ↥0,by simp;lia⟩
def Dn(K:⇑0)(H:Hp)(v:V)(asked taken:List Int):Prop:=∃a b c,v=.ref a/\dO K H a [.ref b,.ref c]/\dO K H b (asked.map V.int)/\dO K H c (taken.map V.int)
theorem Dn.ts{K:⇑0}{H H':Hp}(s:mB H H'){v:V}{asked taken:List Int}(h:Dn K H v asked taken):Dn K H' v asked taken:=by obtain⟨a,b,c,e,h1,h2,h3⟩:=h;exact⟨a,b,c,e,s.tup h1,s.tup h2,s.tup h3⟩
section
variable{K:⇑0}{σ:L2.St}{H:Hp}{Q:VK}{i j:Nat}{vW:V}{W:aN}{k:Int}
end
def small(k:Int):Prop:=-1000000<=k/\k<=1000000
def Dk(n dep:Nat)(d:LS):Prop:=d.showable=true/\oC d=true/\L2.cnt d<=n/\d.depth<=dep
theorem Dk.mono{n m dep e:Nat}{d:LS}(h:Dk n dep d)(h1:n<=m)(h2:dep<=e):Dk m e d:=⟨h.1,h.2.1,Mv h.2.2.1 h1,Mv h.2.2.2 h2⟩
theorem Dk.int{k:Int}(h:small k):Dk 1 2 (.int k):=by refine⟨?_,rfl,MU _,by simp[MT]⟩;show decide (k.natAbs.log2<1920)=true;rw[decide_eq_true_eq];exact Nat.lt_trans ((show Bt 64 k by have:=h.1;have:=h.2;unfold Bt;lia).log ⋯) ⋯
theorem Dk.bool(b:Bool):Dk 1 2 (.bool b):=⟨rfl,rfl,MU _,by simp[MT]⟩
theorem Dk.none:Dk 1 2 .none:=⟨rfl,rfl,MU _,by simp[MT]⟩
theorem Dk.all{n dep:Nat}:∀{ds:List LS},(∀d∈ds,Dk n dep d)->Pn ds=true/\g_ ds=true/\j_ ds<=ds.length*n/\Ni ds<=dep
 |[],_=>⟨rfl,rfl,by simp[j_],by simp[Ni]⟩|d::r,h=>by
  obtain⟨a1,a2,a3,a4⟩:=h d ↥1;obtain⟨b1,b2,b3,b4⟩:=Dk.all (ds:=r) λx hx=>h x (by simp[hx]);refine⟨?_,?_,?_,?_⟩;·simp only[Pn,a1,b1,OL]
  ·simp only[g_,a2,b2,OL]
  ·simp only[j_,Nj,Nat.succ_mul];lia
  ·simp only[Ni];lia
theorem Dk.tup{n dep m:Nat}{ds:List LS}(h:∀d∈ds,Dk n dep d)(hl:ds.length<=m):Dk (1+m*n) (dep+2) (.tuple ds):=by
 obtain⟨b1,b2,b3,b4⟩:=Dk.all h;refine⟨b1,b2,?_,?_⟩;·simp only[L2.cnt];have:=Nat.mul_le_mul_right n hl;lia
 ·simp only[MT];lia
theorem Dk.ok{n dep:Nat}{d:LS}(h:Dk n dep d)(h1:n<=8000)(h2:dep<=60):d.showable=true/\d.depth<=60/\d.shown.length<=Mi:=by have:=qp h.2.1 h.1;have sl:Mi=16777216:=MO;have:=h.2.2.1;exact⟨h.1,Mv h.2.2.2 h2,by lia⟩
theorem Dk.ints{ns:List Int}{m:Nat}(hl:ns.length<=m)(h:∀r∈ns,small r):Dk (1+m) 4 (.tuple (ns.map .int)):=by have:=Dk.tup (n:=1) (dep:=2) (m:=m) (ds:=ns.map PyData.int) (λd hd=>by obtain⟨x,hx,rfl⟩:=LM hd;exact Dk.int (h x hx)) (by rw[Mn];exact hl);simpa using this
section
variable{K:⇑0}{H:Hp}
theorem Dk.bools{ns:List Bool}{m:Nat}(hl:ns.length<=m):Dk (1+m) 4 (.tuple (ns.map .bool)):=by have:=Dk.tup (n:=1) (dep:=2) (m:=m) (ds:=ns.map PyData.bool) (λd hd=>by obtain⟨x,hx,rfl⟩:=LM hd;exact Dk.bool x) (by rw[Mn];exact hl);simpa using this
def b7(t:lV):LS:=.tuple [.int t.one,.int t.other,.tuple [.int t.top,.int t.bot],.int t.worth]
def ay(W:aN):LS:=.tuple [.int W.things,.tuple (W.ties.map b7),.tuple (W.pat.map .int),.int W.asks]
def bW(asked taken:List Int):LS:=.tuple [.tuple (asked.map .int),.tuple (taken.map .int)]
end
theorem x8:∀{bs:List Bool}{us:List LP}{i:Nat}{v:LP},aR (bs.map V.bl) us->us[i]?=some v->∃b,bs[i]?=some b/\v=.bool b|[],us,i,v,r,e=>by cases r;simp at e|b::bs,us,i,v,r,e=>by cases r with|cons p q=>cases i with|zero=>simp at e;subst e;cases p;exact⟨b,rfl,rfl⟩|succ i=>obtain⟨c,h1,h2⟩:=x8 (bs:=bs) (i:=i) (v:=v) q (by simpa using e);exact⟨c,by simpa using h1,h2⟩
theorem BQ(bs:List Bool):((MD bs.length).all λi=>(bs[i]?).getD true)=bs.all id:=by
 rw[Qy,ML,ML];constructor;·intro h b hb;obtain⟨i,hi,rfl⟩:=List.getElem_of_mem hb;have:=h i (Pf.mpr hi);rw[My hi]at this;exact this
 ·intro h i hi;have hi':=Pf.mp hi;rw[My hi'];exact h _ (Qz hi')
section
variable{X:Cx}
theorem ye{k:Nat}{K:⇑0}(hr:bZ k X.A)(hK:X.K=K):cJ X (.builtin "all") (λxs H Q=>∃(l:LQ) (bs:List Bool),xs=[.ref l]/\i6 K H l (bs.map V.bl)/\Q (.bl (bs.all id)) H):=by
 intro pins s σ H xs us Q I r h;subst hK;obtain⟨l,bs,rfl,hs,q⟩:=h;obtain⟨u,rfl,ru⟩:=oI r;cases ru;obtain⟨its,rv,p,hz⟩:=I.list hs;have hl:=p.isList;have lt:l<↑s:=by obtain⟨_,e,_⟩:=hl;exact Mq e
 refine PySem.call_all_walk (wpAny_pyIter_list hl ?_);refine⟨↑s,[↑s,l],[↑s],its.toArray.size,_,_,λi=>(bs[i]?).getD true,rfl,Walks.list (A:=X.A.in1) hr.hd _ l (MI lt) its.toArray,⟨⟨_,Nl _ rfl,rfl,rfl⟩,hl.push _⟩,λi v s' Q' E' hP hQ=>?_,λh' tk hk=>?_⟩;·obtain⟨b,e,rfl⟩:=x8 rv (by simpa using hP);simp only[e,Og]at hQ;exact Qk hQ
 ·have e:its.toArray.size=bs.length:=by have:=rv.length;rw[Mn]at this;simpa using this.symm
  rw[e,BQ];refine⟨.bl (bs.all id),H,I.kept λb x e=>hk b x (λhm=>?_) (MJ _ e),rfl,q⟩;rw[Pa.mp hm]at e;exact On _ (Mq e)
end
theorem x9:NL "all"=some (.builtin "all"):=by decide+kernel
section
variable{prog:Mc}{w:LV}{A:Md}{E:LP->LR->Prop}{s:LR}
end
structure Sc (prog:Mc) (w:LV) (it l:LQ) (St:Nat->LZ->Prop) (Sq:LZ->Array LP->Prop):Prop where
 stay:∀{k h h'},St k h->(∀o,h.get? it=some o->h'.get? it=some o)->St k h'
 live:∀{k h},St k h->∃o,h.get? it=some o/\∀v,o.data≠.cell v
 row:∀{h h' xs},Sq h xs->(∀o,h.get? l=some o->h'.get? l=some o)->Sq h' xs
 next:∀{A:Md}{s:LR}{E:LP->LR->Prop}{Q:LP->LR->Prop}{k:Nat}{xs:Array LP}{x:LP},St k s.heap->Sq s.heap xs->xs[k]?=some x->(∀g,St (k+1) g->Pi it s.heap g->Q x {s with heap:=g})->Ma (LY prog w) A (Rr (.ref it)) Q E s
 last:∀{A:Md}{s:LR}{E:LP->LR->Prop}{Q:LP->LR->Prop}{k:Nat}{xs:Array LP},A.handled=none->St k s.heap->Sq s.heap xs->xs[k]?=none->(∀g e,Heap.ExtBut it s.heap g->(∃o,g.get? e=some o/\o.cls=.type "StopIteration")->E (.ref e) {s with heap:=g})->Ma (LY prog w) A (Rr (.ref it)) Q E s
structure H_ (z TI TO i1 i2 l1 l2:LQ):Prop where
 a1:TO≠z
 a2:i1≠z
 a3:i2≠z
 a4:TO≠i1
 a5:TO≠i2
 a6:i1≠i2
 b1:l1≠z
 b2:l1≠TO
 b3:l1≠i1
 b4:l1≠i2
 c1:l2≠z
 c2:l2≠TO
 c3:l2≠i1
 c4:l2≠i2
section
variable{prog:Mc}{w:LV}{A:Md}{E:LP->LR->Prop}{s:LR}{z TI TO i1 i2 l1 l2:LQ}{k:Nat}{xs ys:Array LP}{a b:LP}{S1 S2:Nat->LZ->Prop}{R1 R2:LZ->Array LP->Prop}
end
section
variable{X:Cx}{pins:List (LQ×Obj)}{σ:L2.St}{H:Hp}{s:LR}{h':LZ}
end
section
variable{prog:Mc}{w:LV}{A:Md}{E:LP->LR->Prop}{s:LR}
end
def Di(h:LZ)(z TI TO:LQ)(a:LQ)(f:Bool):Prop:=h.get? z=some {cls:=.type "zip",data:=.fields #[rawInt a,.bool f,.bool false,.ref TI,.ref TO]}
section
variable{prog:Mc}{w:LV}{A:Md}{E:LP->LR->Prop}{s:LR}{z TI TO i1 i2 l1 l2:LQ}{k:Nat}{xs ys:Array LP}{a:LQ}{f:Bool}{S1 S2:Nat->LZ->Prop}{R1 R2:LZ->Array LP->Prop}
end
structure ZL (S z TI TO i1 i2 l1 l2:LQ) (xs ys:Array LP) (i:Nat) (h:LZ):Prop where
 pr:IsPair h TI (.ref i1) (.ref i2)t1:h.IsTupleIter i1 l1 i
 t2:h.IsTupleIter i2 l2 i
 s1:h.IsTuple l1 xs
 s2:h.IsTuple l2 ys
 ot:∃o,h.get? TO=some o
 zs:(IsZip h z TI TO .none/\∃a b,IsPair h TO a b)\/∃a f oa,Di h z TI TO a f/\h.get? a=some oa/\a≠S/\a≠z/\a≠i1/\a≠i2
structure HZ (S z TO i1 i2:LQ) (xs ys:Array LP) (h:LZ) (acc:Array LP) (i:Nat):Prop where
 sz:acc.size=i
 at_:∀(j:Nat) (v:LP),acc[j]?=some v->∃(p:LQ) (x y:LP),v=.ref p/\xs[j]?=some x/\ys[j]?=some y/\IsPair h p x y/\p≠S/\p≠z/\p≠TO/\p≠i1/\p≠i2
 lo:∀(j:Nat) (p:LQ),acc[j]?=some (.ref p)->S<p
 IS:∀(i j:Nat) (p q:LQ),i<j->acc[i]?=some (.ref p)->acc[j]?=some (.ref q)->p<q
section
variable{prog:Mc}{w:LV}{A:Md}{R:Result->LR->Prop}{S z TI TO i1 i2 l1 l2:LQ}{xs ys:Array LP}{n:Nat}
end
section
variable{X:Cx}{pins:List (LQ×Obj)}{σ:L2.St}{H H':Hp}{s:LR}{h':LZ}
end
section
variable{prog:Mc}{w:LV}{A:Md}{E:LP->LR->Prop}{s:LR}{e it l:LQ}{k:Nat}{xs:Array LP}{S:Nat->LZ->Prop}{R:LZ->Array LP->Prop}
end
section
variable{X:Cx}{pins:List (LQ×Obj)}{σ:L2.St}{H:Hp}{s:LR}
end
theorem wu:∀(us:List LP) (f:Nat->Int),(∀(j:Nat) (v:LP),us[j]?=some v->∃t,v=Value.int (f j) t)->aR ((MD us.length).map λj=>V.int (f j)) us|[],_,_=>.nil|u::us,f,h=>by rw[Nj,List.range_succ_eq_map,Mp,Po];refine .cons (h 0 u rfl) (wu us (λj=>f (j+1)) λj v e=>h (j+1) v (by simpa using e))
def gc(n:Nat):List Int:=(MD n).map Int.ofNat
theorem lE(n:Nat):(gc n).length=n:=by simp[gc]
section
variable{X:Cx}{a:LU}{ta:TA}{p p2 pos pos2:Pos}
theorem ym(hg:Gl X "range")(hm:X.mg "range"=none)(ha:PA X [a] ta)(hs:Mf [a] X.env=[(false,Ml a X.env)]){pins:List (LQ×Obj)}{s:LR}{σ:L2.St}{H:Hp}{R:Int->Hp->Prop}(I:aA X pins σ H s)(h:ta σ H λvs H1=>∃j:Int,vs=[.int j]/\R j H1):Ma (LY X.prog X.w) X.A (Ml (.Call (.Name "range" p) [a] [] pos) X.env) (λv s1=>∃(r:LQ) (j:Int) (H1:Hp) (t u w:Tok),v=.ref r/\IsRange s1.heap r 0 j 1 t u w/\r<↑s1/\aA X pins σ H1 s1/\R j H1) X.xe s:=by refine Call_ (l_ I hg hm boot_range (Qm (ck (ha pos pins s σ H _ I h) λus s1⟨vs,H1,I1,r1,q1⟩=>?_) hs rfl));obtain⟨j,e,q⟩:=q1;subst e;cases r1 with|cons r rr=>cases rr;obtain⟨t,rfl⟩:=r;exact call_range_1 ⟨_,j,H1,_,_,_,rfl,IsRange.new ..,by simp[QA],I1.kept λb o e=>MJ _ e,q⟩
def IX(ta:TA):TE:=λσ H Q=>ta σ H λvs H1=>∃j:Int,vs=[.int j]/\(0<=j/\j<=100000/\∀l,H1 l=none->Q (.ref l) (bI H1 l (.lst ((gc j.toNat).map V.int))))
theorem rN(hc:X.calm=true)(hgl:Gl X "list")(hml:X.mg "list"=none)(hg:Gl X "range")(hm:X.mg "range"=none)(ha:PA X [a] ta)(hs:Mf [a] X.env=[(false,Ml a X.env)]:=by rfl)(he:Mf [.Call (.Name "range" p) [a] [] pos] X.env=(false,Ml (.Call (.Name "range" p) [a] [] pos) X.env)::Mf [] X.env:=by rfl):PE X (.Call (.Name "list" p2) [.Call (.Name "range" p) [a] [] pos] [] pos2) (IX ta):=by
 intro pins s σ H Q I h;refine Pj (l_ I hgl hml PyProof.Rows.boot_list ?_ ⋯ ⋯);refine Qm ?_ he rfl;rw[he];refine Calls.spliced_cons (ck (ym hg hm ha hs I h) λu s1⟨r,j,H1,t,u1,w,e,hr,lt,I1,j0,j1,q⟩=>?_);subst e;refine Mj ?_;have hsm:Builtin.Range.small 0 j 1=true:=small_one ⋯ ⋯ ↥0 ↥0;refine call_list_range (n:=j.toNat) (I1.ok.hd hc) hr hsm (by rw[rangeSize_one];split<;>lia) (Mv (show j.toNat<=100000 by lia) ⋯) λh' tk acc c hk hD hI=>?_;have hf:H1 ↑s1=none:=I1.hok.fresh ↥8;have vv:aR ((gc j.toNat).map V.int) acc.toList:=by
  have z:=wu acc.toList (λk=>(k:Int)) λk v e=>by obtain⟨t,ht⟩:=hI.2 k v (by simpa using e);exact⟨t,by rw[ht];simp⟩
  rw[MQ,hI.1]at z;rw[gc,Po];exact z
 refine⟨.ref ↑s1,_,I1.laid (o:=.lst ((gc j.toNat).map V.int)) hk ↥8 ⟨?_,acc.toList,c,vv,by simpa using hD⟩,rfl,q _ hf⟩;rw[Mn,lE,MO];lia
end
theorem xg:fillsNumberSlot (.type "tuple") "mul"=pure false:=PySem.fillsNumberSlot_seq (id:="tuple.__mul__") (r:=some (.builtin "tuple.__rmul__")) PY.lookup ↥2 F.slot_tuple_rmul.lookup ↥2
theorem EC:seqRepeat? (.type "tuple")=pure (some (.builtin "tuple.__mul__")):=by unfold seqRepeat?;rw[PySem.seqSlot_of (T:="tuple") (name:="__mul__") (id:="tuple.__mul__") PY.lookup ↥2,PySem.seqSlot_of (T:="tuple") (name:="__rmul__") (id:="tuple.__rmul__") F.slot_tuple_rmul.lookup ↥2];rfl
theorem BO(a:Int)(t:Tok)(l:LQ)(items:Array LP)(n:Nat)(dd:Option LQ)(sl:Array (Option LP)):Meets (NH.«int.__rmul__» ⟨[.int a t,.ref l],[]⟩) (λ_ R s=>s.heap.get? l=some {cls:=.type "tuple",dict:=dd,data:=.seq items n,slots:=sl}/\R (.ok (.ret Value.notImplemented)) s):=.of_wp λprog w A R s h=>by obtain⟨hp,g,d,tk,os⟩:=s;obtain⟨hl,h⟩:=h;wp_walk;exact⟨_,rfl,h⟩
theorem DV(l:LQ)(x:LP)(n:Nat)(k:Int)(u:Tok)(dd:Option LQ)(sl:Array (Option LP))(h0:2<=k)(h1:k<=100000):Meets (NH.«tuple.__mul__» ⟨[.ref l,.int k u],[]⟩) (λ_ R s=>s.heap.get? l=some {cls:=.type "tuple",dict:=dd,data:=.seq #[x] n,slots:=sl}/\R (.ok (.ret (.ref ↑s))) {s with heap:=s.heap.push {cls:=.type "tuple",data:=.seq (Mh k.toNat x).toArray}}):=.of_wp λprog w A R s h=>by
 obtain⟨hp,g,d,tk,os⟩:=s;obtain⟨hl,h⟩:=h;have f1:=QZ;have c1:¬(decide (k< -(2^63))||decide (k>=2^63))=true:=by simp;lia
 have c2:¬((#[x]:Array LP).isEmpty||k==1)=true:=by simp;lia
 have c3:¬(decide (k<=0)||(#[x]:Array LP).isEmpty)=true:=by simp;lia
 have c4:¬(((#[x]:Array LP).size:Int)*k>(2^63-1)/8):=by simp;lia
 have c5:¬Re (((#[x]:Array LP).size:Int)*k)=true:=by unfold Re;rw[MO];simp;lia
 wp_walk using OB hl;rw[if_neg c1];wp_walk using OB hl;rw[if_neg c2];wp_walk using OB hl;rw[if_neg c3];wp_walk using OB hl;rw[if_neg c4];show Ma _ _ (if Re (((#[x]:Array LP).size:Int)*k)=true then _ else _) _ _ _;rw[if_neg c5];have f0:∀(m:Nat) (acc:Array LP),Pm (λx1 x2=>x1++x2) acc (Mh m #[x])=acc++(Mh m x).toArray:=by intro m;induction m with|zero=>intro acc;simp|succ m ih=>intro acc;rw[OJ,List.foldl_cons,ih,OJ];apply Array.toList_inj.mp;simp
 have e:Pm (λx1 x2=>x1++x2) #[] (Mh k.toNat #[x])=(Mh k.toNat x).toArray:=by rw[f0];simp
 show Ma _ _ (Pl (Pm (λx1 x2=>x1++x2) #[] (Mh k.toNat #[x]))>>=λv=>ret v) _ _ _;rw[e];unfold Pl;refine Mb (OG ?_ (by show(Mh k.toNat x).toArray.size<=Mi;rw[Mx,Qo,MO];lia));exact Mj ⟨_,rfl,h⟩
theorem Bb(l:LQ)(x:LP)(n:Nat)(u:Tok)(dd:Option LQ)(sl:Array (Option LP)):Meets (NH.«tuple.__mul__» ⟨[.ref l,.int 0 u],[]⟩) (λ_ R s=>s.heap.get? l=some {cls:=.type "tuple",dict:=dd,data:=.seq #[x] n,slots:=sl}/\R (.ok (.ret (.ref ↑s))) {s with heap:=s.heap.push {cls:=.type "tuple",data:=.seq #[]}}):=.of_wp λprog w A R s h=>by
 obtain⟨hp,g,d,tk,os⟩:=s;obtain⟨hl,h⟩:=h;have f1:=QZ;have c2:¬((#[x]:Array LP).isEmpty||(0:Int)==1)=true:=by simp
 wp_walk using OB hl;first|rw[if_neg c2]|skip
 wp_walk using OB hl;exact⟨_,rfl,h⟩
theorem Bc(l:LQ)(x:LP)(n:Nat)(u:Tok)(dd:Option LQ)(sl:Array (Option LP)):Meets (NH.«tuple.__mul__» ⟨[.ref l,.int 1 u],[]⟩) (λ_ R s=>s.heap.get? l=some {cls:=.type "tuple",dict:=dd,data:=.seq #[x] n,slots:=sl}/\R (.ok (.ret (.ref l))) s):=.of_wp λprog w A R s h=>by obtain⟨hp,g,d,tk,os⟩:=s;obtain⟨hl,h⟩:=h;have f1:=QZ;wp_walk using OB hl;exact⟨_,rfl,h⟩
section
variable{X:Cx}
def zR(K:⇑0):R2:=λx y H Q=>∃a k v,x=.ref a/\y=.int k/\dO K H a [v]/\0<=k/\k<=100000/\∀p H',av H H'->dO K H' p (Mh k.toNat v)->Q (.ref p) H'
theorem Bu:i5 X (Ng .Mult) (zR X.K):=by
 intro pins s σ H x y v u Q I rx ry h;obtain⟨a,k,z,rfl,rfl,ha,k0,k1,q⟩:=h;cases rx;obtain⟨t,rfl⟩:=ry;obtain⟨its,r,p,hz⟩:=I.tuple ha;obtain⟨uz,rfl,rz⟩:=oI r;obtain⟨⟨cls,dd,data,sl⟩,ho,hc,n,hd⟩:=id p;simp only at hc hd;subst hc hd;refine wpAny_binaryOp_repeat_ref (T:="tuple") (U:="int") ⋯ ⟨_,ho,rfl⟩ (λs'=>PM s' k t) xg F.fills_int_mul Qs EC F.slot_int_index.lookup (OK Qs (PM s k t) F.entry_int_rmul (F.args_int_rmul_2 _ _) (BO k t a #[uz] n dd sl) ⟨ho,rfl,⟨_,ho,rfl⟩,?_⟩);have new:∀m:Nat,m=k.toNat->EP X pins σ Q (.ref ↑s) {s with heap:=s.heap.push {cls:=.type "tuple",data:=.seq (Mh m uz).toArray},toks:=s.toks}:=λm hm=>by
  have hf:H ↑s=none:=I.hok.fresh ↥8;have vv:∀j:Nat,aR (Mh j z) (Mh j uz):=λj=>by induction j with|zero=>exact .nil|succ j ih=>exact .cons rz ih
  refine⟨.ref ↑s,_,I.laid (t':=s.toks) (o:=.tup (Mh m z)) (λb ob q=>MJ _ q) ↥8 ⟨by rw[Qo,MO];lia,_,vv m,qG.new _ _⟩,rfl,q _ _ (av.new hf) (dO.of (by rw[aC,hm]))⟩
 rcases(by lia:k=0\/k=1\/2<=k) with e|e|e;·subst e;exact OK PY ⟨_,ho,rfl⟩ F.entry_tuple_mul (F.args_tuple_mul_2 _ _) (Bb a uz n t dd sl) ⟨ho,new 0 rfl⟩
 ·subst e;exact OK PY ⟨_,ho,rfl⟩ F.entry_tuple_mul (F.args_tuple_mul_2 _ _) (Bc a uz n t dd sl) ⟨ho,⟨.ref a,H,I,rfl,q a H (av.refl H) ha⟩⟩
 ·exact OK PY ⟨_,ho,rfl⟩ F.entry_tuple_mul (F.args_tuple_mul_2 _ _) (DV a uz n k t dd sl e k1) ⟨ho,new _ rfl⟩
end
section
variable{prog:Mc}{w:LV}{A:Md}{E:LP->LR->Prop}{s:LR}
end
section
variable{X:Cx}{a:LU}{ta:TA}{p p2 p3 pos pos2 pos3:Pos}
end
section
variable{prog:Mc}{w:LV}{A:Md}{E:LP->LR->Prop}{s:LR}
end
section
variable{X:Cx}{K:⇑0}{es:List LU}{k0:Nat}{tp:Pos}{a:LU}{ta:TA}{p pos:Pos}
end
section
variable{prog:Mc}{w:LV}{A:Md}{E:LP->LR->Prop}{s:LR}
end
section
variable{prog:Mc}{w:LV}{A:Md}{E:LP->LR->Prop}{s:LR}
end
section
variable{prog:Mc}{w:LV}{A:Md}{E:LP->LR->Prop}{s:LR}
end
inductive sj where|vi (k:Int)|vb (x:Bool)|vn|vp (a:LQ) (p q:Int)
def sj.toV:sj->V|.vi k=>.int k|.vb x=>.bl x|.vn=>.non|.vp a _ _=>.ref a
def sj.toD:sj->LS|.vi k=>.int k|.vb x=>.bool x|.vn=>.none|.vp _ p q=>.tuple [.int p,.int q]
def sj.ok(K:⇑0)(F:Hp):sj->Prop|.vp a p q=>dO K F a [.int p,.int q]|_=>True
theorem sj.ok.mono{K:⇑0}{F F':Hp}(h:av F F'){a:sj}(q:a.ok K F):a.ok K F':=by cases a<;>first|exact h.tup q|trivial
mutual
def DA(K:⇑0)(F:Hp):LS->V->Prop|.none,v=>v=.non|.bool b,v=>v=.bl b|.int i,v=>v=.int i|.str x,v=>v=.str x|.tuple ds,v=>∃a xs,v=.ref a/\dO K F a xs/\aL K F ds xs|.list ds,v=>∃a xs,v=.ref a/\i6 K F a xs/\aL K F ds xs|.dict kvs,v=>∃(a:LQ) (m:List (Int×sj)),v=.ref a/\F a=some (.dK (m.map λp=>(NK p.1,p.2.toV)))/\kvs=m.map (λp=>(PyData.int p.1,p.2.toD))/\∀p∈m,p.2.ok K F
def aL(K:⇑0)(F:Hp):List LS->List V->Prop|[],xs=>xs=[]|d::ds,xs=>∃x r,xs=x::r/\DA K F d x/\aL K F ds r
end
mutual
theorem DA.mono{K:⇑0}{F F':Hp}(h:av F F'):∀{d:LS}{v:V},DA K F d v->DA K F' d v|.none,_,q=>by simp only[DA]at q⊢;exact q|.bool b,_,q=>by simp only[DA]at q⊢;exact q|.int i,_,q=>by simp only[DA]at q⊢;exact q|.str x,_,q=>by simp only[DA]at q⊢;exact q|.tuple ds,_,q=>by simp only[DA]at q⊢;obtain⟨a,xs,e,s,r⟩:=q;exact⟨a,xs,e,h.tup s,aL.mono h r⟩|.list ds,_,q=>by simp only[DA]at q⊢;obtain⟨a,xs,e,s,r⟩:=q;exact⟨a,xs,e,h.seq s,aL.mono h r⟩|.dict _,_,q=>by simp only[DA]at q⊢;obtain⟨a,m,e,s,k,o⟩:=q;exact⟨a,m,e,h _ _ s,k,λp hp=>(o p hp).mono h⟩
theorem aL.mono{K:⇑0}{F F':Hp}(h:av F F'):∀{ds:List LS}{xs:List V},aL K F ds xs->aL K F' ds xs|[],_,q=>by simp only[aL]at q⊢;exact q|d::ds,_,q=>by simp only[aL]at q⊢;obtain⟨x,r,e,a,b⟩:=q;exact⟨x,r,e,DA.mono h a,aL.mono h b⟩
end
section
variable{K:⇑0}{F:Hp}
theorem aL.len:∀{ds:List LS}{xs:List V},aL K F ds xs->ds.length=xs.length|[],_,q=>by simp only[aL]at q;subst q;rfl|d::ds,_,q=>by simp only[aL]at q;obtain⟨x,r,e,a,b⟩:=q;subst e;simp[aL.len b]
theorem aL.get:∀{ds:List LS}{xs:List V}{i:Nat}{d:LS},aL K F ds xs->ds[i]?=some d->∃v,xs[i]?=some v/\DA K F d v|[],_,_,_,_,h=>by simp at h|d::ds,_,i,d',q,h=>by simp only[aL]at q;obtain⟨x,r,e,a,b⟩:=q;subst e;cases i with|zero=>simp at h;subst h;exact⟨x,rfl,a⟩|succ i=>obtain⟨v,h1,h2⟩:=aL.get (i:=i) b (by simpa using h);exact⟨v,by simpa using h1,h2⟩
theorem aL.append:∀{ds es:List LS}{xs ys:List V},aL K F ds xs->aL K F es ys->aL K F (ds++es) (xs++ys)|[],_,_,_,q,s=>by simp only[aL]at q;subst q;simpa using s|d::ds,es,_,ys,q,s=>by simp only[aL]at q;obtain⟨x,r,e,a,b⟩:=q;subst e;simp only[Oi,aL];exact⟨x,_,rfl,a,aL.append b s⟩
theorem aL.one{d:LS}{v:V}(h:DA K F d v):aL K F [d] [v]:=by simp only[aL];exact⟨_,_,rfl,h,rfl⟩
theorem aL.nil:aL K F [] []:=by simp only[aL]
theorem aL.cons{d:LS}{v:V}{ds:List LS}{vs:List V}(h:DA K F d v)(r:aL K F ds vs):aL K F (d::ds) (v::vs):=by simp only[aL];exact⟨_,_,rfl,h,r⟩
theorem aL.drop:∀{ds:List LS}{xs:List V}(n:Nat),aL K F ds xs->aL K F (ds.drop n) (xs.drop n)|_,_,0,q=>q|[],_,n+1,q=>by simp only[aL]at q;subst q;exact aL.nil|d::ds,_,n+1,q=>by simp only[aL]at q;obtain⟨x,r,e,a,b⟩:=q;subst e;simpa using aL.drop n b
theorem aL.take:∀{ds:List LS}{xs:List V}(n:Nat),aL K F ds xs->aL K F (ds.take n) (xs.take n)|_,_,0,q=>by simpa using aL.nil|[],_,n+1,q=>by simp only[aL]at q;subst q;exact aL.nil|d::ds,_,n+1,q=>by simp only[aL]at q;obtain⟨x,r,e,a,b⟩:=q;subst e;simpa using aL.cons a (aL.take n b)
theorem aL.erase:∀{ds:List LS}{xs:List V}(n:Nat),aL K F ds xs->aL K F (ds.eraseIdx n) (xs.eraseIdx n)|[],_,_,q=>by simp only[aL]at q;subst q;exact aL.nil|e::ds,_,n,q=>by simp only[aL]at q;obtain⟨x,r,e,a,b⟩:=q;subst e;cases n with|zero=>exact b|succ n=>exact aL.cons a (aL.erase n b)
theorem aL.ints:∀{ns:List Int}{xs:List V},aL K F (ns.map .int) xs↔xs=ns.map V.int
 |[],xs=>by simp[aL]|n::ns,xs=>by
  simp only[Mp,aL,DA];constructor;·rintro⟨x,r,e,rfl,q⟩;rw[e,aL.ints.mp q]
  ·rintro rfl;exact⟨_,_,rfl,rfl,aL.ints.mpr rfl⟩
theorem aL.bools:∀{ns:List Bool}{xs:List V},aL K F (ns.map .bool) xs↔xs=ns.map V.bl
 |[],xs=>by simp[aL]|n::ns,xs=>by
  simp only[Mp,aL,DA];constructor;·rintro⟨x,r,e,rfl,q⟩;rw[e,aL.bools.mp q]
  ·rintro rfl;exact⟨_,_,rfl,rfl,aL.bools.mpr rfl⟩
theorem c_{i:Int}{v:V}:DA K F (.int i) v↔v=.int i:=by simp only[DA]
theorem d_{b:Bool}{v:V}:DA K F (.bool b) v↔v=.bl b:=by simp only[DA]
theorem vE{v:V}:DA K F .none v↔v=.non:=by simp only[DA]
theorem qW{x:Str}{v:V}:DA K F (.str x) v↔v=.str x:=by simp only[DA]
theorem eT{ds:List LS}{v:V}:DA K F (.tuple ds) v↔∃a xs,v=.ref a/\dO K F a xs/\aL K F ds xs:=by simp only[DA]
theorem fC{ds:List LS}{v:V}:DA K F (.list ds) v↔∃a xs,v=.ref a/\i6 K F a xs/\aL K F ds xs:=by simp only[DA]
end
inductive Sv where|d (x:LS)|l (xs:List LS)/--a list of lists that nobody else holds -/|n (xss:List (List LS))
abbrev En:=List (Option Sv)
inductive Rv where|d (x:LS)|l (xs:List LS)|s (i:Nat)
def Fp(σ:L2.St)(e:En)(H:Hp)(i:Nat)(a:LQ):Prop:=(∃xs:List LS,e[i]?=some (some (Sv.l xs))/\σ[i]?=some (some (.ref a)))\/∃(xss:List (List LS)) (l:LQ) (bs:List LQ),e[i]?=some (some (Sv.n xss))/\σ[i]?=some (some (.ref l))/\H l=some (.lst (bs.map V.ref))/\(a=l\/a∈bs)
def cn(σ:L2.St)(e:En)(H:Hp)(a:LQ):Prop:=∃i,Fp σ e H i a
structure aZ (K:⇑0) (F H:Hp) (σ:L2.St) (e:En):Prop where
 sm:av F H
 len:σ.length=e.length
 dat:∀(i:Nat) (x:LS),e[i]?=some (some (.d x))->∃v,σ[i]?=some (some v)/\DA K F x v
 own:∀(i:Nat) (xs:List LS),e[i]?=some (some (.l xs))->∃l vs,σ[i]?=some (some (.ref l))/\F l=none/\H l=some (.lst vs)/\aL K F xs vs
 nst:∀(i:Nat) (xss:List (List LS)),e[i]?=some (some (.n xss))->∃(l:LQ) (bs:List LQ),σ[i]?=some (some (.ref l))/\F l=none/\H l=some (.lst (bs.map V.ref))/\bs.length=xss.length/\bs.Nodup/\l∉bs/\∀(k:Nat) (b:LQ) (ys:List LS),bs[k]?=some b->xss[k]?=some ys->F b=none/\∃us,H b=some (.lst us)/\aL K F ys us
 fp:∀(i j:Nat) (a:LQ),Fp σ e H i a->Fp σ e H j a->i=j
theorem aZ.inj{K:⇑0}{F H:Hp}{σ:L2.St}{e:En}(R:aZ K F H σ e)(i j:Nat)(xs ys:List LS)(l:LQ)(h1:e[i]?=some (some (.l xs)))(h2:e[j]?=some (some (.l ys)))(h3:σ[i]?=some (some (.ref l)))(h4:σ[j]?=some (some (.ref l))):i=j:=R.fp i j l (.inl ⟨xs,h1,h3⟩) (.inl ⟨ys,h2,h4⟩)
theorem aZ.fpAt{K:⇑0}{F H:Hp}{σ:L2.St}{e:En}(R:aZ K F H σ e){i:Nat}{a:LQ}(h:Fp σ e H i a):F a=none/\∃vs,H a=some (.lst vs):=by
 rcases h with⟨xs,h1,h2⟩|⟨xss,l,bs,h1,h2,h3,h4⟩;·obtain⟨l,vs,g1,g2,g3,_⟩:=R.own i xs h1;rw[h2]at g1;cases g1;exact⟨g2,vs,g3⟩
 ·obtain⟨l',bs',g1,g2,g3,g4,g5,g6,g7⟩:=R.nst i xss h1;rw[h2]at g1;cases g1;rw[h3]at g3;have e1:bs=bs':=by have:=HO.lst.inj (Nm g3);exact List.map_inj_right (λ_ _ z=>V.ref.inj z)|>.mp this
  subst e1;rcases h4 with rfl|h4;·exact⟨g2,_,h3⟩
  ·obtain⟨k,hk⟩:=List.getElem?_of_mem h4;have hk2:k<xss.length:=by rw[<-g4];exact(LJ hk).1
   obtain⟨c1,us,c2,_⟩:=g7 k a xss[k] hk (My hk2);exact⟨c1,us,c2⟩
structure eP (σ:L2.St) (F H:Hp) (e:En) (F' H':Hp) (e':En):Prop where
 sf:av F F'
 dom:∀a,H' a=none->H a=none
 fr:∀a vs,F a=none->H a=some (.lst vs)->¬cn σ e H a->F' a=none
 lst:∀a vs,H a=some (.lst vs)->∃vs',H' a=some (.lst vs')tmp:∀a o,H a=some o->¬cn σ e H a->H' a=some o
 shp:∀i:Nat,(∃xs,e'[i]?=some (some (.l xs)))↔(∃xs,e[i]?=some (some (.l xs)))ow:∀a,cn σ e' H' a->cn σ e H a\/H a=none
 fd:∀a m,F a=none->H a=some (.dK m)->¬cn σ e H a->F' a=none
theorem eP.refl(σ:L2.St)(F H:Hp)(e:En):eP σ F H e F H e:=⟨av.refl _,λ_ h=>h,λ_ _ h _ _=>h,λ_ vs h=>⟨vs,h⟩,λ_ _ h _=>h,λ_=>Iff.rfl,λ_ h=>.inl h,λ_ _ h _ _=>h⟩
theorem eP.trans{σ:L2.St}{F H F1 H1 F2 H2:Hp}{e e1 e2:En}(x:eP σ F H e F1 H1 e1)(y:eP σ F1 H1 e1 F2 H2 e2):eP σ F H e F2 H2 e2:=⟨x.sf.trans y.sf,λa h=>x.dom a (y.dom a h),λa vs h n no=>let⟨vs',q⟩:=x.lst a vs n;y.fr a vs' (x.fr a vs h n no) q (λz=>(x.ow a z).elim no λz=>by rw[n]at z;cases z),λa vs h=>let⟨vs',q⟩:=x.lst a vs h;y.lst a vs' q,λa o h n=>y.tmp a o (x.tmp a o h n) (λz=>(x.ow a z).elim n λz=>by rw[h]at z;cases z),λi=>(y.shp i).trans (x.shp i),λa h=>(y.ow a h).elim (x.ow a) λz=>.inr (x.dom a z),λa m h n no=>y.fd a m (x.fd a m h n no) (x.tmp a _ n no) (λz=>(x.ow a z).elim no λz=>by rw[n]at z;cases z)⟩
def cj(K:⇑0)(σ:L2.St)(H0 F H:Hp)(e:En):Rv->V->Prop|.d x,v=>DA K F x v|.l xs,v=>∃l vs,v=.ref l/\H0 l=none/\F l=none/\H l=some (.lst vs)/\aL K F xs vs/\¬cn σ e H l|.s i,v=>σ[i]?=some (some v)/\∃xs,e[i]?=some (some (.l xs))
section
variable{K:⇑0}{σ:L2.St}{H0 F H F' H':Hp}{e e':En}{r:Rv}{v:V}
theorem cj.ext(h:cj K σ H0 F H e r v)(x:eP σ F H e F' H' e'):cj K σ H0 F' H' e' r v:=by cases r with|d y=>exact DA.mono x.sf h|l xs=>obtain⟨l,vs,e1,h1,h2,h3,h4,h5⟩:=h;exact⟨l,vs,e1,h1,x.fr l _ h2 h3 h5,x.tmp l _ h3 h5,aL.mono x.sf h4,λz=>(x.ow l z).elim h5 λz=>by rw[h3]at z;cases z⟩|s i=>exact⟨h.1,(x.shp i).mpr h.2⟩
theorem cj.weak{H1:Hp}(h:cj K σ H1 F H e r v)(d:∀a,H1 a=none->H0 a=none):cj K σ H0 F H e r v:=by cases r with|d y=>exact h|l xs=>obtain⟨l,vs,e1,h1,r⟩:=h;exact⟨l,vs,e1,d l h1,r⟩|s i=>exact h
theorem aZ.ownH(R:aZ K F H σ e)(a:LQ)(h:cn σ e H a):H a≠none:=by obtain⟨i,h⟩:=h;obtain⟨_,vs,h2⟩:=R.fpAt h;rw[h2];simp
theorem aZ.freeF(R:aZ K F H σ e){p:LQ}(hp:H p=none):F p=none:=R.sm.free hp
theorem AN(R:aZ K F H σ e)(h:∀l bs,H l=some (.lst bs)->cn σ e H l->H' l=some (.lst bs)){i:Nat}{a:LQ}:Fp σ e H' i a↔Fp σ e H i a:=by
 have key:∀xss l,e[i]?=some (some (.n xss))->σ[i]?=some (some (.ref l))->H' l=H l:=λxss l h1 h2=>by obtain⟨l',bs,g1,g2,g3,_⟩:=R.nst i xss h1;rw[h2]at g1;cases g1;rw[g3];exact h l _ g3 ⟨i,.inr ⟨xss,l,bs,h1,h2,g3,.inl rfl⟩⟩
 constructor
 ·rintro(h1|⟨xss,l,bs,h1,h2,h3,h4⟩);·exact .inl h1
  ·exact .inr ⟨xss,l,bs,h1,h2,by rw[<-key xss l h1 h2];exact h3,h4⟩
 ·rintro(h1|⟨xss,l,bs,h1,h2,h3,h4⟩);·exact .inl h1
  ·exact .inr ⟨xss,l,bs,h1,h2,by rw[key xss l h1 h2];exact h3,h4⟩
theorem aZ.keep(R:aZ K F H σ e)(sF:av F F')(sm:av F' H')(hf:∀a,cn σ e H a->F' a=none)(hh:∀a o,cn σ e H a->H a=some o->H' a=some o):aZ K F' H' σ e/\∀a,cn σ e H' a↔cn σ e H a:=by
 have fs:∀{i a},Fp σ e H' i a↔Fp σ e H i a:=fun{i a}=>AN R λl bs h1 h2=>hh l _ h2 h1;refine⟨⟨sm,R.len,λi x h=>let⟨v,h1,h2⟩:=R.dat i x h;⟨v,h1,DA.mono sF h2⟩,λi xs h=>?_,λi xss h=>?_,λi j a h1 h2=>R.fp i j a (fs.mp h1) (fs.mp h2)⟩,λa=>⟨λ⟨i,h⟩=>⟨i,fs.mp h⟩,λ⟨i,h⟩=>⟨i,fs.mpr h⟩⟩⟩;·obtain⟨l,vs,h1,h2,h3,h4⟩:=R.own i xs h;have o:cn σ e H l:=⟨i,.inl ⟨xs,h,h1⟩⟩;exact⟨l,vs,h1,hf l o,hh l _ o h3,h4.mono sF⟩
 ·obtain⟨l,bs,h1,h2,h3,h4,h5,h6,h7⟩:=R.nst i xss h;have o:cn σ e H l:=⟨i,.inr ⟨xss,l,bs,h,h1,h3,.inl rfl⟩⟩;refine⟨l,bs,h1,hf l o,hh l _ o h3,h4,h5,h6,λk b ys g1 g2=>?_⟩;obtain⟨c1,us,c2,c3⟩:=h7 k b ys g1 g2;have ob:cn σ e H b:=⟨i,.inr ⟨xss,l,bs,h,h1,h3,.inr (LO g1)⟩⟩;exact⟨hf b ob,us,hh b _ ob c2,c3.mono sF⟩
theorem aZ.same(R:aZ K F H σ e)(s:av H H'):aZ K F H' σ e/\eP σ F H e F H' e:=by obtain⟨R',o'⟩:=R.keep (av.refl F) (R.sm.trans s) (λa⟨i,h⟩=>(R.fpAt h).1) λa o _ h=>s a o h;exact⟨R',⟨av.refl _,λa h=>s.free h,λ_ _ h _ _=>h,λa vs h=>⟨vs,s _ _ h⟩,λa o h _=>s a o h,λ_=>Iff.rfl,λa h=>.inl ((o' a).mp h),λ_ _ h _ _=>h⟩⟩
theorem aZ.freeze(R:aZ K F H σ e){p:LQ}{o:HO}(hF:F p=none)(hp:H p=some o)(hn:¬cn σ e H p):aZ K (bI F p o) H σ e/\av F (bI F p o):=by
 have sF:av F (bI F p o):=av.new hF;refine⟨(R.keep sF (λb u q=>?_) (λa ha=>?_) λ_ _ _ h=>h).1,sF⟩
 ·by_cases z:b=p;·subst z;rw[aC]at q;cases q;exact hp
  ·rw[aJ z]at q;exact R.sm _ _ q
 ·obtain⟨i,hi⟩:=ha;have z:a≠p:=λz=>hn ⟨i,by rw[<-z];exact hi⟩;rw[aJ z];exact(R.fpAt hi).1
theorem aZ.notOwn(R:aZ K F H σ e){p:LQ}{o:HO}(hp:H p=some o)(hl:∀vs,o≠.lst vs):¬cn σ e H p:=λ⟨i,h⟩=>by obtain⟨_,vs,g⟩:=R.fpAt h;rw[hp]at g;cases g;exact hl _ rfl
theorem aZ.newT(R:aZ K F H σ e){p:LQ}{vs:List V}(hp:H p=none):aZ K (bI F p (.tup vs)) (bI H p (.tup vs)) σ e/\eP σ F H e (bI F p (.tup vs)) (bI H p (.tup vs)) e:=by have hF:=R.freeF hp;obtain⟨R1,X1⟩:=R.same (av.new hp (o:=.tup vs));obtain⟨R2,s2⟩:=R1.freeze (p:=p) hF aC (R1.notOwn aC (λ_ z=>nomatch z));refine⟨R2,⟨s2,X1.dom,λa ws h n _=>?_,X1.lst,X1.tmp,X1.shp,X1.ow,λa ws h n _=>?_⟩⟩;all_goals
 have z:a≠p:=λz=>by rw[z,hp]at n;cases n
 rw[aJ z];exact h
theorem aZ.sameOwn(R:aZ K F H σ e)(s:av H H')(a:LQ):cn σ e H' a↔cn σ e H a:=(R.keep (av.refl F) (R.sm.trans s) (λa⟨i,h⟩=>(R.fpAt h).1) λa o _ h=>s a o h).2 a
theorem aZ.newL(R:aZ K F H σ e){p:LQ}{vs:List V}(hp:H p=none):aZ K F (bI H p (.lst vs)) σ e/\eP σ F H e F (bI H p (.lst vs)) e/\F p=none/\¬cn σ e (bI H p (.lst vs)) p:=⟨(R.same (av.new hp)).1,(R.same (av.new hp)).2,R.freeF hp,λz=>R.ownH p ((R.sameOwn (av.new hp) p).mp z) hp⟩
theorem aZ.growT(R:aZ K F H σ e){p:LQ}{xs:List V}(s:av H H')(hp:dO K H' p xs):∃F',aZ K F' H' σ e/\eP σ F H e F' H' e/\dO K F' p xs:=by
 obtain⟨R1,X1⟩:=R.same s;rcases hp with hp|hp
 ·have key:∀o,H' p=some o->(∀vs,o≠.lst vs)->(∀m,o≠.dK m)->(∀G:Hp,G p=some o->Rd G p (.tup xs))->∃F',aZ K F' H' σ e/\eP σ F H e F' H' e/\dO K F' p xs:=by intro o ho hl hm hr;cases q:F p with|some u=>have:=R1.sm _ _ q;rw[ho]at this;cases this;exact⟨F,R1,X1,.inl (hr F q)⟩|none=>
    obtain⟨R2,s2⟩:=R1.freeze q ho (R1.notOwn ho hl);refine⟨_,R2,⟨s2,X1.dom,λa ws h n _=>?_,X1.lst,X1.tmp,X1.shp,X1.ow,λa ws h n _=>?_⟩,.inl (hr _ aC)⟩
    ·have z:a≠p:=λz=>by rw[z]at n;rw[s _ _ n]at ho;cases ho;exact hl _ rfl
     rw[aJ z];exact h
    ·have z:a≠p:=λz=>by rw[z]at n;rw[s _ _ n]at ho;cases ho;exact hm _ rfl
     rw[aJ z];exact h
  rcases hp with hp|⟨ob,hp⟩;·exact key _ hp (λ_ z=>nomatch z) (λ_ z=>nomatch z) λG g=>.inl g
  ·exact key _ hp (λ_ z=>nomatch z) (λ_ z=>nomatch z) λG g=>.inr ⟨ob,g⟩
 ·exact⟨F,R1,X1,.inr hp⟩
theorem cj.frozen(R:aZ K F H σ e){xs:List LS}(h:cj K σ H0 F H e (.l xs) v):∃F',aZ K F' H σ e/\av F F'/\DA K F' (.list xs) v/\(∀a,F a=none->H0 a≠none->F' a=none):=by
 obtain⟨l,vs,rfl,h1,h2,h3,h4,h5⟩:=h;obtain⟨R2,s2⟩:=R.freeze h2 h3 h5;refine⟨_,R2,s2,?_,λa ha hn=>?_⟩;·rw[fC];exact⟨l,vs,rfl,.inl (.inl aC),aL.mono s2 h4⟩
 ·have z:a≠l:=λz=>hn (by rw[z];exact h1);rw[aJ z];exact ha
def cV(e:En):Rv->Option (Bool×List LS)
 |.d (.tuple xs)=>some (false,xs)|.d (.list xs)=>some (true,xs)|.l xs=>some (true,xs)|.s i=>match e[i]? with|some (some (.l xs))=>some (true,xs)|_=>none
 |_=>none
theorem cI(R:aZ K F H σ e)(h:cj K σ H0 F H e r v){b:Bool}{xs:List LS}(q:cV e r=some (b,xs)):∃p vs,v=.ref p/\aL K F xs vs/\(if b=true then i6 K H p vs else dO K H p vs):=by cases r with
 |d x=>cases x with|tuple ds=>cases q;obtain⟨a,ys,e1,e2,e3⟩:=eT.mp h;exact⟨a,ys,e1,e3,R.sm.tup e2⟩|list ds=>cases q;obtain⟨a,ys,e1,e2,e3⟩:=fC.mp h;exact⟨a,ys,e1,e3,R.sm.seq e2⟩|_=>cases q
 |l ys=>cases q;obtain⟨l,vs,e1,h1,h2,h3,h4,_⟩:=h;exact⟨l,vs,e1,h4,.inl (.inl h3)⟩|s i=>obtain⟨h1,ys,h2⟩:=h;simp only[cV,h2]at q;cases q;obtain⟨l,vs,e1,e2,e3,e4⟩:=R.own i _ h2;rw[h1]at e1;cases e1;exact⟨l,vs,rfl,e4,.inl (.inl e3)⟩
end
abbrev FE:=En->Option (Rv×En)
abbrev FT:=En->Option (Bool×En)
abbrev FA:=En->Option (List Rv×En)
def cu(K:⇑0)(σ:L2.St)(H0 F H:Hp)(e:En):List Rv->List V->Prop|[],vs=>vs=[]|r::rs,vs=>∃v ws,vs=v::ws/\cj K σ H0 F H e r v/\cu K σ H0 F H e rs ws
def fE(K:⇑0)(f:FE):TE:=λσ H Q=>∃F e r e',aZ K F H σ e/\f e=some (r,e')/\∀F' H' v,eP σ F H e F' H' e'->aZ K F' H' σ e'->cj K σ H F' H' e' r v->Q v H'
def fT(K:⇑0)(f:FT):TT:=λσ H Q=>∃F e b e',aZ K F H σ e/\f e=some (b,e')/\∀F' H',eP σ F H e F' H' e'->aZ K F' H' σ e'->Q b H'
def fA(K:⇑0)(f:FA):TA:=λσ H Q=>∃F e rs e',aZ K F H σ e/\f e=some (rs,e')/\∀F' H' vs,eP σ F H e F' H' e'->aZ K F' H' σ e'->cu K σ H F' H' e' rs vs->Q vs H'
theorem PE.mono{X:Cx}{e:LU}{t t':TE}(h:PE X e t)(m:∀σ H Q,t' σ H Q->t σ H Q):PE X e t':=λpins s σ H Q I q=>h pins s σ H Q I (m σ H Q q)
theorem PT.mono{X:Cx}{e:LU}{t t':TT}(h:PT X e t)(m:∀σ H Q,t' σ H Q->t σ H Q):PT X e t':=λpins s σ H Q I q=>h pins s σ H Q I (m σ H Q q)
theorem PW.mono{X:Cx}{e:LU}{t t':TT}(h:PW X e t)(m:∀σ H Q,t' σ H Q->t σ H Q):PW X e t':=λwh pins s σ H Q I q=>h wh pins s σ H Q I (m σ H Q q)
theorem PA.mono{X:Cx}{es:List LU}{t t':TA}(h:PA X es t)(m:∀σ H Q,t' σ H Q->t σ H Q):PA X es t':=λpos pins s σ H Q I q=>h pos pins s σ H Q I (m σ H Q q)
section
variable{K:⇑0}{σ:L2.St}{H0 F H F' H':Hp}{e e':En}
theorem cu.weak{H1:Hp}(d:∀a,H1 a=none->H0 a=none):∀{rs:List Rv}{vs:List V},cu K σ H1 F H e rs vs->cu K σ H0 F H e rs vs|[],_,h=>h|r::rs,_,h=>by obtain⟨v,ws,rfl,h1,h2⟩:=h;exact⟨v,ws,rfl,h1.weak d,cu.weak d h2⟩
theorem eP.frz{F'':Hp}(x:eP σ F H e F' H' e')(s:av F' F'')(h:∀a,F' a=none->H a≠none->F'' a=none):eP σ F H e F'' H' e':=⟨x.sf.trans s,x.dom,λa vs h1 h2 h3=>h a (x.fr a vs h1 h2 h3) (by rw[h2];simp),x.lst,x.tmp,x.shp,x.ow,λa m h1 h2 h3=>h a (x.fd a m h1 h2 h3) (by rw[h2];simp)⟩
def fD:List Rv->Option (List LS)|[]=>some []|.d x::rs=>(fD rs).map (x::·)|.l xs::rs=>(fD rs).map (.list xs::·)|.s _::_=>none
theorem cu.frozen:∀{rs:List Rv}{vs:List V}{ds:List LS}{F:Hp},aZ K F H σ e->cu K σ H0 F H e rs vs->fD rs=some ds->∃F',aZ K F' H σ e/\av F F'/\aL K F' ds vs/\(∀a,F a=none->H0 a≠none->F' a=none)|[],_,_,F,R,h,q=>by cases q;have h':_=[]:=h;subst h';exact⟨F,R,av.refl _,aL.nil,λ_ h _=>h⟩|.d x::rs,_,ds,F,R,h,q=>by obtain⟨v,ws,rfl,h1,h2⟩:=h;obtain⟨ds',q1,rfl⟩:=LI q;obtain⟨F',R',s',d',f'⟩:=cu.frozen R h2 q1;exact⟨F',R',s',.cons (DA.mono s' h1) d',f'⟩|.l xs::rs,_,ds,F,R,h,q=>by obtain⟨v,ws,rfl,h1,h2⟩:=h;obtain⟨ds',q1,rfl⟩:=LI q;obtain⟨F',R',s',d',f'⟩:=cu.frozen R h2 q1;obtain⟨l,us,rfl,g1,g2,g3,g4,g5⟩:=h1;cases hl:F' l with|none=>have h1':cj K σ H0 F' H e (.l xs) (.ref l):=⟨l,us,rfl,g1,hl,g3,aL.mono s' g4,g5⟩;obtain⟨F2,R2,s2,d2,f2⟩:=h1'.frozen R';exact⟨F2,R2,s'.trans s2,.cons d2 (aL.mono s2 d'),λa ha hn=>f2 a (f' a ha hn) hn⟩|some o=>have:=R'.sm _ _ hl;rw[g3]at this;cases this;exact⟨F',R',s',.cons (fC.mpr ⟨l,us,rfl,.inl (.inl hl),aL.mono s' g4⟩) d',f'⟩
end
section
variable{X:Cx}{K:⇑0}{a b c:LU}{fa fb:FE}{ft fu:FT}{pos:Pos}{es:List LU}{fs:FA}
def af(i:Nat):FE:=λe=>match e[i]? with|some (some (.d x))=>some (.d x,e)|some (some (.l _))=>some (.s i,e)|_=>none
def vC(x:LS):FE:=λe=>some (.d x,e)
theorem Ce{i:Nat}{σ:L2.St}{H:Hp}{Q:VK}(h:fE K (af i) σ H Q):xG i σ H Q:=by obtain⟨F,e,r,e',R,hf,q⟩:=h;unfold af at hf;match h1:e[i]?,hf with|some (some (.d x)),hf=>cases hf;obtain⟨v,h2,h3⟩:=R.dat i x h1;exact⟨v,h2,q F H v (eP.refl _ _ _ _) R h3⟩|some (some (.n _)),hf=>cases hf|some (some (.l xs)),hf=>cases hf;obtain⟨l,vs,h2,h3⟩:=R.own i xs h1;exact⟨_,h2,q F H _ (eP.refl _ _ _ _) R ⟨h2,xs,h1⟩⟩|some none,hf=>cases hf|none,hf=>cases hf
theorem qv(i:Nat){x:Str}{pos:Pos}(hN:X.N[i]?=some x)(hv:E1 X.env.scope x)(hd:(x==("__debug__":Str))=false)(hcd:(x==("__classdict__":Str))=false):PE X (.Name x pos) (fE K (af i)):=(uW hN hv hd hcd).mono λ_ _ _ h=>Ce h
theorem wq{x:LS}{v:V}{σ:L2.St}{H:Hp}{Q:VK}(hx:∀F,DA K F x v)(h:fE K (vC x) σ H Q):tC v σ H Q:=by obtain⟨F,e,r,e',R,hf,q⟩:=h;cases hf;exact q F H v (eP.refl _ _ _ _) R (hx F)
theorem ag{i j pos}:PE X (.Constant (.int i) j pos) (fE K (vC (.int i))):=Eb.mono λ_ _ _ h=>wq (λ_=>c_.mpr rfl) h
theorem iY{b j pos}:PE X (.Constant (.bool b) j pos) (fE K (vC (.bool b))):=CU.mono λ_ _ _ h=>wq (λ_=>d_.mpr rfl) h
theorem Es{x j pos}:PE X (.Constant (.str x) j pos) (fE K (vC (.str x))):=Ef.mono λ_ _ _ h=>wq (λ_=>qW.mpr rfl) h
theorem lC{x:Str}{v:V}{u:LP}{pos:Pos}{y:LS}(hg:Gl X x)(hm:X.mg x=some u)(r:bu v u)(hy:∀F,DA K F y v)(hd:(x==("__debug__":Str))=false):PE X (.Name x pos) (fE K (vC y)):=(jR hg hm r hd).mono λ_ _ _ h=>wq hy h
def jG(K:⇑0)(r:R2)(g:En->Rv->Rv->Option Rv):Prop:=∀(σ:L2.St) (H0 F H:Hp) (e:En) (x y z:Rv) (v u:V) (Q:VK),aZ K F H σ e->cj K σ H0 F H e x v->cj K σ H0 F H e y u->g e x y=some z->(∀F' H' w,eP σ F H e F' H' e->aZ K F' H' σ e->cj K σ H F' H' e z w->Q w H')->r v u H Q
def aB(g:En->Rv->Rv->Option Rv)(fa fb:FE):FE:=λe=>(fa e).bind λp=>(fb p.2).bind λq=>(g q.2 p.1 q.1).map λz=>(z,q.2)
theorem r9{r:R2}{g:En->Rv->Rv->Option Rv}(ho:jG K r g){σ:L2.St}{H:Hp}{Q:VK}(h:fE K (aB g fa fb) σ H Q):GJ r (fE K fa) (fE K fb) σ H Q:=by obtain⟨F,e,z,e2,R,hf,q⟩:=h;unfold aB at hf;obtain⟨⟨x,e1⟩,h1,hf⟩:=LH hf;obtain⟨⟨y,e2'⟩,h2,hf⟩:=LH hf;obtain⟨z',h3,hf⟩:=LI hf;cases hf;refine⟨F,e,x,e1,R,h1,λF1 H1 v X1 R1 A1=>⟨F1,e1,y,_,R1,h2,λF2 H2 u X2 R2 A2=>?_⟩⟩;have X12:=X1.trans X2;refine ho σ H F2 H2 _ x y _ v u Q R2 (A1.ext X2) (A2.weak X1.dom) h3 λF3 H3 w X3 R3 A3=>?_;exact q F3 H3 w (X12.trans X3) R3 (A3.weak X12.dom)
theorem qh{op:Operator}{r:R2}{g:En->Rv->Rv->Option Rv}(hr:i5 X (Ng op) r)(ho:jG K r g)(ha:PE X a (fE K fa))(hb:PE X b (fE K fb)):PE X (.BinOp a op b pos) (fE K (aB g fa fb)):=(Gi hr ha hb).mono λ_ _ _ h=>r9 ho h
theorem Ep{op:CmpOp}{r:R2}{g:En->Rv->Rv->Option Rv}(hr:i5 X (NX op) r)(ho:jG K r g)(ha:PE X a (fE K fa))(hb:PE X b (fE K fb))(hm:OH op b=false):PE X (.Compare a [op] [b] pos) (fE K (aB g fa fb)):=(Bx hr ha hb hm).mono λ_ _ _ h=>r9 ho h
theorem Gn{r:R2}{g:En->Rv->Rv->Option Rv}(hr:AB X r)(ho:jG K r g)(ha:PE X a (fE K fa))(hb:PE X b (fE K fb))(hs:qI b):PE X (.Subscript a b pos) (fE K (aB g fa fb)):=(Gh hr ha hb hs).mono λ_ _ _ h=>r9 ho h
def ui(g:En->Rv->Option Rv)(fa:FE):FE:=λe=>(fa e).bind λp=>(g p.2 p.1).map λz=>(z,p.2)
def Fe(K:⇑0)(r:V->Hp->VK->Prop)(g:En->Rv->Option Rv):Prop:=∀(σ:L2.St) (H0 F H:Hp) (e:En) (x z:Rv) (v:V) (Q:VK),aZ K F H σ e->cj K σ H0 F H e x v->g e x=some z->(∀F' H' w,eP σ F H e F' H' e->aZ K F' H' σ e->cj K σ H F' H' e z w->Q w H')->r v H Q
theorem Ao{r:V->Hp->VK->Prop}{g:En->Rv->Option Rv}(ho:Fe K r g){σ:L2.St}{H:Hp}{Q:VK}(h:fE K (ui g fa) σ H Q):Iq r (fE K fa) σ H Q:=by obtain⟨F,e,z,e2,R,hf,q⟩:=h;unfold ui at hf;obtain⟨⟨x,e1⟩,h1,hf⟩:=LH hf;obtain⟨z',h3,hf⟩:=LI hf;cases hf;refine⟨F,e,x,_,R,h1,λF1 H1 v X1 R1 A1=>?_⟩;refine ho σ H F1 H1 _ x _ v Q R1 A1 h3 λF3 H3 w X3 R3 A3=>?_;exact q F3 H3 w (X1.trans X3) R3 (A3.weak X1.dom)
theorem Gp{op:UnaryOp}{r:V->Hp->VK->Prop}{g:En->Rv->Option Rv}(hr:G1 X (unaryOp op) r)(ho:Fe K r g)(ha:PE X a (fE K fa)):PE X (.UnaryOp op a pos) (fE K (ui g fa)):=(Gj hr ha).mono λ_ _ _ h=>Ao ho h
def dA:Rv->Option Bool|.d (.bool b)=>some b|_=>none
theorem pS{σ:L2.St}{H0 F H:Hp}{e:En}{r:Rv}{v:V}{b:Bool}(h:cj K σ H0 F H e r v)(q:dA r=some b):v=.bl b:=by
 unfold dA at q;split at q;·cases q;exact d_.mp (show DA K F (.bool _) v from h)
 ·cases q
theorem rX{σ:L2.St}{H0 F H:Hp}{e:En}{b:Bool}:cj K σ H0 F H e (.d (.bool b)) (.bl b):=(d_ (K:=K) (F:=F)).mpr rfl
def aO(f:FE):FT:=λe=>(f e).bind λp=>(dA p.1).map λb=>(b,p.2)
theorem uh{σ:L2.St}{H:Hp}{Q:Bool->Hp->Prop}(h:fT K (aO fa) σ H Q):fE K fa σ H λx H'=>∃k,x=.bl k/\Q k H':=by obtain⟨F,e,b,e1,R,hf,q⟩:=h;unfold aO at hf;obtain⟨⟨x,e1'⟩,h1,hf⟩:=LH hf;obtain⟨b',h3,hf⟩:=LI hf;cases hf;exact⟨F,e,x,_,R,h1,λF1 H1 v X1 R1 A1=>⟨_,pS A1 h3,q F1 H1 X1 R1⟩⟩
theorem Et{op:CmpOp}{r:R2}{g:En->Rv->Rv->Option Rv}(hr:i5 X (NX op) r)(ho:jG K r g)(ha:PE X a (fE K fa))(hb:PE X b (fE K fb))(hm:OH op b=false):PT X (.Compare a [op] [b] pos) (fT K (aO (aB g fa fb))):=(BJ hr ha hb hm).mono λσ H Q h=>by obtain⟨F,e,z,e2,R,hf,q⟩:=uh h;exact r9 ho ⟨F,e,z,e2,R,hf,q⟩
theorem iO{e:LU}(h:PE X e (fE K fa))(he:∀whole,isTrue e X.env whole=(do let v<-whole;standAt e.pos;holding [v] (truthy v))):PT X e (fT K (aO fa)):=(uZ h he).mono λ_ _ _ h=>uh h
def my(f g:FT):FT:=λe=>(f e).bind λp=>if p.1=true then g p.2 else some (false,p.2)
def um(f g:FT):FT:=λe=>(f e).bind λp=>if p.1=true then some (true,p.2) else g p.2
def jF(f:FT):FT:=λe=>(f e).map λp=>(!p.1,p.2)
theorem Cc{σ:L2.St}{H:Hp}{Q:Bool->Hp->Prop}(h:fT K (my ft fu) σ H Q):GD (fT K ft) (fT K fu) σ H Q:=by obtain⟨F,e,b,e1,R,hf,q⟩:=h;unfold my at hf;obtain⟨⟨x,e1'⟩,h1,hf⟩:=LH hf;refine⟨F,e,x,e1',R,h1,λF1 H1 X1 R1=>?_⟩;cases x with|true=>exact⟨F1,e1',b,e1,R1,hf,λF2 H2 X2 R2=>q F2 H2 (X1.trans X2) R2⟩|false=>cases hf;exact q F1 H1 X1 R1
theorem EV{σ:L2.St}{H:Hp}{Q:Bool->Hp->Prop}(h:fT K (um ft fu) σ H Q):HQ (fT K ft) (fT K fu) σ H Q:=by obtain⟨F,e,b,e1,R,hf,q⟩:=h;unfold um at hf;obtain⟨⟨x,e1'⟩,h1,hf⟩:=LH hf;refine⟨F,e,x,e1',R,h1,λF1 H1 X1 R1=>?_⟩;cases x with|false=>exact⟨F1,e1',b,e1,R1,hf,λF2 H2 X2 R2=>q F2 H2 (X1.trans X2) R2⟩|true=>cases hf;exact q F1 H1 X1 R1
theorem Cd{σ:L2.St}{H:Hp}{Q:Bool->Hp->Prop}(h:fT K (jF ft) σ H Q):EM (fT K ft) σ H Q:=by obtain⟨F,e,b,e1,R,hf,q⟩:=h;unfold jF at hf;obtain⟨⟨x,e1'⟩,h1,hf⟩:=LI hf;cases hf;exact⟨F,e,x,_,R,h1,λF1 H1 X1 R1=>q F1 H1 X1 R1⟩
variable{dc:List LU}
theorem vV(ha:PT X a (fT K ft)):PW X (.BoolOp .And [a] pos) (fT K ft):=BM ha
theorem oN(ha:PT X a (fT K ft)):PW X (.BoolOp .Or [a] pos) (fT K ft):=zJ ha
theorem zO(ha:PT X a (fT K ft))(hb:PW X (.BoolOp .And (b::dc) pos) (fT K fu)):PW X (.BoolOp .And (a::b::dc) pos) (fT K (my ft fu)):=(Em ha hb).mono λ_ _ _ h=>Cc h
theorem tL(ha:PT X a (fT K ft))(hb:PW X (.BoolOp .Or (b::dc) pos) (fT K fu)):PW X (.BoolOp .Or (a::b::dc) pos) (fT K (um ft fu)):=(CW ha hb).mono λ_ _ _ h=>EV h
theorem ms(ha:PT X a (fT K ft)):PT X (.UnaryOp .Not a pos) (fT K (jF ft)):=(zI ha).mono λ_ _ _ h=>Cd h
theorem u7{e:LU}(h:PW X e (fT K ft)):PT X e (fT K ft):=h.pt
def jE(f g:FE):FE:=λe=>(f e).bind λp=>(dA p.1).bind λb=>if b=true then g p.2 else some (.d (.bool false),p.2)
def ug(f g:FE):FE:=λe=>(f e).bind λp=>(dA p.1).bind λb=>if b=true then some (.d (.bool true),p.2) else g p.2
def nc(f:FE):FE:=λe=>(f e).bind λp=>(dA p.1).map λb=>(.d (.bool (!b)),p.2)
theorem Eo(ha:PE X a (fE K fa))(hb:PE X (.BoolOp .And (b::dc) pos) (fE K fb)):PE X (.BoolOp .And (a::b::dc) pos) (fE K (jE fa fb)):=(zo ha hb).mono λσ H Q h=>by obtain⟨F,e,z,e2,R,hf,q⟩:=h;unfold jE at hf;obtain⟨⟨x,e1⟩,h1,hf⟩:=LH hf;obtain⟨b,h2,hf⟩:=LH hf;refine⟨F,e,x,e1,R,h1,λF1 H1 v X1 R1 A1=>⟨b,pS A1 h2,?_⟩⟩;cases b with|true=>exact⟨F1,e1,z,e2,R1,hf,λF2 H2 w X2 R2 A2=>q F2 H2 w (X1.trans X2) R2 (A2.weak X1.dom)⟩|false=>cases hf;exact q F1 H1 _ X1 R1 rX
theorem Er{op}(h:PE X a (fE K fa)):PE X (.BoolOp op [a] pos) (fE K fa):=zq h
def Dd(t:FT)(f g:FE):FE:=λe=>(t e).bind λp=>if p.1=true then f p.2 else g p.2
def aj:FA:=λe=>some ([],e)
def aa(fa:FE)(fs:FA):FA:=λe=>(fa e).bind λp=>(fs p.2).map λq=>(p.1::q.1,q.2)
theorem ae:PA X [] (fA K aj):=mj.mono λσ H Q h=>by obtain⟨F,e,r,e',R,hf,q⟩:=h;cases hf;exact q F H [] (eP.refl _ _ _ _) R rfl
theorem HH(ha:PE X a (fE K fa))(hr:PA X es (fA K fs))(h:QX a=false):PA X (a::es) (fA K (aa fa fs)):=(HE ha hr h).mono λσ H Q h=>by obtain⟨F,e,z,e2,R,hf,q⟩:=h;unfold aa at hf;obtain⟨⟨x,e1⟩,h1,hf⟩:=LH hf;obtain⟨⟨xs,e2'⟩,h2,hf⟩:=LI hf;cases hf;refine⟨F,e,x,e1,R,h1,λF1 H1 v X1 R1 A1=>⟨F1,e1,xs,_,R1,h2,λF2 H2 vs X2 R2 A2=>?_⟩⟩;exact q F2 H2 (v::vs) (X1.trans X2) R2 ⟨v,vs,rfl,A1.ext X2,A2.weak X1.dom⟩
def bf(fs:FA):FE:=λe=>(fs e).bind λp=>(fD p.1).bind λds=>if ds.length<=1000 then some (.d (.tuple ds),p.2) else none
def cW(fs:FA):FE:=λe=>(fs e).bind λp=>(fD p.1).bind λds=>if ds.length<=1000 then some (.l ds,p.2) else none
theorem aG{x1}(h:PA X es (fA K fs)):PE X (.Tuple es x1 pos) (fE K (bf fs)):=(zu h).mono λσ H Q h=>by
 obtain⟨F,e,z,e2,R,hf,q⟩:=h;unfold bf at hf;obtain⟨⟨rs,e1⟩,h1,hf⟩:=LH hf;obtain⟨ds,h2,hf⟩:=LH hf;split at hf;case isFalse=>cases hf
 case isTrue hl=>cases hf;refine⟨F,e,rs,_,R,h1,λF1 H1 vs X1 R1 A1=>?_⟩;obtain⟨F2,R2,s2,d2,f2⟩:=cu.frozen R1 A1 h2;have hlen:=d2.len;refine⟨Ox (qq ↥0),λp hp=>?_⟩;obtain⟨R3,X3⟩:=R2.newT (vs:=vs) hp;exact q _ _ _ ((X1.frz s2 f2).trans X3) R3 (eT.mpr ⟨p,vs,rfl,.inl (.inl aC),aL.mono X3.sf d2⟩)
theorem bG(h:PA X es (fA K fs)):PE X (.List es pos) (fE K (cW fs)):=(Ed h).mono λσ H Q h=>by
 obtain⟨F,e,z,e2,R,hf,q⟩:=h;unfold cW at hf;obtain⟨⟨rs,e1⟩,h1,hf⟩:=LH hf;obtain⟨ds,h2,hf⟩:=LH hf;split at hf;case isFalse=>cases hf
 case isTrue hl=>cases hf;refine⟨F,e,rs,_,R,h1,λF1 H1 vs X1 R1 A1=>?_⟩;obtain⟨F2,R2,s2,d2,f2⟩:=cu.frozen R1 A1 h2;have hlen:=d2.len;refine⟨Ox (qq ↥0),λp hp=>?_⟩;obtain⟨R3,X3,hF,no⟩:=R2.newL (vs:=vs) hp;exact q _ _ _ ((X1.frz s2 f2).trans X3) R3 ⟨p,vs,rfl,X1.dom p hp,hF,aC,d2,no⟩
def cM(K:⇑0)(r:List V->Hp->VK->Prop)(g:En->List Rv->Option Rv):Prop:=∀(σ:L2.St) (H0 F H:Hp) (e:En) (xs:List Rv) (z:Rv) (vs:List V) (Q:VK),aZ K F H σ e->cu K σ H0 F H e xs vs->g e xs=some z->(∀F' H' w,eP σ F H e F' H' e->aZ K F' H' σ e->cj K σ H F' H' e z w->Q w H')->r vs H Q
def aI(g:En->List Rv->Option Rv)(fs:FA):FE:=λe=>(fs e).bind λp=>(g p.2 p.1).map λz=>(z,p.2)
theorem uf{r:List V->Hp->VK->Prop}{g:En->List Rv->Option Rv}(ho:cM K r g){σ:L2.St}{H:Hp}{Q:VK}(h:fE K (aI g fs) σ H Q):HN r (fA K fs) σ H Q:=by obtain⟨F,e,z,e2,R,hf,q⟩:=h;unfold aI at hf;obtain⟨⟨x,e1⟩,h1,hf⟩:=LH hf;obtain⟨z',h3,hf⟩:=LI hf;cases hf;refine⟨F,e,x,_,R,h1,λF1 H1 vs X1 R1 A1=>?_⟩;refine ho σ H F1 H1 _ x _ vs Q R1 A1 h3 λF3 H3 w X3 R3 A3=>?_;exact q F3 H3 w (X1.trans X3) R3 (A3.weak X1.dom)
theorem zL{x:Str}{p pos:Pos}{id:String}{r:List V->Hp->VK->Prop}{g:En->List Rv->Option Rv}(hc:cJ X (.builtin id) r)(ho:cM K r g)(hg:Gl X x)(hm:X.mg x=none)(hv:NL x=some (.builtin id))(ha:PA X (a::es) (fA K fs))(hn:x≠"__name__")(hdb:(x==("__debug__":Str))=false)(he:Mf (a::es) X.env=(false,Ml a X.env)::Mf es X.env)(hpl:(MF pos (Mf es X.env)).any (·.1)=false):PE X (.Call (.Name x p) (a::es) [] pos) (fE K (aI g fs)):=(oJ hc hg hm hv ha hn hdb he hpl).mono λ_ _ _ h=>uf ho h
theorem xt{x:Str}{p pos:Pos}{T:String}{r:List V->Hp->VK->Prop}{g:En->List Rv->Option Rv}(hc:cJ X (.type T) r)(ho:cM K r g)(hg:Gl X x)(hm:X.mg x=none)(hv:NL x=some (.type T))(ha:PA X (a::es) (fA K fs))(hn:x≠"__name__")(hdb:(x==("__debug__":Str))=false)(he:Mf (a::es) X.env=(false,Ml a X.env)::Mf es X.env)(hpl:(MF pos (Mf es X.env)).any (·.1)=false):PE X (.Call (.Name x p) (a::es) [] pos) (fE K (aI g fs)):=(xn hc hg hm hv ha hn hdb he hpl).mono λ_ _ _ h=>uf ho h
end
mutual
theorem DA.reads{X:Cx}{pins:List (LQ×Obj)}{σ:L2.St}{H:Hp}{s:LR}(I:aA X pins σ H s):∀{d:LS}{v:V}{u:LP},d.canLay0=true->DA X.K H d v->bu v u->∃as,MZ s.heap u d as|.none,_,_,_,q,r=>by simp only[DA]at q;subst q;cases r;exact⟨_,.none⟩|.bool b,_,_,_,q,r=>by simp only[DA]at q;subst q;cases r;exact⟨_,.bool b⟩|.int i,_,_,_,q,r=>by simp only[DA]at q;subst q;obtain⟨t,rfl⟩:=r;exact⟨_,.int i t⟩|.str x,_,_,_,q,r=>by simp only[DA]at q;subst q;obtain⟨t,rfl⟩:=r;exact⟨_,.str x t⟩|.tuple ds,_,_,c,q,r=>by simp only[DA]at q;obtain⟨a,xs,e,hs,rr⟩:=q;subst e;cases r;obtain⟨its,rv,⟨o,ho,hc,n,hd⟩,hz⟩:=I.tuple hs;obtain⟨as,q⟩:=aL.reads I (by simpa[MM]using c) rr rv;exact⟨_,.tuple ho hc hd q⟩|.list ds,_,_,c,q,r=>by simp only[DA]at q;obtain⟨a,xs,e,hs,rr⟩:=q;subst e;cases r;obtain⟨its,rv,ht,hz⟩:=I.list hs;obtain⟨o,ho,hc,n,hd⟩:=ht.isList;obtain⟨as,q⟩:=aL.reads I (by simpa[MM]using c) rr rv;exact⟨_,.list ho hc hd q⟩|.dict _,_,_,c,_,_=>by simp[MM]at c
theorem aL.reads{X:Cx}{pins:List (LQ×Obj)}{σ:L2.St}{H:Hp}{s:LR}(I:aA X pins σ H s):∀{ds:List LS}{xs:List V}{us:List LP},Na ds=true->aL X.K H ds xs->aR xs us->∃as,ReadsAll s.heap us ds as|[],_,_,_,q,r=>by simp only[aL]at q;subst q;cases r;exact⟨_,.nil⟩|d::ds,_,_,c,q,r=>by simp only[aL]at q;simp only[Na,MC]at c;obtain⟨x,rr,e,a,b⟩:=q;subst e;cases r with|cons p p'=>obtain⟨as,q1⟩:=DA.reads I c.1 a p;obtain⟨bs,q2⟩:=aL.reads I c.2 b p';exact⟨_,.cons q1 q2⟩
end
def jd(e:En):Rv->Option LS|.d x=>some x|.l xs=>some (.list xs)|.s i=>match e[i]? with|some (some (.l xs))=>some (.list xs)|_=>none
theorem n6{K:⇑0}{σ:L2.St}{H0 F H:Hp}{e:En}{r:Rv}{v:V}{d:LS}(R:aZ K F H σ e)(h:cj K σ H0 F H e r v)(q:jd e r=some d):DA K H d v:=by cases r with|d x=>cases q;exact DA.mono R.sm h|l xs=>cases q;obtain⟨l,vs,rfl,h1,h2,h3,h4,_⟩:=h;exact fC.mpr ⟨l,vs,rfl,.inl (.inl h3),aL.mono R.sm h4⟩|s i=>obtain⟨h1,ys,h2⟩:=h;simp only[jd,h2]at q;cases q;obtain⟨l,vs,e1,e2,e3,e4⟩:=R.own i _ h2;rw[h1]at e1;cases e1;exact fC.mpr ⟨l,vs,rfl,.inl (.inl e3),aL.mono R.sm e4⟩
section
variable{X:Cx}{K:⇑0}
def bF:Rv->Option Int|.d (.int i)=>some i|_=>none
theorem ci{σ:L2.St}{H0 F H:Hp}{e:En}{r:Rv}{v:V}{i:Int}(h:cj K σ H0 F H e r v)(q:bF r=some i):v=.int i:=by
 unfold bF at q;split at q;·cases q;exact c_.mp (show DA K F (.int _) v from h)
 ·cases q
theorem oQ{σ:L2.St}{H0 F H:Hp}{e:En}{i:Int}:cj K σ H0 F H e (.d (.int i)) (.int i):=(c_ (K:=K) (F:=F)).mpr rfl
def gI(C:Int->Int->Bool)(f:Int->Int->LS):En->Rv->Rv->Option Rv:=λ_ x y=>(bF x).bind λi=>(bF y).bind λj=>if C i j=true then some (.d (f i j)) else none
theorem tJ{C:Int->Int->Prop}{c:Int->Int->Bool}{g:Int->Int->V}{f:Int->Int->LS}(hc:∀i j,c i j=true->C i j)(hf:∀F i j,DA K F (f i j) (g i j)):jG K (rI C g) (gI c f):=by
 intro σ H0 F H e x y z v u Q R A B hg q;unfold gI at hg;obtain⟨i,h1,hg⟩:=LH hg;obtain⟨j,h2,hg⟩:=LH hg;split at hg;case isFalse=>cases hg
 case isTrue hh=>cases hg;exact⟨i,j,ci A h1,ci B h2,hc i j hh,q F H _ (eP.refl _ _ _ _) R (hf F i j)⟩
theorem kg{g:Int->Int->V}{f:Int->Int->LS}(hf:∀F i j,DA K F (f i j) (g i j)):jG K (xu g) (gI (λ_ _=>true) f):=by intro σ H0 F H e x y z v u Q R A B hg q;obtain⟨i,j,h1,h2,h3,h4⟩:=tJ (K:=K) (C:=λ_ _=>True) (c:=λ_ _=>true) (g:=g) (f:=f) (λ_ _ _=>trivial) hf σ H0 F H e x y z v u Q R A B hg q;exact⟨i,j,h1,h2,h4⟩
def AS(g g':En->Rv->Rv->Option Rv):En->Rv->Rv->Option Rv:=λe x y=>(g e x y).or (g' e x y)
theorem jG.or{r r':R2}{g g':En->Rv->Rv->Option Rv}(h:jG K r g)(h':jG K r' g'):jG K (λx y H Q=>r x y H Q\/r' x y H Q) (AS g g'):=by intro σ H0 F H e x y z v u Q R A B hg q;unfold AS at hg;cases e1:g e x y with|some w=>rw[e1]at hg;cases hg;exact .inl (h σ H0 F H e x y _ v u Q R A B e1 q)|none=>rw[e1]at hg;exact .inr (h' σ H0 F H e x y _ v u Q R A B hg q)
def CF:=gI (λ_ _=>true) λi j=>.int (i+j)
def iD:=gI (λ_ _=>true) λi j=>.int (i-j)
def iS(i:Int):Bool:=decide (-(2^64)<i)&&decide (i<2^64)
def Fm(n:Nat)(i:Int):Bool:=decide (i.natAbs<2^n)
theorem iA{n:Nat}{i:Int}:Fm n i=true↔Bt n i:=by unfold Fm Bt;exact decide_eq_true_iff
def ke(i j:Int):Bool:=iS i||iS j||(Fm 4000 i&&Fm 4000 j)
def sT:=gI ke λi j=>.int (i*j)
def er:=gI (λ_ j=>j !=0&&Fm 8000 j) λi j=>.int (i.fdiv j)
def a7:=gI (λ_ j=>j !=0) λi j=>.int (i.fmod j)
def zD(i j:Int):Bool:=decide (0<=j)&&decide (j<=1000000)&&iS i
def uD:=gI zD λi j=>.int (i^j.toNat)
theorem km{i:Int}(h:iS i=true):-(2^64)<i/\i<2^64:=by unfold iS at h;rw[MC,decide_eq_true_iff,decide_eq_true_iff]at h;exact h
theorem BH{i j:Int}(h:zD i j=true):Dh i j:=by unfold zD at h;rw[MC,MC,decide_eq_true_iff,decide_eq_true_iff]at h;have:=km h.2;exact⟨h.1.1,h.1.2,by lia⟩
def vj(i j:Int):Prop:=Ay i j\/Ck i j
theorem Br:i5 X (Ng .Mult) (rI vj λi j=>.int (i*j)):=by
 intro pins s σ H x y v u Q I rx ry h;obtain⟨i,j,e1,e2,h1,q⟩:=h;rcases h1 with h1|h1;·exact D8 pins s σ H x y v u Q I rx ry ⟨i,j,e1,e2,h1,q⟩
 ·exact Bs pins s σ H x y v u Q I rx ry ⟨i,j,e1,e2,h1,q⟩
theorem Be{i j:Int}(h:ke i j=true):vj i j:=by
 unfold ke at h;rw[PZ,PZ,MC]at h;rcases h with (h|h)|h;·exact .inl (.inl (km h))
 ·exact .inl (.inr (km h))
 ·exact .inr ⟨iA.mp h.1,iA.mp h.2⟩
theorem DU:jG K (rI vj λi j=>.int (i*j)) sT:=tJ (λ_ _ h=>Be h) λ_ _ _=>c_.mpr rfl
theorem GC:jG K (xu λi j=>.int (i-j)) iD:=kg λ_ _ _=>c_.mpr rfl
theorem Du:jG K (rI Cj λi j=>.int (i.fdiv j)) er:=tJ (λi j h=>by rw[MC]at h;exact⟨by simpa using h.1,iA.mp h.2⟩) λ_ _ _=>c_.mpr rfl
theorem FZ:jG K (rI (λ_ j=>j≠0) λi j=>.int (i.fmod j)) a7:=tJ (λi j h=>by simpa using h) λ_ _ _=>c_.mpr rfl
theorem Gk:jG K (rI Dh λi j=>.int (i^j.toNat)) uD:=tJ (λ_ _ h=>BH h) λ_ _ _=>c_.mpr rfl
def vI:En->Rv->Rv->Option Rv:=λe x y=>match cV e x,cV e y with|some (false,xs),some (false,ys)=>if xs.length+ys.length<=1000000 then some (.d (.tuple (xs++ys))) else none|_,_=>none
theorem Dr:jG K (zP K) vI:=by intro σ H0 F H e x y z v u Q R A B hg q;unfold vI at hg;match h1:cV e x,h2:cV e y,hg with
 |some (false,xs),some (false,ys),hg=>
  obtain⟨p,vs,rfl,d1,s1⟩:=cI R A h1;obtain⟨p',us,rfl,d2,s2⟩:=cI R B h2;dsimp only at hg;split at hg;case isFalse=>cases hg
  case isTrue hl=>cases hg;have l1:=d1.len;have l2:=d2.len;have sl:Mi=16777216:=MO;refine⟨p,p',vs,us,rfl,rfl,s1,s2,by lia,λt H' sm hT=>?_⟩;obtain⟨F',R',X',hF⟩:=R.growT sm hT;exact q F' H' _ X' R' (eT.mpr ⟨t,_,rfl,hF,(d1.append d2).mono X'.sf⟩)
def yX(e:En):Rv->Option (List LS)
 |.l xs=>some xs|.s i=>match e[i]? with|some (some (.l xs))=>some xs|_=>none
 |_=>none
theorem rB{σ:L2.St}{H0 F H:Hp}{e:En}{r:Rv}{v:V}(R:aZ K F H σ e)(h:cj K σ H0 F H e r v){xs:List LS}(q:yX e r=some xs):∃p vs,v=.ref p/\F p=none/\H p=some (.lst vs)/\aL K F xs vs:=by cases r with|d x=>cases q|l ys=>cases q;obtain⟨l,vs,e1,h1,h2,h3,h4,_⟩:=h;exact⟨l,vs,e1,h2,h3,h4⟩|s i=>obtain⟨h1,ys,h2⟩:=h;simp only[yX,h2]at q;cases q;obtain⟨l,vs,e1,e2,e3,e4⟩:=R.own i _ h2;rw[h1]at e1;cases e1;exact⟨l,vs,rfl,e2,e3,e4⟩
def yu:En->Rv->Rv->Option Rv:=λe x y=>(yX e x).bind λxs=>(yX e y).bind λys=>if xs.length+ys.length<=1000000 then some (.l (xs++ys)) else none
theorem Dq:jG K Eu yu:=by
 intro σ H0 F H e x y z v u Q R A B hg q;unfold yu at hg;obtain⟨xs,h1,hg⟩:=LH hg;obtain⟨ys,h2,hg⟩:=LH hg;split at hg;case isFalse=>cases hg
 case isTrue hl=>cases hg;obtain⟨p,vs,rfl,f1,s1,d1⟩:=rB R A h1;obtain⟨p',us,rfl,f2,s2,d2⟩:=rB R B h2;have l1:=d1.len;have l2:=d2.len;have sl:Mi=16777216:=MO;refine⟨p,p',vs,us,rfl,rfl,s1,s2,by lia,λt ht=>?_⟩;obtain⟨R3,X3,hF,no⟩:=R.newL (vs:=vs++us) ht;exact q _ _ _ X3 R3 ⟨t,_,rfl,ht,hF,aC,d1.append d2,no⟩
def cQ:En->Rv->Rv->Option Rv:=AS CF (AS vI yu)
def C5(K:⇑0):R2:=λx y H Q=>xu (λi j=>.int (i+j)) x y H Q\/(zP K x y H Q\/Eu x y H Q)
theorem Bm:i5 X (Ng .Add) (C5 X.K):=D4.or (Bn.or D5)
theorem Fg:jG K (C5 K) cQ:=jG.or (kg λ_ _ _=>c_.mpr rfl) (jG.or Dr Dq)
def sU:En->Rv->Rv->Option Rv:=λe x y=>match cV e x,bF y with|some (false,[d]),some k=>if 0<=k/\k<=100000 then some (.d (.tuple (Mh k.toNat d))) else none|_,_=>none
theorem aL.rep{F:Hp}{d:LS}{v:V}(h:DA K F d v):∀n,aL K F (Mh n d) (Mh n v)|0=>aL.nil|n+1=>aL.cons h (aL.rep h n)
theorem EB:jG K (zR K) sU:=by intro σ H0 F H e x y z v u Q R A B hg q;unfold sU at hg;match h1:cV e x,h2:bF y,hg with
 |some (false,[d]),some k,hg=>
  obtain⟨p,vs,rfl,d1,s1⟩:=cI R A h1;dsimp only at hg;split at hg;case isFalse=>cases hg
  case isTrue hl=>cases hg;have hd:=d1;simp only[aL]at hd;obtain⟨w,r,e1,hw,e2⟩:=hd;subst e2 e1;refine⟨p,k,w,rfl,ci B h2,s1,hl.1,hl.2,λt H' sm hT=>?_⟩;obtain⟨F',R',X',hF⟩:=R.growT sm hT;exact q F' H' _ X' R' (eT.mpr ⟨t,_,rfl,hF,(aL.rep hw _).mono X'.sf⟩)
def yB:En->Rv->Rv->Option Rv:=λe x y=>(yX e x).bind λxs=>(bF y).bind λk=>if-100000<=k/\k<=100000/\xs.length*k.toNat<=1000000 then some (.l (Mh k.toNat xs).flatten) else none
theorem aL.reps{F:Hp}{ds:List LS}{vs:List V}(h:aL K F ds vs):∀n,aL K F (Mh n ds).flatten (Mh n vs).flatten|0=>aL.nil|n+1=>by simpa[OJ]using aL.append h (aL.reps h n)
theorem EA:jG K Ey yB:=by
 intro σ H0 F H e x y z v u Q R A B hg q;unfold yB at hg;obtain⟨xs,h1,hg⟩:=LH hg;obtain⟨k,h2,hg⟩:=LH hg;split at hg;case isFalse=>cases hg
 case isTrue hl=>cases hg;obtain⟨p,vs,rfl,f1,s1,d1⟩:=rB R A h1;have l1:=d1.len;have sl:Mi=16777216:=MO;refine⟨p,k,vs,rfl,ci B h2,s1,by lia,by lia,by rw[<-l1];lia,λt ht=>?_⟩;obtain⟨R3,X3,hF,no⟩:=R.newL (vs:=(Mh k.toNat vs).flatten) ht;exact q _ _ _ X3 R3 ⟨t,_,rfl,ht,hF,aC,aL.reps d1 _,no⟩
def fJ:En->Rv->Rv->Option Rv:=AS sT (AS sU yB)
def C6(K:⇑0):R2:=λx y H Q=>rI vj (λi j=>.int (i*j)) x y H Q\/(zR K x y H Q\/Ey x y H Q)
theorem Bq:i5 X (Ng .Mult) (C6 X.K):=Br.or (Bu.or D')
theorem F8:jG K (C6 K) fJ:=jG.or DU (jG.or EB EA)
def AR:=gI (λ_ _=>true) λi j=>.bool (decide (i<j))
def IQ:=gI (λ_ _=>true) λi j=>.bool (decide (i<=j))
def Dw:=gI (λ_ _=>true) λi j=>.bool (decide (j<i))
def CG:=gI (λ_ _=>true) λi j=>.bool (decide (j<=i))
theorem HB:jG K (xu λi j=>.bl (decide (i<j))) AR:=kg λ_ _ _=>d_.mpr rfl
theorem Hv:jG K (xu λi j=>.bl (decide (j<i))) Dw:=kg λ_ _ _=>d_.mpr rfl
theorem Hu:jG K (xu λi j=>.bl (decide (j<=i))) CG:=kg λ_ _ _=>d_.mpr rfl
def Ew(K:⇑0)(neg:Bool):R2:=λx y H Q=>∃a b,DA K H a x/\DA K H b y/\Nr a=true/\Nr b=true/\Q (.bl (if neg then !PyData.eqv a b else Nb a b)) H
theorem D6{k:Nat}(hr:bZ k X.A):i5 X (NX .Eq) (Ew X.K false):=by intro pins s σ H x y v u Q I rx ry h;obtain⟨a,b,ha,hb,s1,s2,q⟩:=h;obtain⟨as,ra⟩:=DA.reads I (QB s1) ha rx;obtain⟨bs,rb⟩:=DA.reads I (QB s2) hb ry;exact SeqAt.compareEq_shaped ra rb s1 s2 hr.units ⟨.bl _,H,I,rfl,q⟩
theorem D9{k:Nat}(hr:bZ k X.A):i5 X (NX .NotEq) (Ew X.K true):=by intro pins s σ H x y v u Q I rx ry h;obtain⟨a,b,ha,hb,s1,s2,q⟩:=h;obtain⟨as,ra⟩:=DA.reads I (QB s1) ha rx;obtain⟨bs,rb⟩:=DA.reads I (QB s2) hb ry;exact SeqAt.compareNe_shaped ra rb s1 s2 hr.units ⟨.bl _,H,I,rfl,q⟩
def cS(neg:Bool):En->Rv->Rv->Option Rv:=λe x y=>(jd e x).bind λa=>(jd e y).bind λb=>if (Nr a&&Nr b)=true then some (.d (.bool (if neg then !PyData.eqv a b else Nb a b))) else none
theorem CA{neg:Bool}:jG K (Ew K neg) (cS neg):=by
 intro σ H0 F H e x y z v u Q R A B hg q;unfold cS at hg;obtain⟨a,h1,hg⟩:=LH hg;obtain⟨b,h2,hg⟩:=LH hg;split at hg;case isFalse=>cases hg
 case isTrue hl=>cases hg;rw[MC]at hl;exact⟨a,b,n6 R A h1,n6 R B h2,hl.1,hl.2,q F H _ (eP.refl _ _ _ _) R rX⟩
def Ex(K:⇑0)(neg:Bool):R2:=λx y H Q=>∃a xs,DA K H a x/\(DA K H (.list xs) y\/DA K H (.tuple xs) y)/\a.canLay0=true/\a.depth<=60/\Na xs=true/\Q (.bl (if neg then !(xs.any λy=>Nb y a) else xs.any λy=>Nb y a)) H
theorem D7{k:Nat}(hr:bZ k X.A):i5 X (NX .In) (Ex X.K false):=by
 intro pins s σ H x y v u Q I rx ry h;obtain⟨a,xs,ha,hb,s1,s2,s3,q⟩:=h;obtain⟨as,ra⟩:=DA.reads I s1 ha rx;have hu:=hr.units;rcases hb with hb|hb;·obtain⟨bs,rb⟩:=DA.reads I (by simpa[MM]using s3) hb ry;exact PySem.SeqAt.in_list_reads rb ra s3 s1 ↥0 ⟨.bl _,H,I,rfl,q⟩
 ·obtain⟨bs,rb⟩:=DA.reads I (by simpa[MM]using s3) hb ry;exact PySem.SeqAt.in_tuple_reads rb ra s3 s1 ↥0 ⟨.bl _,H,I,rfl,q⟩
theorem xm{k:Nat}(hr:bZ k X.A):i5 X (NX .NotIn) (Ex X.K true):=by
 intro pins s σ H x y v u Q I rx ry h;obtain⟨a,xs,ha,hb,s1,s2,s3,q⟩:=h;obtain⟨as,ra⟩:=DA.reads I s1 ha rx;have hu:=hr.units;rcases hb with hb|hb;·obtain⟨bs,rb⟩:=DA.reads I (by simpa[MM]using s3) hb ry;exact PySem.SeqAt.notIn_list_reads rb ra s3 s1 ↥0 ⟨.bl _,H,I,rfl,q⟩
 ·obtain⟨bs,rb⟩:=DA.reads I (by simpa[MM]using s3) hb ry;exact PySem.SeqAt.notIn_tuple_reads rb ra s3 s1 ↥0 ⟨.bl _,H,I,rfl,q⟩
def wN(neg:Bool):En->Rv->Rv->Option Rv:=λe x y=>(jd e x).bind λa=>(cV e y).bind λp=>if (a.canLay0&&decide (a.depth<=60)&&Na p.2)=true then some (.d (.bool (if neg then !(p.2.any λy=>Nb y a) else p.2.any λy=>Nb y a))) else none
theorem Fx{neg:Bool}:jG K (Ex K neg) (wN neg):=by
 intro σ H0 F H e x y z v u Q R A B hg q;unfold wN at hg;obtain⟨a,h1,hg⟩:=LH hg;obtain⟨⟨b,xs⟩,h2,hg⟩:=LH hg;split at hg;case isFalse=>cases hg
 case isTrue hl=>cases hg;rw[MC,MC,decide_eq_true_iff]at hl;obtain⟨p,vs,rfl,d1,s1⟩:=cI R B h2;refine⟨a,xs,n6 R A h1,?_,hl.1.1,hl.1.2,hl.2,q F H _ (eP.refl _ _ _ _) R rX⟩;cases b with|true=>exact .inl (fC.mpr ⟨p,vs,rfl,s1,d1.mono R.sm⟩)|false=>exact .inr (eT.mpr ⟨p,vs,rfl,s1,d1.mono R.sm⟩)
def cK:En->Rv->Rv->Option Rv:=λe x y=>(cV e x).bind λp=>(bF y).bind λi=>(atI p.2 i).map .d
def Gr(K:⇑0):R2:=λx y H Q=>Gs K x y H Q\/Gu K x y H Q
theorem Hy:AB X (Gr X.K):=AX.or DC
theorem aL.atI{F:Hp}{ds:List LS}{vs:List V}(h:aL K F ds vs){i:Int}{d:LS}(q:atI ds i=some d):∃v,L2.atI vs i=some v/\DA K F d v:=by unfold L2.atI at q⊢;obtain⟨j,h1,h2⟩:=LH q;obtain⟨v,h3,h4⟩:=h.get h2;exact⟨v,by rw[<-h.len,h1];exact h3,h4⟩
theorem Hz:jG K (Gr K) cK:=by intro σ H0 F H e x y z v u Q R A B hg q;unfold cK at hg;obtain⟨⟨b,xs⟩,h1,hg⟩:=LH hg;obtain⟨i,h2,hg⟩:=LH hg;obtain⟨d,h3,hg⟩:=LI hg;cases hg;obtain⟨p,vs,rfl,d1,s1⟩:=cI R A h1;obtain⟨w,h4,h5⟩:=d1.atI h3;have fin:=q F H w (eP.refl _ _ _ _) R h5;cases b with|true=>exact .inl ⟨p,vs,i,w,rfl,ci B h2,s1,h4,fin⟩|false=>exact .inr ⟨p,vs,i,w,rfl,ci B h2,s1,h4,fin⟩
end
end L2
namespace HT
open PySem PySem.Spec PyProof.Rows
section
variable{prog:Mc}{w:LV}{A:Md}{E:LP->LR->Prop}{s:LR}
theorem getItem_tuple_all{t sl:LQ}{items:Array LP}{vl vu:LP}{lo hi:Option Int}{Q:LP->LR->Prop}(ht:IsTup s.heap t items)(hs:s.heap.IsSliceOf sl vl vu .none)(pl:IsPart vl lo)(pu:IsPart vu hi)(hw:sIx items.size 0 lo=0/\sIx items.size items.size hi=items.size)(h:Q (.ref t) s):Ma (LY prog w) A (getItem (.ref t) (.ref sl)) Q E s:=by
 obtain⟨os,hos,hcs,hds⟩:=id hs;have hTs:s.TypeIs (.ref sl) "slice":=⟨os,hos,hcs⟩;unfold getItem;try with_reducible refine Pk ?_
 first|refine Mb (Mj ?_)|skip
 refine Mb (wpAny_sequenceKey ht.typeIs ⋯ ?_);refine Mb (wpAny_callSpecial?_slot (name:=Nv "__getitem__") ht.typeIs OW (Qq OW ht.typeIs entry_tuple_getitem ?_ (args_tuple_getitem _ _)));show Ma _ _ (Rq (.ref t)>>=_) _ _ s;refine Mb (tupleItemsOf_ ht ?_);refine Mb (PL hTs ?_);rw[if_pos ⋯];refine Mb (ic hs pl pu ?_);have hno:(((sIx items.size 0 lo:Nat):Int)==0&&(1:Int)==1&&(sIx items.size items.size hi-sIx items.size 0 lo)==items.size)=true:=by rw[hw.1,hw.2];simp
 show Ma _ _ (if (((sIx items.size 0 lo:Nat):Int)==0&&(1:Int)==1&&(sIx items.size items.size hi-sIx items.size 0 lo)==items.size)=true then _ else _) _ _ s;rw[if_pos hno];unfold Builtin.Tuple.tupleIsExact;refine Mb (Mb (PL ht.typeIs (Mj ?_)));rw[if_pos ⋯];exact Mb (NW (Mj ⟨_,rfl,Mj h⟩))
end
end HT
namespace L2
open PySem PySem.Spec PyProof.Rows
section
variable{X:Cx}{K:⇑0}{a:LU}{fa:FE}{lo hi:Option LU}{pos p2:Pos}
def cutD(xs:List LS)(lo hi:Option Int):List LS:=(xs.drop (HT.sIx xs.length 0 lo)).take (HT.sIx xs.length xs.length hi-HT.sIx xs.length 0 lo)
def Gx(K:⇑0):V->Option Int->Option Int->Hp->VK->Prop:=λx lo hi H Q=>∃a xs,x=.ref a/\dO K H a xs/\(HT.sIx xs.length 0 lo=0/\HT.sIx xs.length xs.length hi=xs.length)/\Q (.ref a) H
theorem BV:AC X (Gx X.K):=by
 intro pins s σ H x v vl vu lo hi sl Q I rx hs pl pu h;obtain⟨a,xs,rfl,hx,hw,q⟩:=h;cases rx;obtain⟨its,r,ht,hz⟩:=I.tuple hx;have hlen:its.toArray.size=xs.length:=by rw[Mx];exact r.length.symm
 refine⟨"tuple",_,OW.lookup,ht.typeIs,?_⟩;exact HT.getItem_tuple_all ht hs pl pu (by rw[hlen];exact hw) ⟨.ref a,H,I,rfl,q⟩
def HJ(K:⇑0):V->Option Int->Option Int->Hp->VK->Prop:=λx lo hi H Q=>Gw K x lo hi H Q\/(Gx K x lo hi H Q\/Gv K x lo hi H Q)
theorem HK:AC X (HJ X.K):=EJ.or (BV.or BU)
abbrev FO:=En->Option (Option Int×En)
def fO(K:⇑0)(f:FO):TO:=λσ H Q=>∃F e o e',aZ K F H σ e/\f e=some (o,e')/\∀F' H',eP σ F H e F' H' e'->aZ K F' H' σ e'->Q o H'
theorem PO.mono{e:Option LU}{t t':TO}(h:PO X e t)(m:∀σ H Q,t' σ H Q->t σ H Q):PO X e t':=λpins s σ H Q I q=>h pins s σ H Q I (m σ H Q q)
def eV:FO:=λe=>some (none,e)
def eM(f:FE):FO:=λe=>(f e).bind λp=>(bF p.1).map λi=>(some i,p.2)
theorem iM:PO X none (fO K eV):=BE.mono λσ H Q h=>by obtain⟨F,e,o,e',R,hf,q⟩:=h;cases hf;exact q F H (eP.refl _ _ _ _) R
theorem iN(h:PE X a (fE K fa)):PO X (some a) (fO K (eM fa)):=(BF h).mono λσ H Q h=>by obtain⟨F,e,o,e',R,hf,q⟩:=h;unfold eM at hf;obtain⟨⟨x,e1⟩,h1,hf⟩:=LH hf;obtain⟨i,h2,hf⟩:=LI hf;cases hf;exact⟨F,e,x,_,R,h1,λF1 H1 v X1 R1 A1=>⟨i,ci A1 h2,q F1 H1 X1 R1⟩⟩
def Ft(e:En)(x:Rv)(lo hi:Option Int):Option Rv:=(cV e x).map λp=>if p.1=true then .l (cutD p.2 lo hi) else .d (.tuple (cutD p.2 lo hi))
def si(fa:FE)(fl fh:FO):FE:=λe=>(fa e).bind λp=>(fl p.2).bind λl=>(fh l.2).bind λh=>(Ft h.2 p.1 l.1 h.1).map λz=>(z,h.2)
theorem yl{F:Hp}{ds:List LS}{vs:List V}(h:aL K F ds vs)(lo hi:Option Int):aL K F (cutD ds lo hi) (pC vs lo hi):=by unfold cutD pC;rw[h.len];exact(h.drop _).take _
theorem AK{α:Type}{xs:List α}{lo hi:Option Int}(h:HT.sIx xs.length 0 lo=0/\HT.sIx xs.length xs.length hi=xs.length):(xs.drop (HT.sIx xs.length 0 lo)).take (HT.sIx xs.length xs.length hi-HT.sIx xs.length 0 lo)=xs:=by rw[h.1,h.2];simp
theorem zM{fl fh:FO}(he:PE X a (fE X.K fa))(hl:PO X lo (fO X.K fl))(hh:PO X hi (fO X.K fh)):PE X (.Subscript a (.Slice lo hi none p2) pos) (fE X.K (si fa fl fh)):=(zr HK he hl hh).mono λσ H Q h=>by obtain⟨F,e,z,e',R,hf,q⟩:=h;unfold si at hf;obtain⟨⟨x,e1⟩,h1,hf⟩:=LH hf;obtain⟨⟨l,e2⟩,h2,hf⟩:=LH hf;obtain⟨⟨u,e3⟩,h3,hf⟩:=LH hf;obtain⟨z',h4,hf⟩:=LI hf;cases hf;refine⟨F,e,x,e1,R,h1,λF1 H1 v X1 R1 A1=>⟨F1,e1,l,e2,R1,h2,λF2 H2 X2 R2=>⟨F2,e2,u,_,R2,h3,λF3 H3 X3 R3=>?_⟩⟩⟩;have X12:=X1.trans X2;have X13:=X12.trans X3;have A3:=(A1.ext X2).ext X3;unfold Ft at h4;obtain⟨⟨b,xs⟩,h5,h4⟩:=LI h4;obtain⟨p,vs,rfl,d1,s1⟩:=cI R3 A3 h5;cases b with|true=>rw[if_pos rfl]at h4;cases h4;refine .inr (.inr ⟨p,vs,rfl,s1,λt ht=>?_⟩);obtain⟨R4,X4,hF,no⟩:=R3.newL (vs:=pC vs l u) ht;exact q _ _ _ (X13.trans X4) R4 ⟨t,_,rfl,X13.dom _ ht,hF,aC,yl d1 l u,no⟩|false=>
 rw[if_neg ↥1]at h4;cases h4;by_cases hw:HT.sIx vs.length 0 l=0/\HT.sIx vs.length vs.length u=vs.length
 ·refine .inr (.inl ⟨p,vs,rfl,s1,hw,?_⟩);have e5:cutD xs l u=xs:=by unfold cutD;exact AK (by rw[d1.len];exact hw)
  rw[e5]at q;obtain⟨F4,R4,X4,hF⟩:=R3.growT (av.refl _) s1;exact q _ _ _ (X13.trans X4) R4 (eT.mpr ⟨p,vs,rfl,hF,d1.mono X4.sf⟩)
 ·refine .inl ⟨p,vs,rfl,s1,hw,λt ht=>?_⟩;obtain⟨R4,X4⟩:=R3.newT (vs:=pC vs l u) ht;exact q _ _ _ (X13.trans X4) R4 (eT.mpr ⟨t,_,rfl,.inl (.inl aC),(yl d1 l u).mono X4.sf⟩)
end
section
variable{X:Cx}{K:⇑0}
theorem nO{σ:L2.St}{H0 F H:Hp}{e:En}{x:Rv}{vs:List V}(h:cu K σ H0 F H e [x] vs):∃v,vs=[v]/\cj K σ H0 F H e x v:=by obtain⟨v,ws,rfl,h1,h2⟩:=h;have h2':ws=[]:=h2;subst h2';exact⟨v,rfl,h1⟩
theorem vZ{σ:L2.St}{H0 F H:Hp}{e:En}{x y:Rv}{vs:List V}(h:cu K σ H0 F H e [x,y] vs):∃v u,vs=[v,u]/\cj K σ H0 F H e x v/\cj K σ H0 F H e y u:=by obtain⟨v,ws,rfl,h1,h2⟩:=h;obtain⟨u,rfl,h3⟩:=nO h2;exact⟨v,u,rfl,h1,h3⟩
def g1(g:En->Rv->Option Rv):En->List Rv->Option Rv:=λe xs=>match xs with|[x]=>g e x|_=>none
def g2(g:En->Rv->Rv->Option Rv):En->List Rv->Option Rv:=λe xs=>match xs with|[x,y]=>g e x y|_=>none
theorem d9{r:List V->Hp->VK->Prop}{g:En->Rv->Option Rv}(h:Fe K (λv H Q=>r [v] H Q) g):cM K r (g1 g):=by intro σ H0 F H e xs z vs Q R A hg q;unfold g1 at hg;match xs,hg with|[x],hg=>obtain⟨v,rfl,h1⟩:=nO A;exact h σ H0 F H e x z v Q R h1 hg q
theorem vz{r:List V->Hp->VK->Prop}{g:En->Rv->Rv->Option Rv}(h:jG K (λv u H Q=>r [v,u] H Q) g):cM K r (g2 g):=by intro σ H0 F H e xs z vs Q R A hg q;unfold g2 at hg;match xs,hg with|[x,y],hg=>obtain⟨v,u,rfl,h1,h2⟩:=vZ A;exact h σ H0 F H e x y z v u Q R h1 h2 hg q
def gK:En->Rv->Option Rv:=λe x=>(cV e x).map λp=>.d (.int p.2.length)
theorem FN:cM K (λxs H Q=>∃p ys,xs=[.ref p]/\(i6 K H p ys\/dO K H p ys)/\Q (.int ys.length) H) (g1 gK):=d9 λσ H0 F H e x z v Q R A hg q=>by
 obtain⟨⟨b,xs⟩,h5,h4⟩:=LI hg;obtain⟨p,vs,rfl,d1,s1⟩:=cI R A h5;cases h4;refine⟨p,vs,rfl,?_,?_⟩;·cases b with|true=>exact .inl s1|false=>exact .inr s1
 ·rw[<-d1.len];exact q F H _ (eP.refl _ _ _ _) R oQ
def uC:En->Rv->Option Rv:=λ_ x=>(bF x).map λi=>.d (.int (if i<0 then-i else i))
theorem Ff:cM K (λxs H Q=>∃i,xs=[.int i]/\Q (.int (if i<0 then-i else i)) H) (g1 uC):=d9 λσ H0 F H e x z v Q R A hg q=>by obtain⟨i,h5,h4⟩:=LI hg;cases h4;exact⟨i,by rw[ci A h5],q F H _ (eP.refl _ _ _ _) R oQ⟩
def wO:En->Rv->Option Rv:=λ_ x=>match x with|.d (.int i)=>some (.d (.int i))|.d (.bool k)=>some (.d (.int (if k then 1 else 0)))|_=>none
theorem Fy:cM K (λxs H Q=>(∃i,xs=[.int i]/\Q (.int i) H)\/∃k,xs=[.bl k]/\Q (.int (if k then 1 else 0)) H) (g1 wO):=d9 λσ H0 F H e x z v Q R A hg q=>by
 unfold wO at hg;split at hg;·cases hg;exact .inl ⟨_,by rw[c_.mp (show DA K F (.int _) v from A)],q F H _ (eP.refl _ _ _ _) R oQ⟩
 ·cases hg;exact .inr ⟨_,by rw[d_.mp (show DA K F (.bool _) v from A)],q F H _ (eP.refl _ _ _ _) R oQ⟩
 ·cases hg
def yx:=gI (λ_ _=>true) λi j=>.int (if j<i then j else i)
def wQ:=gI (λ_ _=>true) λi j=>.int (if j>i then j else i)
theorem FY:cM K (λxs H Q=>∃i j,xs=[.int i,.int j]/\Q (.int (if j<i then j else i)) H) (g2 yx):=vz λσ H0 F H e x y z v u Q R A B hg q=>by obtain⟨i,j,h1,h2,h3⟩:=kg (K:=K) (g:=λi j=>.int (if j<i then j else i)) (λ_ _ _=>c_.mpr rfl) σ H0 F H e x y z v u Q R A B hg q;exact⟨i,j,by rw[h1,h2],h3⟩
theorem FV:cM K (λxs H Q=>∃i j,xs=[.int i,.int j]/\Q (.int (if j>i then j else i)) H) (g2 wQ):=vz λσ H0 F H e x y z v u Q R A B hg q=>by obtain⟨i,j,h1,h2,h3⟩:=kg (K:=K) (g:=λi j=>.int (if j>i then j else i)) (λ_ _ _=>c_.mpr rfl) σ H0 F H e x y z v u Q R A B hg q;exact⟨i,j,by rw[h1,h2],h3⟩
def bN:En->Rv->Option Rv:=λe x=>(cV e x).map λp=>.d (.tuple p.2)
theorem Ca:cM K (λxs H Q=>∃p ys,xs=[.ref p]/\((i6 K H p ys/\∀l,H l=none->Q (.ref l) (bI H l (.tup ys)))\/(dO K H p ys/\Q (.ref p) H))) (g1 bN):=d9 λσ H0 F H e x z v Q R A hg q=>by obtain⟨⟨b,xs⟩,h5,h4⟩:=LI hg;obtain⟨p,vs,rfl,d1,s1⟩:=cI R A h5;cases h4;refine⟨p,vs,rfl,?_⟩;cases b with|true=>refine .inl ⟨s1,λt ht=>?_⟩;obtain⟨R4,X4⟩:=R.newT (vs:=vs) ht;exact q _ _ _ X4 R4 (eT.mpr ⟨t,_,rfl,.inl (.inl aC),d1.mono X4.sf⟩)|false=>obtain⟨F4,R4,X4,hF⟩:=R.growT (av.refl _) s1;exact .inr ⟨s1,q _ _ _ X4 R4 (eT.mpr ⟨p,vs,rfl,hF,d1.mono X4.sf⟩)⟩
def CH:En->Rv->Option Rv:=λe x=>(cV e x).map λp=>.l p.2
theorem DQ:cM K (λxs H Q=>∃p ys,xs=[.ref p]/\(i6 K H p ys\/dO K H p ys)/\∀l,H l=none->Q (.ref l) (bI H l (.lst ys))) (g1 CH):=d9 λσ H0 F H e x z v Q R A hg q=>by
 obtain⟨⟨b,xs⟩,h5,h4⟩:=LI hg;obtain⟨p,vs,rfl,d1,s1⟩:=cI R A h5;cases h4;refine⟨p,vs,rfl,?_,λt ht=>?_⟩;·cases b with|true=>exact .inl s1|false=>exact .inr s1
 ·obtain⟨R4,X4,hF,no⟩:=R.newL (vs:=vs) ht;exact q _ _ _ X4 R4 ⟨t,_,rfl,ht,hF,aC,d1,no⟩
def jo:List LS->Option (List Int)|[]=>some []|.int i::r=>(jo r).map (i::·)|_=>none
theorem jp:∀{ds:List LS}{ns:List Int},jo ds=some ns->ds=ns.map .int|[],_,h=>by cases h;rfl|.int i::r,_,h=>by obtain⟨ns,h1,rfl⟩:=LI h;rw[jp h1];rfl
theorem l8:∀(ns:List Int),jo (ns.map .int)=some ns|[]=>rfl|i::r=>by simp[jo,l8 r]
def qM:List LS->Option (List Bool)|[]=>some []|.bool i::r=>(qM r).map (i::·)|_=>none
theorem pT:∀{ds:List LS}{ns:List Bool},qM ds=some ns->ds=ns.map .bool|[],_,h=>by cases h;rfl|.bool i::r,_,h=>by obtain⟨ns,h1,rfl⟩:=LI h;rw[pT h1];rfl
def om(g:List LS->Option LS):En->Rv->Option Rv:=λe x=>match cV e x with|some (true,xs)=>(g xs).map .d|_=>none
theorem EI{r:List V->Hp->VK->Prop}{g:List LS->Option LS}(h:∀(F H:Hp) (p:LQ) (xs:List LS) (vs:List V) (d:LS) (Q:VK),aL K F xs vs->i6 K H p vs->g xs=some d->(∀v,(∀F,DA K F d v)->Q v H)->r [.ref p] H Q):cM K r (g1 (om g)):=d9 λσ H0 F H e x z v Q R A hg q=>by
 unfold om at hg;split at hg;case h_2=>cases hg
 case h_1 xs h5=>obtain⟨p,vs,rfl,d1,s1⟩:=cI R A h5;obtain⟨d,h6,hg⟩:=LI hg;cases hg;exact h F H p xs vs d Q d1 s1 h6 λv hv=>q F H v (eP.refl _ _ _ _) R (hv F)
def sR:List LS->Option LS:=λxs=>(qM xs).map λns=>.bool (ns.all id)
theorem Fh:cM K (λxs H Q=>∃(l:LQ) (bs:List Bool),xs=[.ref l]/\i6 K H l (bs.map V.bl)/\Q (.bl (bs.all id)) H) (g1 (om sR)):=EI λF H p xs vs d Q d1 s1 hg q=>by obtain⟨ns,h1,h2⟩:=LI hg;cases h2;rw[pT h1]at d1;rw[aL.bools.mp d1]at s1;exact⟨p,ns,rfl,s1,q _ λ_=>d_.mpr rfl⟩
def uE:En->Rv->Option Rv:=λe x=>match cV e x with|some (false,xs)=>(jo xs).bind λns=>if ns.length<64 then some (.l ((dP ns).map .int)) else none|_=>none
def zT(K:⇑0):List V->Hp->VK->Prop:=λxs H Q=>∃(a:LQ) (ns:List Int),xs=[.ref a]/\dO K H a (ns.map V.int)/\ns.length<64/\∀(l:LQ) (H':Hp),av H H'->H l=none->H' l=some (.lst ((dP ns).map V.int))->Q (.ref l) H'
theorem uy:cJ X (.builtin "sorted") (zT X.K):=by intro pins s σ H xs us Q I rv h;obtain⟨a,ns,e1,e2,e3,q⟩:=h;exact sD pins s σ H xs us Q I rv ⟨a,ns,e1,e2,e3,λl ns' H' sm hn hl hp hs=>q l H' sm hn (by rw[<-tZ hp hs];exact hl)⟩
theorem BX:cM K (zT K) (g1 uE):=d9 λσ H0 F H e x z v Q R A hg q=>by
 unfold uE at hg;split at hg;case h_2=>cases hg
 case h_1 xs h5=>
 obtain⟨p,vs,rfl,d1,s1⟩:=cI R A h5;obtain⟨ns,h6,hg⟩:=LH hg;split at hg;case isFalse=>cases hg
 case isTrue hl=>cases hg;rw[jp h6]at d1;have s1':dO K H p vs:=s1;rw[aL.ints.mp d1]at s1';refine⟨p,ns,rfl,s1',hl,λl H' sm hn hl'=>?_⟩;obtain⟨R4,X4⟩:=R.same sm;exact q F H' _ X4 R4 ⟨l,_,rfl,hn,R.freeF hn,hl',aL.ints.mpr rfl,λz=>R.ownH l ((R.sameOwn sm l).mp z) hn⟩
mutual
def dG:LS->Bool|.tuple ds=>cw ds|.list _=>false|.dict _=>false|_=>true
def cw:List LS->Bool|[]=>true|d::r=>dG d&&cw r
end
mutual
def kf:LS->Bool|.list _=>false|.tuple ds=>lg ds|_=>true
def lg:List LS->Bool|[]=>true|d::r=>kf d&&lg r
end
theorem oO{X:Cx}{pins:List (LQ×Obj)}{σ:L2.St}{H:Hp}{s:LR}(I:aA X pins σ H s):∀{m:List (Int×sj)}{es:List DictEntry}{vs:List (j8×LP)}{P:Mc}{w:LV},(∀p∈m,p.2.ok X.K H)->KV (m.map λp=>((NK p.1:j8),p.2.toV)) vs->Pairs (rD P w) es vs->ReadsAll s.heap (es.map (·.key)) (m.map λp=>PyData.int p.1) []/\ReadsAll s.heap (es.map (·.val)) (m.map λp=>p.2.toD) []|[],es,vs,P,w,_,r,q=>by cases r;cases q;exact⟨.nil,.nil⟩|p::m,es,vs,P,w,ok,r,q=>by rw[Mp]at r;cases r with|@cons a b as bs h1 t=>cases q with|@cons e kv es' kvs' h2 h3 h4=>
 obtain⟨z1,z2⟩:=h1;obtain⟨c1,c2⟩:=oO I (λp hp=>ok p (Nt _ hp)) t h4;have k1:yK (NK p.1) e.key=true:=by have:b.1=NK p.1:=z1.symm;rw[<-this];exact h2
 rcases bw k1 with⟨i,t',e1,e2⟩|⟨x,t',e1,e2⟩
 ·cases e1;refine⟨?_,?_⟩;·simp only[Mp,e2];exact ReadsAll.cons (as:=[]) (bs:=[]) (.int p.1 t') c1
  ·simp only[Mp,h3];refine ReadsAll.cons (as:=[]) (bs:=[]) ?_ c2;have ok0:=ok p (Oy ..);obtain⟨k,at_⟩:=p;cases at_ with
   |vp a x y=>rw[show b.2=Value.ref a from z2];obtain⟨its,rv,⟨o,ho,hc,n,hd⟩,hz⟩:=I.tuple (show dO X.K H a _ from ok0);match its,rv,hd with|_,.cons r1 (.cons r2 .nil),hd=>obtain⟨t1,rfl⟩:=r1;obtain⟨t2,rfl⟩:=r2;exact .tuple ho hc hd (ReadsAll.cons (as:=[]) (bs:=[]) (.int _ _) (ReadsAll.cons (as:=[]) (bs:=[]) (.int _ _) .nil))
   |vi n=>obtain⟨tk,z2⟩:=z2;rw[z2];exact .int n tk|vb x=>rw[show b.2=Value.bool x from z2];exact .bool x|vn=>rw[show b.2=Value.none from z2];exact .none
 ·cases e1
mutual
theorem DA.readsR{X:Cx}{pins:List (LQ×Obj)}{σ:L2.St}{H:Hp}{s:LR}(I:aA X pins σ H s):∀{d:LS}{v:V}{u:LP},DA X.K H d v->bu v u->∃as,MZ s.heap u d as/\(kf d=true->sysModules∉as)
 |.none,_,_,q,r=>by simp only[DA]at q;subst q;cases r;exact⟨_,.none,λ_=>by simp⟩|.bool b,_,_,q,r=>by simp only[DA]at q;subst q;cases r;exact⟨_,.bool b,λ_=>by simp⟩|.int i,_,_,q,r=>by simp only[DA]at q;subst q;obtain⟨t,rfl⟩:=r;exact⟨_,.int i t,λ_=>by simp⟩|.str x,_,_,q,r=>by simp only[DA]at q;subst q;obtain⟨t,rfl⟩:=r;exact⟨_,.str x t,λ_=>by simp⟩|.tuple ds,_,_,q,r=>by simp only[DA]at q;obtain⟨a,xs,e,hs,rr⟩:=q;subst e;cases r;obtain⟨its,rv,⟨o,ho,hc,n,hd⟩,hz⟩:=I.tuple hs;obtain⟨as,q,z⟩:=aL.readsR I rr rv;exact⟨_,.tuple ho hc hd q,λc=>z (by simpa[kf]using c)⟩|.list ds,_,_,q,r=>by simp only[DA]at q;obtain⟨a,xs,e,hs,rr⟩:=q;subst e;cases r;obtain⟨its,rv,ht,hz⟩:=I.list hs;obtain⟨o,ho,hc,n,hd⟩:=ht.isList;obtain⟨as,q,z⟩:=aL.readsR I rr rv;exact⟨_,.list ho hc hd q,λc=>by simp[kf]at c⟩|.dict kvs,_,_,q,r=>by
  simp only[DA]at q;obtain⟨a,m,e,hs,rfl,ok⟩:=q;subst e;cases r;obtain⟨_,hS,vs,kv,o,es,ep,ho,hx,hd,_,hp,_⟩:=(show df X.prog X.w H s.heap a (.dK (m.map λp=>(NK p.1,p.2.toV))) from I.hok a _ hs);obtain⟨c1,c2⟩:=oO I ok kv hp;refine⟨_,Reads.dict (as:=[]) (bs:=[]) ho hx.1 hd ?_ ?_,λ_=>?_⟩;·rw[Po];exact c1
  ·rw[Po];exact c2
  ·have:a≠sysModules:=by simpa using hS
   simpa using this.symm
theorem aL.readsR{X:Cx}{pins:List (LQ×Obj)}{σ:L2.St}{H:Hp}{s:LR}(I:aA X pins σ H s):∀{ds:List LS}{xs:List V}{us:List LP},aL X.K H ds xs->aR xs us->∃as,ReadsAll s.heap us ds as/\(lg ds=true->sysModules∉as)|[],_,_,q,r=>by simp only[aL]at q;subst q;cases r;exact⟨_,.nil,λ_=>by simp⟩|d::ds,_,_,q,r=>by simp only[aL]at q;obtain⟨x,rr,e,a,b⟩:=q;subst e;cases r with|cons p p'=>
 obtain⟨as,q1,z1⟩:=DA.readsR I a p;obtain⟨bs,q2,z2⟩:=aL.readsR I b p';refine⟨_,.cons q1 q2,λc=>?_⟩;simp only[lg,MC]at c;intro z;rcases LK z with z|z;·exact z1 c.1 z
 ·exact z2 c.2 z
end
def lO(d:LS):Bool:=(dG d||(!d.hasDict||kf d))&&d.showable&&decide (d.depth<=60)&&decide (d.shown.length<=Mi)
def mW:En->Rv->Option Rv:=λ_ x=>match x with|.d d=>if lO d=true then some (.d (.str d.shown)) else none|_=>none
def zS(K:⇑0):List V->Hp->VK->Prop:=λxs H Q=>∃x d,xs=[x]/\DA K H d x/\(d.hasDict=true->kf d=true)/\d.showable=true/\d.depth<=60/\d.shown.length<=Mi/\Q (.str d.shown) H
mutual
theorem mT:∀(d:LS),dG d=true->d.hasDict=false|.none,_=>rfl|.bool _,_=>rfl|.int _,_=>rfl|.str _,_=>rfl|.tuple ds,h=>by simp only[PyData.hasDict];exact kP ds (by simpa[dG]using h)|.list ds,h=>by simp[dG]at h|.dict _,h=>by simp[dG]at h
theorem kP:∀(ds:List LS),cw ds=true->PyData.hasDictAll ds=false|[],_=>rfl|d::r,h=>by simp only[cw,MC]at h;simp only[PyData.hasDictAll,mT d h.1,kP r h.2,Bool.or_self]
end
theorem uw{X:Cx}{k:Nat}(hr:bZ k X.A):cJ X (.builtin "repr") (zS X.K):=by
 intro pins s σ H xs us Q I r h;obtain⟨x,d,rfl,ha,hdl,hsh,hdp,hsz,q⟩:=h;obtain⟨u,rfl,ru⟩:∃u,us=[u]/\bu x u:=by cases r with|cons p p'=>cases p';exact⟨_,rfl,p⟩
 have hun:=hr.un;obtain⟨as,rd,hm⟩:=DA.readsR I ha ru;have fin:∀a,u=.ref a->Ma (LY X.prog X.w) X.A (call (.builtin "repr") [u]) (EP X pins σ Q) X.xe s:=λa e=>by subst e;exact repr_of_reads' rd hsh (λz=>hm (hdl z)) hr.gd ↥0 (λ_ _ e=>e) (λh' u tk hk=>⟨.str _,H,I.kept hk,⟨_,rfl⟩,q⟩) hsz
 cases d with|none=>simp only[DA]at ha;subst ha;cases ru;exact P.repr_of_none ⟨.str _,H,I.tok _,⟨_,rfl⟩,q⟩|bool b=>simp only[DA]at ha;subst ha;cases ru;exact P.repr_of_bool ⟨.str _,H,I.tok _,⟨_,rfl⟩,q⟩|int i=>simp only[DA]at ha;subst ha;obtain⟨t,rfl⟩:=ru;simp only[PyData.showable,decide_eq_true_eq]at hsh;exact P.repr_of_int hsh ⟨.str _,H,I.tok _,⟨_,rfl⟩,q⟩|str y=>simp only[DA]at ha;subst ha;obtain⟨t,rfl⟩:=ru;exact P.repr_of_str ⟨.str _,H,I.tok _,⟨_,rfl⟩,q⟩ hsz|list ds=>obtain⟨a,_,e,_⟩:=fC.mp ha;subst e;exact fin a ru|dict ds=>simp only[DA]at ha;obtain⟨a,_,e,_⟩:=ha;subst e;exact fin a ru|tuple ds=>obtain⟨a,_,e,_⟩:=eT.mp ha;subst e;exact fin a ru
theorem ED:cM K (zS K) (g1 mW):=d9 λσ H0 F H e x z v Q R A hg q=>by
 unfold mW at hg;split at hg;case h_2=>cases hg
 case h_1 d=>
 split at hg;case isFalse=>cases hg
 case isTrue hl=>cases hg;unfold lO at hl;rw[MC,MC,MC,decide_eq_true_iff,decide_eq_true_iff]at hl;refine⟨v,d,rfl,DA.mono R.sm A,λz=>?_,hl.1.1.2,hl.1.2,hl.2,q F H _ (eP.refl _ _ _ _) R ((qW (K:=K) (F:=F)).mpr rfl)⟩;have c:=hl.1.1.1;cases hf:dG d with|true=>rw[mT d hf]at z;cases z|false=>rw[hf,z]at c;simpa using c
end
section
variable{K:⇑0}{σ:L2.St}{H0 F H F' H':Hp}{e e':En}
theorem aZ.upd1(R:aZ K F H σ e){σ':L2.St}(i:Nat)(hl:σ'.length=e'.length)(hσ:∀j,j≠i->σ'[j]?=σ[j]?)(he:∀j,j≠i->e'[j]?=e[j]?)(sF:av F F')(sm:av F' H')(hf:∀j a,j≠i->Fp σ e H j a->F' a=none)(hh:∀j a o,j≠i->Fp σ e H j a->H a=some o->H' a=some o)(hd:∀x,e'[i]?=some (some (.d x))->∃v,σ'[i]?=some (some v)/\DA K F' x v)(ho:∀xs,e'[i]?=some (some (.l xs))->∃l vs,σ'[i]?=some (some (.ref l))/\F' l=none/\H' l=some (.lst vs)/\aL K F' xs vs)(hn:∀xss,e'[i]?=some (some (.n xss))->∃(l:LQ) (bs:List LQ),σ'[i]?=some (some (.ref l))/\F' l=none/\H' l=some (.lst (bs.map V.ref))/\bs.length=xss.length/\bs.Nodup/\l∉bs/\∀(k:Nat) (b:LQ) (ys:List LS),bs[k]?=some b->xss[k]?=some ys->F' b=none/\∃us,H' b=some (.lst us)/\aL K F' ys us)(hi:∀a j,j≠i->Fp σ' e' H' i a->¬Fp σ e H j a):aZ K F' H' σ' e'/\∀j a,j≠i->(Fp σ' e' H' j a↔Fp σ e H j a):=by
 have fs:∀j a,j≠i->(Fp σ' e' H' j a↔Fp σ e H j a):=by
  intro j a hj;have key:∀xss l,e[j]?=some (some (.n xss))->σ[j]?=some (some (.ref l))->H' l=H l:=λxss l h1 h2=>by obtain⟨l',bs,g1,g2,g3,_⟩:=R.nst j xss h1;rw[h2]at g1;cases g1;rw[g3];exact hh j l _ hj (.inr ⟨xss,l,bs,h1,h2,g3,.inl rfl⟩) g3
  unfold Fp;rw[he j hj,hσ j hj];constructor
  ·rintro(h1|⟨xss,l,bs,h1,h2,h3,h4⟩);·exact .inl h1
   ·exact .inr ⟨xss,l,bs,h1,h2,by rw[<-key xss l h1 h2];exact h3,h4⟩
  ·rintro(h1|⟨xss,l,bs,h1,h2,h3,h4⟩);·exact .inl h1
   ·exact .inr ⟨xss,l,bs,h1,h2,by rw[key xss l h1 h2];exact h3,h4⟩
 refine⟨⟨sm,hl,λj x q=>?_,λj xs q=>?_,λj xss q=>?_,λj k a q1 q2=>?_⟩,fs⟩
 ·by_cases z:j=i;·subst z;exact hd x q
  ·rw[he j z]at q;obtain⟨v,h1,h2⟩:=R.dat j x q;exact⟨v,by rw[hσ j z];exact h1,DA.mono sF h2⟩
 ·by_cases z:j=i;·subst z;exact ho xs q
  ·rw[he j z]at q;obtain⟨l,vs,h1,h2,h3,h4⟩:=R.own j xs q;have o:Fp σ e H j l:=.inl ⟨xs,q,h1⟩;exact⟨l,vs,by rw[hσ j z];exact h1,hf j l z o,hh j l _ z o h3,h4.mono sF⟩
 ·by_cases z:j=i;·subst z;exact hn xss q
  ·rw[he j z]at q;obtain⟨l,bs,h1,h2,h3,h4,h5,h6,h7⟩:=R.nst j xss q;have o:Fp σ e H j l:=.inr ⟨xss,l,bs,q,h1,h3,.inl rfl⟩;refine⟨l,bs,by rw[hσ j z];exact h1,hf j l z o,hh j l _ z o h3,h4,h5,h6,λk b ys g1 g2=>?_⟩;obtain⟨c1,us,c2,c3⟩:=h7 k b ys g1 g2;have ob:Fp σ e H j b:=.inr ⟨xss,l,bs,q,h1,h3,.inr (LO g1)⟩;exact⟨hf j b z ob,us,hh j b _ z ob c2,c3.mono sF⟩
 ·by_cases zj:j=i
  ·subst zj;by_cases zk:k=j;·exact zk.symm
   ·exact absurd ((fs k a zk).mp q2) (hi a k zk q1)
  ·by_cases zk:k=i;·subst zk;exact absurd ((fs j a zj).mp q1) (hi a j zj q2)
   ·exact R.fp j k a ((fs j a zj).mp q1) ((fs k a zk).mp q2)
theorem aZ.putL(R:aZ K F H σ e){i:Nat}{xs ys:List LS}{l:LQ}{vs:List V}(hi:e[i]?=some (some (.l xs)))(hl:σ[i]?=some (some (.ref l)))(hd:aL K F ys vs):aZ K F (bI H l (.lst vs)) σ (e.set i (some (.l ys)))/\eP σ F H e F (bI H l (.lst vs)) (e.set i (some (.l ys))):=by
 obtain⟨l',vs',h1,h2,h3,h4⟩:=R.own i xs hi;rw[hl]at h1;cases h1;have hlt:i<e.length:=(LJ hi).1;have fi:Fp σ e H i l:=.inl ⟨xs,hi,hl⟩;have gi:(e.set i (some (Sv.l ys)))[i]?=some (some (.l ys)):=NV hlt;obtain⟨R',fs⟩:=R.upd1 (F':=F) (H':=bI H l (.lst vs)) (e':=e.set i (some (.l ys))) i (by rw[Pb];exact R.len) ↥4 (λj hj=>Nu (NM hj)) (av.refl F) (λb o q=>by
  have z:b≠l:=λz=>by rw[z,h2]at q;cases q
  rw[aJ z];exact R.sm b o q) (λj a _ q=>(R.fpAt q).1) (λj a o hj q ha=>by have z:a≠l:=λz=>hj (R.fp j i a q (by rw[z];exact fi));rw[aJ z];exact ha) (λx q=>by rw[gi]at q;cases q) (λzs q=>by rw[gi]at q;cases q;exact⟨l,vs,hl,h2,aC,hd⟩) (λxss q=>by rw[gi]at q;cases q) (λa j hj q q2=>by
  rcases q with⟨zs,_,q⟩|⟨xss,_,_,q,_⟩;·rw[hl]at q;cases q;exact hj (R.fp j i _ q2 fi)
  ·rw[gi]at q;cases q);refine⟨R',⟨av.refl _,λa q=>?_,λ_ _ q _ _=>q,λa ws q=>?_,λa o q n=>?_,λj=>?_,λa⟨j,q⟩=>?_,λ_ _ q _ _=>q⟩⟩
 ·by_cases z:a=l;·rw[z,aC]at q;cases q
  ·rw[aJ z]at q;exact q
 ·by_cases z:a=l;·rw[z];exact⟨vs,aC⟩
  ·rw[aJ z];exact⟨ws,q⟩
 ·have z:a≠l:=λz=>n ⟨i,by rw[z];exact fi⟩;rw[aJ z];exact q
 ·by_cases z:j=i;·subst z;rw[gi];exact⟨λ_=>⟨xs,hi⟩,λ_=>⟨ys,rfl⟩⟩
  ·rw[Nu (NM z)]
 ·by_cases z:j=i
  ·subst z;rcases q with⟨zs,_,q⟩|⟨xss,_,_,q,_⟩;·rw[hl]at q;cases q;exact .inl ⟨j,fi⟩
   ·rw[gi]at q;cases q
  ·exact .inl ⟨j,(fs j a z).mp q⟩
theorem aZ.setD(R:aZ K F H σ e)(i:Nat){x:LS}{v:V}(h:DA K F x v):aZ K F H (σ.set i (some v)) (e.set i (some (.d x)))/\∀a,cn (σ.set i (some v)) (e.set i (some (.d x))) H a->cn σ e H a:=by
 have gi:∀s,(e.set i (some (Sv.d x)))[i]?=some (some s)->s=.d x/\i<e.length:=λs q=>by
  have hlt:i<e.length:=by have:=(LJ q).1;simpa using this
  rw[NV hlt]at q;exact⟨(Nm (Nm q)).symm,hlt⟩
 have nofp:∀a,¬Fp (σ.set i (some v)) (e.set i (some (.d x))) H i a:=λa q=>by
  rcases q with⟨zs,q,_⟩|⟨xss,_,_,q,_⟩;·cases (gi _ q).1
  ·cases (gi _ q).1
 obtain⟨R',fs⟩:=R.upd1 (F':=F) (H':=H) (σ':=σ.set i (some v)) (e':=e.set i (some (.d x))) i (by rw[Pb,Pb];exact R.len) (λj hj=>Nu (NM hj)) (λj hj=>Nu (NM hj)) (av.refl F) R.sm (λj a _ q=>(R.fpAt q).1) (λj a o _ _ ha=>ha) (λy q=>by obtain⟨z,hlt⟩:=gi _ q;cases z;exact⟨v,NV (by rw[R.len];exact hlt),h⟩) (λzs q=>by cases (gi _ q).1) (λxss q=>by cases (gi _ q).1) (λa j hj q=>absurd q (nofp a));refine⟨R',λa⟨j,q⟩=>?_⟩;by_cases z:j=i;·subst z;exact absurd q (nofp a)
 ·exact⟨j,(fs j a z).mp q⟩
theorem aZ.setL(R:aZ K F H σ e)(i:Nat){xs:List LS}{l:LQ}{vs:List V}(h1:F l=none)(h2:H l=some (.lst vs))(h3:aL K F xs vs)(h4:¬cn σ e H l):aZ K F H (σ.set i (some (.ref l))) (e.set i (some (.l xs)))/\∀a,cn (σ.set i (some (.ref l))) (e.set i (some (.l xs))) H a->cn σ e H a\/a=l:=by
 have gi:∀s,(e.set i (some (Sv.l xs)))[i]?=some (some s)->s=.l xs/\i<e.length:=λs q=>by
  have hlt:i<e.length:=by have:=(LJ q).1;simpa using this
  rw[NV hlt]at q;exact⟨(Nm (Nm q)).symm,hlt⟩
 have onefp:∀a,Fp (σ.set i (some (.ref l))) (e.set i (some (.l xs))) H i a->a=l:=λa q=>by
  rcases q with⟨zs,q,q2⟩|⟨xss,_,_,q,_⟩;·obtain⟨_,hlt⟩:=gi _ q;rw[NV (by rw[R.len];exact hlt)]at q2;cases q2;rfl
  ·cases (gi _ q).1
 obtain⟨R',fs⟩:=R.upd1 (F':=F) (H':=H) (σ':=σ.set i (some (.ref l))) (e':=e.set i (some (.l xs))) i (by rw[Pb,Pb];exact R.len) (λj hj=>Nu (NM hj)) (λj hj=>Nu (NM hj)) (av.refl F) R.sm (λj a _ q=>(R.fpAt q).1) (λj a o _ _ ha=>ha) (λy q=>by cases (gi _ q).1) (λzs q=>by obtain⟨z,hlt⟩:=gi _ q;cases z;exact⟨l,vs,NV (by rw[R.len];exact hlt),h1,h2,h3⟩) (λxss q=>by cases (gi _ q).1) (λa j hj q q2=>h4 ⟨j,by rw[onefp a q]at q2;exact q2⟩);refine⟨R',λa⟨j,q⟩=>?_⟩;by_cases z:j=i;·subst z;exact .inr (onefp a q)
 ·exact .inl ⟨j,(fs j a z).mp q⟩
end
section
variable{X:Cx}{K:⇑0}{o a:LU}{es:List LU}{fo:FE}{fs:FA}{name:Str}{apos cpos:Pos}{id:String}
def vk(K:⇑0)(r:V->List V->Hp->VK->Prop)(g:List LS->List LS->Option (LS×List LS)):Prop:=∀(F H:Hp) (l:LQ) (xs ys ds:List LS) (z:LS) (vs us:List V) (Q:VK),F l=none->av F H->H l=some (.lst vs)->aL K F xs vs->aL K F ds us->g xs ds=some (z,ys)->(∀w ws,DA K F z w->aL K F ys ws->Q w (bI H l (.lst ws)))->r (.ref l) us H Q
def bV(g:List LS->List LS->Option (LS×List LS))(fo:FE)(fs:FA):FE:=λe=>(fo e).bind λp=>match p.1 with
 |.s i=>(fs p.2).bind λq=>(fD q.1).bind λds=>match q.2[i]? with|some (some (.l xs))=>(g xs ds).map λz=>(.d z.1,q.2.set i (some (.l z.2)))|_=>none
 |_=>none
theorem An{r:V->List V->Hp->VK->Prop}{g:List LS->List LS->Option (LS×List LS)}(hm:vk K r g){σ:L2.St}{H:Hp}{Q:VK}(h:fE K (bV g fo fs) σ H Q):Ip K "list" r (fE K fo) (fA K fs) σ H Q:=by obtain⟨F,e,z,e',R,hf,q⟩:=h;unfold bV at hf;obtain⟨⟨x,e1⟩,h1,hf⟩:=LH hf;match x,h1,hf with|.s i,h1,hf=>dsimp only at hf;obtain⟨⟨rs,e2⟩,h2,hf⟩:=LH hf;obtain⟨ds,h3,hf⟩:=LH hf;refine⟨F,e,_,e1,R,h1,λF1 H1 v X1 R1 A1=>?_⟩;obtain⟨g1,zs,g2⟩:=A1;obtain⟨l,vs,c1,c2,c3,c4⟩:=R1.own i zs g2;rw[g1]at c1;cases c1;refine⟨.inl ⟨rfl,vs,.inl (.inl c3)⟩,F1,e1,rs,e2,R1,h2,λF2 H2 us X2 R2 A2=>?_⟩;match h4:e2[i]?,hf with|some (some (.l xs)),hf=>dsimp only at hf;obtain⟨⟨zd,ys⟩,h5,hf⟩:=LI hf;cases hf;obtain⟨F3,R3,s3,d3,f3⟩:=cu.frozen R2 A2 h3;obtain⟨l',vs',k1,k2,k3,k4⟩:=R3.own i xs h4;rw[g1]at k1;cases k1;refine hm F3 H2 l xs ys ds zd vs' us Q k2 R3.sm k3 k4 d3 h5 λw ws hw hws=>?_;obtain⟨R4,X4⟩:=R3.putL h4 g1 hws;exact q _ _ _ ((X1.trans (X2.frz s3 f3)).trans X4) R4 hw
theorem C4{r:V->List V->Hp->VK->Prop}{g:List LS->List LS->Option (LS×List LS)}(slot:Slot "list" name id)(hty:typeOf (.builtin id)=pure (.type "method_descriptor"))(hm:Ib X id r)(hf:vk X.K r g)(ho:PE X o (fE X.K fo))(ha:PA X (a::es) (fA X.K fs))(hbase:PN o name X.env (Ml o X.env)=Ml o X.env)(hfew:((MF cpos (Mf (a::es) X.env)).all (λx=>!x.1)&&(backToKw cpos (keywordEach [] X.env)).all (λx=>x.1.isSome)&&decide ((a::es).length+([]:List NQ).length+(if ([]:List NQ).isEmpty then 0 else 1)<30))=true)(hline:(apos.endLine==cpos.line)=true)(hs:Mf (a::es) X.env=(false,Ml a X.env)::Mf es X.env)(hplain:(MF cpos (Mf es X.env)).any (·.1)=false):PE X (.Call (.Attribute o name apos) (a::es) [] cpos) (fE X.K (bV g fo fs)):=(Gg PySem.F.plainAttrs_list slot hty hm ho ha hbase hfew hline hs hplain).mono λ_ _ _ h=>An hf h
def ba:List LS->List LS->Option (LS×List LS):=λxs ds=>match ds with|[d]=>if xs.length<1000000 then some (.none,xs++[d]) else none|_=>none
theorem xW:vk K vX ba:=by intro F H l xs ys ds z vs us Q hF sm hl d1 d2 hg q;unfold ba at hg;match ds,hg,d2 with
 |[d],hg,d2=>
  simp only[aL]at d2;obtain⟨w,r,rfl,hw,rfl⟩:=d2;dsimp only at hg;split at hg;case isFalse=>cases hg
  case isTrue hlt=>cases hg;have:=d1.len;have sl:Mi=16777216:=MO;exact⟨l,vs,w,rfl,rfl,hl,by lia,q _ _ (vE.mpr rfl) (d1.append (aL.one hw))⟩
def tF:List LS->List LS->Option (LS×List LS):=λxs ds=>match ds with|[]=>(xs[xs.length-1]?).map λd=>(d,xs.dropLast)|_=>none
def dI:List LS->List LS->Option (LS×List LS):=λxs ds=>match ds with|[.int i]=>if 0<=i/\i<1000000000 then(xs[i.toNat]?).map λd=>(d,xs.eraseIdx i.toNat) else none|_=>none
theorem BG:vk K zQ dI:=by intro F H l xs ys ds z vs us Q hF sm hl d1 d2 hg q;unfold dI at hg;match ds,hg,d2 with
 |[.int i],hg,d2=>
  simp only[aL,DA]at d2;obtain⟨w,r,rfl,rfl,rfl⟩:=d2;dsimp only at hg;split at hg;case isFalse=>cases hg
  case isTrue hlt=>obtain⟨d,h1,h2⟩:=LI hg;cases h2;obtain⟨v,g1,g2⟩:=d1.get h1;have hlt2:i.toNat<vs.length:=(LJ g1).1;exact⟨l,vs,i,i.toNat,v,rfl,rfl,hl,by lia,by lia,seqIndex_of hlt.1 ↥0,g1,q _ _ g2 (d1.erase _)⟩
end
inductive Fl where|nx (e:En)|bk (e:En)|ct (e:En)|rt (r:Rv) (e:En)
abbrev FS:=En->Option Fl
structure cL (W:List Nat) (σ:L2.St) (F H:Hp) (e:En) (σ':L2.St) (F' H':Hp) (e':En):Prop where
 sf:av F F'
 dom:∀a,H' a=none->H a=none
 fr:∀a vs,F a=none->H a=some (.lst vs)->¬cn σ e H a->F' a=none
 lst:∀a vs,H a=some (.lst vs)->∃vs',H' a=some (.lst vs')tmp:∀a o,H a=some o->¬cn σ e H a->H' a=some o
 own:∀a,cn σ' e' H' a->cn σ e H a\/H a=none
 wr:∀j,j∉W->σ'[j]?=σ[j]?
 fd:∀a m,F a=none->H a=some (.dK m)->¬cn σ e H a->F' a=none
section
variable{K:⇑0}{W W1 W2:List Nat}{σ σ1 σ2 σ':L2.St}{H0 F H F1 H1 F2 H2 F' H':Hp}{e e1 e2 e':En}
theorem cL.refl:cL W σ F H e σ F H e:=⟨av.refl _,λ_ h=>h,λ_ _ h _ _=>h,λ_ vs h=>⟨vs,h⟩,λ_ _ h _=>h,λ_ h=>.inl h,λ_ _=>rfl,λ_ _ h _ _=>h⟩
theorem eP.s(x:eP σ F H e F' H' e'):cL W σ F H e σ F' H' e':=⟨x.sf,x.dom,x.fr,x.lst,x.tmp,x.ow,λ_ _=>rfl,x.fd⟩
theorem cL.trans(x:cL W σ F H e σ1 F1 H1 e1)(y:cL W σ1 F1 H1 e1 σ2 F2 H2 e2):cL W σ F H e σ2 F2 H2 e2:=⟨x.sf.trans y.sf,λa h=>x.dom a (y.dom a h),λa vs h n no=>let⟨vs',q⟩:=x.lst a vs n;y.fr a vs' (x.fr a vs h n no) q (λz=>(x.own a z).elim no λz=>by rw[n]at z;cases z),λa vs h=>let⟨vs',q⟩:=x.lst a vs h;y.lst a vs' q,λa o h n=>y.tmp a o (x.tmp a o h n) (λz=>(x.own a z).elim n λz=>by rw[h]at z;cases z),λa h=>(y.own a h).elim (x.own a) (λz=>.inr (x.dom a z)),λj h=>(y.wr j h).trans (x.wr j h),λa m h n no=>y.fd a m (x.fd a m h n no) (x.tmp a _ n no) (λz=>(x.own a z).elim no λz=>by rw[n]at z;cases z)⟩
theorem cL.mono(x:cL W1 σ F H e σ' F' H' e')(h:∀j,j∈W1->j∈W):cL W σ F H e σ' F' H' e':=⟨x.sf,x.dom,x.fr,x.lst,x.tmp,x.own,λj n=>x.wr j λz=>n (h j z),x.fd⟩
end
def n_(K:⇑0)(W:List Nat)(σ:L2.St)(F H:Hp)(e:En)(D:qF):Fl->Prop|.nx e'=>∀F' H' σ',cL W σ F H e σ' F' H' e'->aZ K F' H' σ' e'->D.nx σ' H'|.bk e'=>∀F' H' σ',cL W σ F H e σ' F' H' e'->aZ K F' H' σ' e'->D.bk σ' H'|.ct e'=>∀F' H' σ',cL W σ F H e σ' F' H' e'->aZ K F' H' σ' e'->D.ct σ' H'|.rt r e'=>∀F' H' σ' v,cL W σ F H e σ' F' H' e'->aZ K F' H' σ' e'->cj K σ' H F' H' e' r v->D.rt v H'
def fS(K:⇑0)(f:FS)(W:List Nat):TS:=λD σ H=>∃F e fl,aZ K F H σ e/\f e=some fl/\n_ K W σ F H e D fl
theorem PS.mono{X:Cx}{st:Me}{t t':TS}(h:PS X st t)(m:∀D σ H,t' D σ H->t D σ H):PS X st t':=λpins s σ H D I q=>h pins s σ H D I (m D σ H q)
theorem ky.mono{X:Cx}{st:List Me}{t t':TS}(h:ky X st t)(m:∀D σ H,t' D σ H->t D σ H):ky X st t':=λpins s σ H D I q=>h pins s σ H D I (m D σ H q)
theorem n_.later{K:⇑0}{W W1 W2:List Nat}{σ σ1:L2.St}{F H F1 H1:Hp}{e e1:En}{D:qF}{fl:Fl}(h:n_ K W σ F H e D fl)(x:cL W1 σ F H e σ1 F1 H1 e1)(h1:∀j,j∈W1->j∈W)(h2:∀j,j∈W2->j∈W):n_ K W2 σ1 F1 H1 e1 D fl:=by cases fl with|nx e'=>exactλF' H' σ' y R=>h F' H' σ' ((x.mono h1).trans (y.mono h2)) R|bk e'=>exactλF' H' σ' y R=>h F' H' σ' ((x.mono h1).trans (y.mono h2)) R|ct e'=>exactλF' H' σ' y R=>h F' H' σ' ((x.mono h1).trans (y.mono h2)) R|rt r e'=>exactλF' H' σ' v y R A=>h F' H' σ' v ((x.mono h1).trans (y.mono h2)) R (A.weak x.dom)
section
variable{X:Cx}{K:⇑0}{W W1 W2:List Nat}{st:Me}{dc:List Me}{f g:FS}{a b:LU}{fa:FE}{ft:FT}{pos:Pos}
def de:FS:=λe=>some (.nx e)
def aE(f g:FS):FS:=λe=>(f e).bind λfl=>match fl with|.nx e1=>g e1|fl=>some fl
theorem bg:ky X [] (fS K de []):=rP.mono λD σ H h=>by obtain⟨F,e,fl,R,hf,q⟩:=h;cases hf;exact q F H σ cL.refl R
theorem ah(h1:PS X st (fS K f W1))(h2:ky X dc (fS K g W2)):ky X (st::dc) (fS K (aE f g) (W1++W2)):=(lz h1 h2).mono λD σ H h=>by obtain⟨F,e,fl,R,hf,q⟩:=h;unfold aE at hf;obtain⟨fl1,h1,hf⟩:=LH hf;have s1:∀j,j∈W1->j∈W1++W2:=λj h=>Ow.mpr (.inl h);have s2:∀j,j∈W2->j∈W1++W2:=λj h=>Ow.mpr (.inr h);refine⟨F,e,fl1,R,h1,?_⟩;cases fl1 with|nx e1=>exactλF' H' σ' x R'=>⟨F',e1,fl,R',hf,q.later x s1 s2⟩|bk e1=>cases hf;exactλF' H' σ' x R'=>q F' H' σ' (x.mono s1) R'|ct e1=>cases hf;exactλF' H' σ' x R'=>q F' H' σ' (x.mono s1) R'|rt r e1=>cases hf;exactλF' H' σ' v x R' A=>q F' H' σ' v (x.mono s1) R' A
theorem am(h1:PS X st (fS K f W)):ky X [st] (fS K f W):=jS h1
def cT(fa:FE):FS:=λe=>(fa e).map λp=>.nx p.2
theorem cY(he:PE X a (fE K fa))(hs:OR a none pos.line X.env=pure false):PS X (.Expr a pos) (fS K (cT fa) []):=(BI he hs).mono λD σ H h=>by obtain⟨F,e,fl,R,hf,q⟩:=h;obtain⟨⟨x,e1⟩,h1,hf⟩:=LI hf;cases hf;exact⟨F,e,x,e1,R,h1,λF1 H1 v X1 R1 A1=>q F1 H1 σ X1.s R1⟩
def bh(fa:FE):FS:=λe=>(fa e).map λp=>.rt p.1 p.2
theorem aH(he:PE X a (fE K fa)):PS X (.Return (some a) pos) (fS K (bh fa) []):=(rO he).mono λD σ H h=>by obtain⟨F,e,fl,R,hf,q⟩:=h;obtain⟨⟨x,e1⟩,h1,hf⟩:=LI hf;cases hf;exact⟨F,e,x,e1,R,h1,λF1 H1 v X1 R1 A1=>q F1 H1 σ v X1.s R1 A1⟩
def i0(ft:FT)(f g:FS):FS:=λe=>(ft e).bind λp=>if p.1=true then f p.2 else g p.2
theorem cD{c:LU}{bs cs:List Me}(hc:PT X c (fT K ft))(ha:ky X bs (fS K f W1))(hb:ky X cs (fS K g W2)):PS X (.If c bs cs pos) (fS K (i0 ft f g) (W1++W2)):=(zF hc ha hb).mono λD σ H h=>by obtain⟨F,e,fl,R,hf,q⟩:=h;unfold i0 at hf;obtain⟨⟨x,e1⟩,h1,hf⟩:=LH hf;refine⟨F,e,x,e1,R,h1,λF1 H1 X1 R1=>?_⟩;cases x with|true=>exact⟨F1,e1,fl,R1,hf,q.later (W1:=[]) X1.s (λj h=>by cases h) λj h=>Ow.mpr (.inl h)⟩|false=>exact⟨F1,e1,fl,R1,hf,q.later (W1:=[]) X1.s (λj h=>by cases h) λj h=>Ow.mpr (.inr h)⟩
def pI(i:Nat)(r:Rv)(e:En):Option En:=match r with|.d x=>some (e.set i (some (.d x)))|.l xs=>some (e.set i (some (.l xs)))|.s _=>none
theorem El{σ:L2.St}{H F H1 F1:Hp}{e e1 e2:En}{i:Nat}{r:Rv}{v:V}(R:aZ K F H σ e)(X1:eP σ F H e F1 H1 e1)(R1:aZ K F1 H1 σ e1)(A1:cj K σ H F1 H1 e1 r v)(h:pI i r e1=some e2):cL [i] σ F H e (σ.set i (some v)) F1 H1 e2/\aZ K F1 H1 (σ.set i (some v)) e2:=by
 have wr:∀j,j∉[i]->(σ.set i (some v))[j]?=σ[j]?:=λj n=>Nu (λz=>n (by simp[z]))
 cases r with|d x=>cases h;obtain⟨R2,o2⟩:=R1.setD i A1;exact⟨⟨X1.sf,X1.dom,X1.fr,X1.lst,X1.tmp,λa h=>X1.ow a (o2 a h),wr,X1.fd⟩,R2⟩|l xs=>
  cases h;obtain⟨l,vs,rfl,h1,h2,h3,h4,h5⟩:=A1;obtain⟨R2,o2⟩:=R1.setL i h2 h3 h4 h5;refine⟨⟨X1.sf,X1.dom,X1.fr,X1.lst,X1.tmp,λa h=>?_,wr,X1.fd⟩,R2⟩;rcases o2 a h with z|z;·exact X1.ow a z
  ·exact .inr (by rw[z];exact h1)|s j=>cases h
def aU(i:Nat)(fa:FE):FS:=λe=>(fa e).bind λp=>(pI i p.1 p.2).map .nx
theorem ax{i:Nat}{x:Str}{pos':Pos}(hN:X.N.Nodup)(hi:X.N[i]?=some x)(hx:EZ X.env.scope x)(he:PE X a (fE K fa))(hs:OR a (some (.Name x pos')) pos.line X.env=pure false)(hf:X.fn x=true\/X.env.scope.names.lookup x=some .local):PS X (.Assign [.Name x pos'] a pos) (fS K (aU i fa) [i]):=(uY hN hi hx he hs hf).mono λD σ H h=>by obtain⟨F,e,fl,R,hf,q⟩:=h;unfold aU at hf;obtain⟨⟨r,e1⟩,h1,hf⟩:=LH hf;obtain⟨e2,h2,hf⟩:=LI hf;cases hf;refine⟨F,e,r,e1,R,h1,λF1 H1 v X1 R1 A1=>?_⟩;obtain⟨x,R2⟩:=El R X1 R1 A1 h2;exact q F1 H1 _ x R2
abbrev FG:=LS->En->Option En
def fG(K:⇑0)(g:FG)(W:List Nat):TG:=λv σ H Q=>∃F e x e',aZ K F H σ e/\DA K F x v/\g x e=some e'/\∀σ',cL W σ F H e σ' F H e'->aZ K F H σ' e'->Q σ' H
abbrev Co:=List LS->En->Option En
def G2(K:⇑0)(g:Co)(W:List Nat):Au:=λvs σ H Q=>∃F e xs e',aZ K F H σ e/\aL K F xs vs/\g xs e=some e'/\∀σ',cL W σ F H e σ' F H e'->aZ K F H σ' e'->Q σ' H
theorem PG.mono{tg:LU}{t t':TG}(h:PG X tg t)(m:∀v σ H Q,t' v σ H Q->t v σ H Q):PG X tg t':=λpins s σ H v u Q I r q=>h pins s σ H v u Q I r (m v σ H Q q)
theorem xP.mono{tg:List LU}{t t':Au}(h:xP X tg t)(m:∀v σ H Q,t' v σ H Q->t v σ H Q):xP X tg t':=λpins s σ H v u Q I r q=>h pins s σ H v u Q I r (m v σ H Q q)
def aq(i:Nat):FG:=λx e=>some (e.set i (some (.d x)))
def br:Co:=λxs e=>match xs with|[]=>some e|_=>none
def au(g:FG)(gs:Co):Co:=λxs e=>match xs with|x::r=>(g x e).bind λe1=>gs r e1|_=>none
def bC(gs:Co):FG:=λx e=>match x with|.tuple xs=>gs xs e|_=>none
theorem aM{i:Nat}{x:Str}(hN:X.N.Nodup)(hi:X.N[i]?=some x)(hx:EZ X.env.scope x)(hf:X.fn x=true\/X.env.scope.names.lookup x=some .local):PG X (.Name x pos) (fG K (aq i) [i]):=(By hN hi hx hf).mono λv σ H Q h=>by obtain⟨F,e,x,e',R,hx,hg,q⟩:=h;cases hg;obtain⟨R2,o2⟩:=R.setD i hx;exact q _ ⟨av.refl _,λ_ h=>h,λ_ _ h _ _=>h,λ_ vs h=>⟨vs,h⟩,λ_ _ h _=>h,λa h=>.inl (o2 a h),λj n=>Nu (λz=>n (by simp[z])),λ_ _ h _ _=>h⟩ R2
theorem ee:xP X [] (G2 K br []):=BA.mono λv σ H Q h=>by
 obtain⟨F,e,x,e',R,hx,hg,q⟩:=h;unfold br at hg;split at hg;·cases hg;simp only[aL]at hx;exact⟨hx,q σ cL.refl R⟩
 ·cases hg
theorem aW{es:List LU}{g1:FG}{gs:Co}(h1:PG X a (fG K g1 W1))(h2:xP X es (G2 K gs W2))(hs:(NO (a::es) X.env).map (·.2)=assign a X.env::(NO es X.env).map (·.2)):xP X (a::es) (G2 K (au g1 gs) (W1++W2)):=(zw h1 h2 hs).mono λv σ H Q h=>by obtain⟨F,e,xs,e',R,hx,hg,q⟩:=h;unfold au at hg;match xs,hg,hx with|x::r,hg,hx=>simp only[aL]at hx;obtain⟨w,ws,e1,hw,hr⟩:=hx;dsimp only at hg;obtain⟨e1',h3,h4⟩:=LH hg;refine⟨w,ws,e1,F,e,x,e1',R,hw,h3,λσ1 x1 R1=>⟨F,e1',r,e',R1,hr,h4,λσ2 x2 R2=>?_⟩⟩;exact q σ2 ((x1.mono λj h=>Ow.mpr (.inl h)).trans (x2.mono λj h=>Ow.mpr (.inr h))) R2
theorem gN{es:List LU}{k n:Nat}{gs:Co}(hK:X.K=K)(hc:X.calm=true)(h:xP X es (G2 K gs W))(hl:∀xs e e',gs xs e=some e'->xs.length=n)(hn:(NO es X.env).length=n)(hst:(NO es X.env).findIdx? (·.1)=none):PG X (.Tuple es k pos) (fG K (bC gs) W):=(Bz hK hc h hn hst).mono λv σ H Q h=>by obtain⟨F,e,x,e',R,hx,hg,q⟩:=h;unfold bC at hg;match x,hg,hx with|.tuple xs,hg,hx=>obtain⟨p,vs,e1,e2,e3⟩:=eT.mp hx;exact⟨p,vs,e1,R.sm.tup e2,by rw[<-e3.len];exact hl xs e e' hg,F,e,xs,e',R,e3,hg,q⟩
theorem gL(xs:List LS)(e e':En)(h:br xs e=some e'):xs.length=0:=by
 unfold br at h;split at h;·rfl
 ·cases h
theorem bj{g:FG}{gs:Co}{n:Nat}(hl:∀xs e e',gs xs e=some e'->xs.length=n)(xs:List LS)(e e':En)(h:au g gs xs e=some e'):xs.length=n+1:=by unfold au at h;match xs,h with|x::r,h=>obtain⟨e1,h3,h4⟩:=LH h;simp[hl r e1 e' h4]
def kj(fa:FE)(g:FG):FS:=λe=>(fa e).bind λp=>match p.1 with|.d x=>(g x p.2).map .nx|_=>none
theorem oM{tg:LU}{g:FG}(he:PE X a (fE K fa))(hg:PG X tg (fG K g W))(hs:swapsWithSole [tg] a pos.line X.env=pure false)(hw:swappedStores [tg] a X.env=pure none)(h1:(NO [tg] X.env).map (·.2)=[assign tg X.env]):PS X (.Assign [tg] a pos) (fS K (kj fa g) W):=(Ei he hg hs hw h1).mono λD σ H h=>by obtain⟨F,e,fl,R,hf,q⟩:=h;unfold kj at hf;obtain⟨⟨r,e1⟩,h1,hf⟩:=LH hf;match r,h1,hf with|.d x,h1,hf=>obtain⟨e2,h2,hf⟩:=LI hf;cases hf;exact⟨F,e,_,e1,R,h1,λF1 H1 v X1 R1 A1=>⟨F1,e1,x,e2,R1,A1,h2,λσ' x2 R2=>q F1 H1 σ' (X1.s.trans x2) R2⟩⟩
def nF(i j:Nat)(fs:FA):FS:=λe=>(fs e).bind λp=>match p.1 with|[.d x,.d y]=>some (.nx ((p.2.set i (some (.d x))).set j (some (.d y))))|_=>none
theorem zN{i j:Nat}{x y:Str}{fs:FA}{px py pt:Pos}{kt k2 pt2}(hc:X.calm=true)(hN:X.N.Nodup)(hi:X.N[i]?=some x)(hj:X.N[j]?=some y)(hij:i≠j)(hx:X.env.scope.names.lookup x=some .local)(hy:X.env.scope.names.lookup y=some .local)(ha:PA X [a,b] (fA K fs))(hw:swappedStores [.Tuple [.Name x px,.Name y py] kt pt] (.Tuple [a,b] k2 pt2) X.env=pure (some [x,y]))(hs:swapsWithSole [.Tuple [.Name x px,.Name y py] kt pt] (.Tuple [a,b] k2 pt2) pos.line X.env=pure false):PS X (.Assign [.Tuple [.Name x px,.Name y py] kt pt] (.Tuple [a,b] k2 pt2) pos) (fS K (nF i j fs) [i,j]):=(Ek hc hN hi hj hij hx hy ha hw hs).mono λD σ H h=>by obtain⟨F,e,fl,R,hf,q⟩:=h;unfold nF at hf;obtain⟨⟨rs,e1⟩,h1,hf⟩:=LH hf;refine⟨F,e,rs,e1,R,h1,λF1 H1 vs X1 R1 A1=>?_⟩;match rs,hf,A1 with|[.d x,.d y],hf,A1=>cases hf;obtain⟨v,u,rfl,a1,a2⟩:=vZ A1;obtain⟨R2,o2⟩:=R1.setD i a1;obtain⟨R3,o3⟩:=R2.setD j a2;refine⟨v,u,rfl,q F1 H1 _ ⟨X1.sf,X1.dom,X1.fr,X1.lst,X1.tmp,λa h=>X1.ow a (o2 a (o3 a h)),λm n=>?_,X1.fd⟩ R3⟩;rw[Nu (λz=>n (by simp[z])),Nu (λz=>n (by simp[z]))]
def nq:Rv->Option LS|.d x=>some x|.l xs=>some (.list xs)|.s _=>none
theorem pZ{r:Rv}{d:LS}(h:nq r=some d):fD [r]=some [d]:=by cases r with|d x=>cases h;rfl|l xs=>cases h;rfl|s i=>cases h
def iU(ft:FT)(f:FS):Nat->FS|0,_=>none|n+1,e=>(ft e).bind λp=>if p.1=true then(f p.2).bind λfl=>match fl with|.nx e1=>iU ft f n e1|.ct e1=>iU ft f n e1|.bk e1=>some (.nx e1)|.rt r e1=>some (.rt r e1)else some (.nx p.2)
def iR(n:Nat)(ft:FT)(f:FS):FS:=iU ft f n
theorem lD{n:Nat}{c:LU}{body:List Me}(hp:PassesOwn (LY X.prog X.w) X.A X.env X.xe)(hc:PT X c (fT K ft))(hb:ky X body (fS K f W)):PS X (.While c body [] pos) (fS K (iR n ft f) W):=(zH hp hc hb).mono λD σ H h=>by refine⟨λm σ H=>∃F e fl,aZ K F H σ e/\iU ft f m e=some fl/\n_ K W σ F H e D fl,⟨n,h⟩,?_⟩;rintro m σ H⟨F,e,fl,R,hf,q⟩;cases m with|zero=>cases hf|succ m=>
 unfold iU at hf;obtain⟨⟨x,e1⟩,h1,hf⟩:=LH hf;refine⟨F,e,x,e1,R,h1,λF1 H1 X1 R1=>?_⟩;have sub:∀j,j∈([]:List Nat)->j∈W:=λj h=>by cases h
 cases x with|false=>rw[if_neg ↥1]at hf;cases hf;exact wX (q F1 H1 σ X1.s R1)|true=>rw[if_pos rfl]at hf;refine wY ?_;obtain⟨fl1,h2,hf⟩:=LH hf;have q1:n_ K W σ F1 H1 e1 D fl:=q.later (W1:=[]) X1.s sub λj h=>h;refine⟨λσ' H'=>∃F' e',aZ K F' H' σ' e'/\iU ft f m e'=some fl/\n_ K W σ' F' H' e' D fl,λσ' H'⟨F',e',r1,r2,r3⟩=>⟨m,Nat.lt_succ_self m,F',e',fl,r1,r2,r3⟩,F1,e1,fl1,R1,h2,?_⟩;cases fl1 with|nx e2=>exactλF2 H2 σ2 x R2=>⟨F2,e2,R2,hf,q1.later x (λj h=>h) λj h=>h⟩|ct e2=>exactλF2 H2 σ2 x R2=>⟨F2,e2,R2,hf,q1.later x (λj h=>h) λj h=>h⟩|bk e2=>cases hf;exactλF2 H2 σ2 x R2=>q1 F2 H2 σ2 x R2|rt r e2=>cases hf;exactλF2 H2 σ2 v x R2 A=>q1 F2 H2 σ2 v x R2 A
end
theorem PI.mono{X:Cx}{tg iter:LU}{t t':TI}(h:PI X tg iter t)(m:∀σ H R,t' σ H R->t σ H R):PI X tg iter t':=λpins s σ H R I q=>h pins s σ H R I (m σ H R q)
theorem PI.or{X:Cx}{tg iter:LU}{t t':TI}(h:PI X tg iter t)(h':PI X tg iter t'):PI X tg iter (λσ H R=>t σ H R\/t' σ H R):=λpins s σ H R I q=>by
 rcases q with q|q;·exact h pins s σ H R I q
 ·exact h' pins s σ H R I q
abbrev jY:=List (Nat×List LS)
def wz(K:⇑0)(σ:L2.St)(F H:Hp)(own:jY):Prop:=∀p∈own,∃l vs,σ[p.1]?=some (some (.ref l))/\H l=some (.lst vs)/\aL K F p.2 vs
def AA(K:⇑0)(σ:L2.St)(J:It)(items:List LS)(own:jY)(F0:Hp):Prop:=∀F H,av F0 F->av F H->wz K σ F H own->(∀i,i<items.length->J.go i H)/\(∀i,items.length<=i->J.stop i H)/\∀i d x H',items[i]?=some d->J.yld i H x H'->∃F',av H H'/\av F F'/\av F' H'/\(∀a,F a=none->H a≠none->F' a=none)/\DA K F' d x
abbrev FI:=En->Option (List LS×jY×En)
def keeps(own:jY)(e:En):Prop:=∀p∈own,e[p.1]?=some (some (.l p.2))
def fI(K:⇑0)(f:FI):TI:=λσ H R=>∃F e items own e',aZ K F H σ e/\f e=some (items,own,e')/\∀J F' H',eP σ F H e F' H' e'->aZ K F' H' σ e'->keeps own e'->AA K σ J items own F'->R J H'
section
variable{K:⇑0}{σ:L2.St}{H0 F H F' H':Hp}{e e':En}
theorem aZ.held(R:aZ K F H σ e){own:jY}(h:keeps own e):wz K σ F H own:=λp hp=>by obtain⟨l,vs,h1,h2,h3,h4⟩:=R.own p.1 p.2 (h p hp);exact⟨l,vs,h1,h3,h4⟩
theorem aZ.step(R:aZ K F H σ e)(s:av H H')(sF:av F F')(sm:av F' H')(fz:∀a,F a=none->H a≠none->F' a=none):aZ K F' H' σ e/\eP σ F H e F' H' e:=by obtain⟨R',o'⟩:=R.keep sF sm (λa⟨i,h⟩=>by obtain⟨h1,vs,h2⟩:=R.fpAt h;exact fz a h1 (by rw[h2];simp)) λa o _ h=>s a o h;exact⟨R',⟨sF,λa h=>s.free h,λa vs h1 h2 _=>fz a h1 (by rw[h2];simp),λa vs h=>⟨vs,s _ _ h⟩,λa o h _=>s a o h,λ_=>Iff.rfl,λa h=>.inl ((o' a).mp h),λa m h1 h2 _=>fz a h1 (by rw[h2];simp)⟩⟩
inductive Cs (K:⇑0) (σ:L2.St) (F:Hp) (p:LQ):Bool->List LS->jY->Prop|tup{xs vs}:dO K F p vs->aL K F xs vs->Cs K σ F p false xs []|lst{xs vs}:i6 K F p vs->aL K F xs vs->Cs K σ F p true xs []|own{i xs}:σ[i]?=some (some (.ref p))->Cs K σ F p true xs [(i,xs)]
theorem Cs.at{p:LQ}{b:Bool}{xs:List LS}{own:jY}{F0:Hp}(h:Cs K σ F0 p b xs own)(s0:av F0 F)(s1:av F H){own':jY}(hh:wz K σ F H own')(hs:∀q∈own,q∈own'):∃vs,aL K F xs vs/\(if b=true then i6 K H p vs else dO K H p vs):=by cases h with|tup h1 h2=>exact⟨_,h2.mono s0,(s0.trans s1).tup h1⟩|lst h1 h2=>exact⟨_,h2.mono s0,(s0.trans s1).seq h1⟩|@own i xs h1=>obtain⟨l,vs,g1,g2,g3⟩:=hh (i,xs) (hs (i,xs) ↥1);dsimp only at g1 g3;rw[h1]at g1;cases g1;exact⟨vs,g3,.inl (.inl g2)⟩
def EK(e:En):Rv->Option (Bool×List LS×jY)
 |.d (.tuple xs)=>some (false,xs,[])|.d (.list xs)=>some (true,xs,[])|.l xs=>some (true,xs,[])|.s i=>match e[i]? with|some (some (.l xs))=>some (true,xs,[(i,xs)])|_=>none
 |_=>none
theorem wf{r:Rv}{v:V}{b:Bool}{xs:List LS}{own:jY}(R:aZ K F H σ e)(A:cj K σ H0 F H e r v)(h:EK e r=some (b,xs,own)):∃F' p,aZ K F' H σ e/\av F F'/\(∀a,F a=none->H0 a≠none->F' a=none)/\v=.ref p/\Cs K σ F' p b xs own/\keeps own e:=by cases r with
 |d x=>cases x with|tuple ds=>cases h;obtain⟨a,ys,e1,e2,e3⟩:=eT.mp A;exact⟨F,a,R,av.refl _,λ_ h _=>h,e1,.tup e2 e3,λp hp=>by cases hp⟩|list ds=>cases h;obtain⟨a,ys,e1,e2,e3⟩:=fC.mp A;exact⟨F,a,R,av.refl _,λ_ h _=>h,e1,.lst e2 e3,λp hp=>by cases hp⟩|_=>cases h
 |l ys=>cases h;obtain⟨F',R',s',d',f'⟩:=A.frozen R;obtain⟨a,ys,e1,e2,e3⟩:=fC.mp d';exact⟨F',a,R',s',f',e1,.lst e2 e3,λp hp=>by cases hp⟩|s i=>obtain⟨h1,ys,h2⟩:=A;simp only[EK,h2]at h;cases h;obtain⟨l,vs,e1,e2,e3,e4⟩:=R.own i _ h2;rw[h1]at e1;cases e1;exact⟨F,l,R,av.refl _,λ_ h _=>h,rfl,.own h1,λp hp=>by simp only[Pa]at hp;subst hp;exact h2⟩
theorem wW{p:LQ}{xs:List LS}{own:jY}{F0:Hp}(h:Cs K σ F0 p true xs own):AA K σ (Hb K p) xs own F0:=by intro F H s0 s1 hh;obtain⟨vs,d,q⟩:=h.at s0 s1 hh λ_ h=>h;have q:i6 K H p vs:=q;refine⟨λi hi=>⟨vs,vs[i]'(by rw[<-d.len];exact hi),q,My _⟩,λi hi=>⟨vs,q,by rw[<-d.len];exact hi⟩,λi x v H' hx hy=>?_⟩;obtain⟨rfl,hy⟩:=hy;obtain⟨w,g1,g2⟩:=d.get hx;have e:=hy vs q;rw[g1]at e;cases e;exact⟨F,av.refl _,av.refl _,s1,λ_ h _=>h,g2⟩
theorem yJ{p:LQ}{xs:List LS}{own:jY}{F0:Hp}(h:Cs K σ F0 p false xs own):AA K σ (Hc K p) xs own F0:=by intro F H s0 s1 hh;obtain⟨vs,d,q⟩:=h.at s0 s1 hh λ_ h=>h;have q:dO K H p vs:=q;refine⟨λi hi=>⟨vs,vs[i]'(by rw[<-d.len];exact hi),q,My _⟩,λi hi=>⟨vs,q,by rw[<-d.len];exact hi⟩,λi x v H' hx hy=>?_⟩;obtain⟨rfl,hy⟩:=hy;obtain⟨w,g1,g2⟩:=d.get hx;have e:=hy vs q;rw[g1]at e;cases e;exact⟨F,av.refl _,av.refl _,s1,λ_ h _=>h,g2⟩
def bL(lo:Int)(n:Nat):List LS:=(MD n).map fun(i:Nat)=>.int (lo+(i:Int))
theorem uF{lo:Int}{n:Nat}{F0:Hp}:AA K σ (GW lo n) (bL lo n) [] F0:=by intro F H s0 s1 hh;unfold bL;rw[Mn,List.length_range];refine⟨λi hi=>hi,λi hi=>hi,λi x v H' hx hy=>?_⟩;obtain⟨rfl,rfl⟩:=hy;rw[MS]at hx;obtain⟨k,h1,rfl⟩:=LI hx;have h2:=(LJ h1).2;simp at h2;subst h2;exact⟨F,av.refl _,av.refl _,s1,λ_ h _=>h,c_.mpr rfl⟩
end
inductive G_ (K:⇑0) (own:jY) (σ0:L2.St) (F1:Hp) (P:En->Prop) (G:L2.St->Hp->Hp->En->Prop) (σ:L2.St) (H:Hp):Prop|mk{F:Hp}{e:En}(R:aZ K F H σ e) (kp:keeps own e) (hσ:∀p∈own,σ[p.1]?=σ0[p.1]?) (sF:av F1 F) (hf:P e) (q:G σ F H e):G_ K own σ0 F1 P G σ H
section
variable{X:Cx}{K:⇑0}{tg a b:LU}{es:List LU}{fa:FE}{fs:FA}{pos p tp:Pos}{k0:Nat}
def jm(fa:FE):FI:=λe=>(fa e).bind λp=>(EK p.2 p.1).map λs=>(s.2.1,s.2.2,p.2)
theorem fU(hK:X.K=K)(h:PE X a (fE K fa)):PI X tg a (fI K (jm fa)):=((zx (tg:=tg) hK h).or (BD (tg:=tg) hK h)).mono λσ H R hh=>by obtain⟨F,e,items,own,e',R0,hf,q⟩:=hh;unfold jm at hf;obtain⟨⟨r,e1⟩,h1,hf⟩:=LH hf;obtain⟨⟨b,xs,ow⟩,h2,hf⟩:=LI hf;cases hf;cases b with|true=>refine .inl ⟨F,e,r,e1,R0,h1,λF1 H1 v X1 R1 A1=>?_⟩;obtain⟨F2,p,R2,s2,f2,rfl,sc,kp⟩:=wf R1 A1 h2;obtain⟨vs,_,c⟩:=sc.at (av.refl _) R2.sm (R2.held kp) λ_ h=>h;exact⟨p,rfl,⟨vs,c⟩,q _ F2 H1 (X1.frz s2 f2) R2 kp (wW sc)⟩|false=>refine .inr ⟨F,e,r,e1,R0,h1,λF1 H1 v X1 R1 A1=>?_⟩;obtain⟨F2,p,R2,s2,f2,rfl,sc,kp⟩:=wf R1 A1 h2;obtain⟨vs,_,c⟩:=sc.at (av.refl _) R2.sm (R2.held kp) λ_ h=>h;exact⟨p,rfl,⟨vs,c⟩,q _ F2 H1 (X1.frz s2 f2) R2 kp (yJ sc)⟩
def zW(j:Int):Bool:=decide (-1000000<=j)&&decide (j<=1000000)
theorem zX{j:Int}(h:zW j=true):-1000000<=j/\j<=1000000:=by unfold zW at h;rw[MC,decide_eq_true_iff,decide_eq_true_iff]at h;exact h
def ed(fs:FA):FI:=λe=>(fs e).bind λp=>match p.1 with|[r]=>(bF r).bind λj=>if zW j=true then some (bL 0 j.toNat,[],p.2) else none|_=>none
theorem fx(hg:Gl X "range")(hm:X.mg "range"=none)(ha:PA X [a] (fA K fs))(hs:Mf [a] X.env=[(false,Ml a X.env)]):PI X tg (.Call (.Name "range" p) [a] [] pos) (fI K (ed fs)):=(xq hg hm ha hs).mono λσ H R hh=>by obtain⟨F,e,items,own,e',R0,hf,q⟩:=hh;unfold ed at hf;obtain⟨⟨rs,e1⟩,h1,hf⟩:=LH hf;match rs,h1,hf with
 |[r],h1,hf=>
 obtain⟨j,h2,hf⟩:=LH hf;split at hf;case isFalse=>cases hf
 case isTrue hj=>cases hf;refine⟨F,e,_,e1,R0,h1,λF1 H1 vs X1 R1 A1=>?_⟩;obtain⟨v,rfl,A2⟩:=nO A1;have:=zX hj;exact⟨j,by rw[ci A2 h2],by lia,by lia,q _ F1 H1 X1 R1 (λ_ h=>by cases h) uF⟩
open Classical in def kc(own:jY)(g:FG)(f:FS):List LS->FS|[],e=>some (.nx e)|x::r,e=>(g x e).bind λe1=>(f e1).bind λfl=>match fl with|.nx e2=>if keeps own e2 then kc own g f r e2 else none|.ct e2=>if keeps own e2 then kc own g f r e2 else none|.bk e2=>some (.nx e2)|.rt v e2=>some (.rt v e2)
def eN(W:List Nat)(fi:FI)(g:FG)(f:FS):FS:=λe=>(fi e).bind λp=>if (p.2.1.all λq=>!W.contains q.1)=true then kc p.2.1 g f p.1 p.2.2 else none
theorem fV{W1 W2:List Nat}{iter:LU}{body:List Me}{fi:FI}{g:FG}{f:FS}(hp:PassesOwn (LY X.prog X.w) X.A X.env X.xe)(hc:X.calm=true)(hi:PI X tg iter (fI K fi))(hg:PG X tg (fG K g W1))(hb:ky X body (fS K f W2))(hs:∀x,NP iter X.env x=pure x):PS X (.For tg iter body [] pos) (fS K (eN (W1++W2) fi g f) (W1++W2)):=(Ej hp hc hi hg hb hs).mono λD σ0 H0 hh=>by
 obtain⟨F0,e0,fl,R0,hf,q0⟩:=hh;unfold eN at hf;obtain⟨⟨items,own,e1⟩,h1,hf⟩:=LH hf;dsimp only at hf;split at hf;case isFalse=>cases hf
 case isTrue hW=>
 have hW':∀p∈own,p.1∉W1++W2:=λp hp=>by have:=ML.mp hW p hp;simpa using this
 refine⟨F0,e0,items,own,e1,R0,h1,λJ F1 H1 X1 R1 kp ok=>?_⟩;have s1:∀j,j∈W1->j∈W1++W2:=λj h=>Ow.mpr (.inl h);have s2:∀j,j∈W2->j∈W1++W2:=λj h=>Ow.mpr (.inr h);have q1:n_ K (W1++W2) σ0 F1 H1 e1 D fl:=q0.later (W1:=[]) X1.s (λj h=>by cases h) λj h=>h;refine⟨λi m σ H=>m=items.length-i/\i<=items.length/\G_ K own σ0 F1 (λe=>kc own g f (items.drop i) e=some fl) (λσ F H e=>n_ K (W1++W2) σ F H e D fl) σ H,⟨items.length,by simp,Np _,.mk R1 kp ↥4 (av.refl _) hf q1⟩,?_⟩;rintro i m σ H⟨rfl,hi,⟨R,kp,hσ,sF,hf,q⟩⟩;rename_i F e;have held:wz K σ0 F H own:=λp hp=>by obtain⟨l,vs,g1,g2⟩:=R.held kp p hp;exact⟨l,vs,by rw[<-hσ p hp];exact g1,g2⟩
 obtain⟨go,stop,yld⟩:=ok F H sF R.sm held;by_cases hlt:i<items.length
 ·have hd:items.drop i=items[i]::items.drop (i+1):=Os hlt;rw[hd]at hf;unfold kc at hf;obtain⟨e2,h2,hf⟩:=LH hf;obtain⟨fl2,h3,hf⟩:=LH hf;refine .inr ⟨go i hlt,G_ K own σ0 F1 (λe=>kc own g f (items.drop (i+1)) e=some fl) (λσ F H e=>n_ K (W1++W2) σ F H e D fl),λσ' H' r=>⟨items.length-(i+1),by lia,rfl,hlt,r⟩,λx H' hy=>?_⟩;obtain⟨F',sH,sF',sm',fz,hx⟩:=yld i items[i] x H' (My hlt) hy;obtain⟨R',X'⟩:=R.step sH sF' sm' fz;refine⟨F',e,items[i],e2,R',hx,h2,λσ2 x2 R2=>⟨F',e2,fl2,R2,h3,?_⟩⟩;have q2:n_ K (W1++W2) σ2 F' H' e2 D fl:=(q.later (W1:=[]) (W2:=W1++W2) X'.s (λj h=>by cases h) λj h=>h).later x2 s1 λj h=>h
  have w2:∀p∈own,σ2[p.1]?=σ0[p.1]?:=λp hp=>(x2.wr p.1 λz=>hW' p hp (s1 _ z)).trans (hσ p hp);cases fl2 with|nx e3=>
   intro F3 H3 σ3 x3 R3;dsimp only at hf;split at hf;case isFalse=>cases hf
   case isTrue kp3=>exact .mk R3 kp3 (λp hp=>(x3.wr p.1 λz=>hW' p hp (s2 _ z)).trans (w2 p hp)) (sF.trans (sF'.trans x3.sf)) hf (q2.later x3 s2 λj h=>h)|ct e3=>
   intro F3 H3 σ3 x3 R3;dsimp only at hf;split at hf;case isFalse=>cases hf
   case isTrue kp3=>exact .mk R3 kp3 (λp hp=>(x3.wr p.1 λz=>hW' p hp (s2 _ z)).trans (w2 p hp)) (sF.trans (sF'.trans x3.sf)) hf (q2.later x3 s2 λj h=>h)|bk e3=>cases hf;exactλF3 H3 σ3 x3 R3=>q2 F3 H3 σ3 (x3.mono s2) R3|rt r e3=>cases hf;exactλF3 H3 σ3 v x3 R3 A3=>q2 F3 H3 σ3 v (x3.mono s2) R3 A3
 ·have hd:items.drop i=[]:=QC ↥0;rw[hd]at hf;cases hf;exact .inl ⟨stop i ↥0,q F H σ cL.refl R⟩
end
def wV:Option (Option Sv)->Bool|some (some (.l _))=>true|_=>false
theorem vL{s:Option (Option Sv)}:wV s=true↔∃xs,s=some (some (.l xs)):=by
 unfold wV;split;·simp
 ·rename_i h;constructor;·intro z;cases z
  ·rintro⟨xs,rfl⟩;exact absurd rfl (h xs)
def mx(pos:Nat->Option Nat)(ei e:En):En:=e.mapIdx λi s=>match s with
 |some (.l xs)=>match pos i with|some k=>(ei[k]?).join|none=>some (.l xs)
 |s=>s
theorem bU{pos:Nat->Option Nat}{ei e:En}{i:Nat}:(mx pos ei e)[i]?=(e[i]?).map λs=>match s with
 |some (.l xs)=>match pos i with|some k=>(ei[k]?).join|none=>some (.l xs)
 |s=>s:=by unfold mx;rw[List.getElem?_mapIdx]
structure su (σ:L2.St) (e:En) (σi:L2.St) (ei:En) (pos:Nat->Option Nat):Prop where
 a:∀(i k:Nat) (xs:List LS),e[i]?=some (some (.l xs))->pos i=some k->σi[k]?=σ[i]?
 b:∀(k:Nat) (ys:List LS),ei[k]?=some (some (.l ys))->∃(i:Nat) (xs:List LS),e[i]?=some (some (.l xs))/\pos i=some k/\σi[k]?=σ[i]?
section
variable{K:⇑0}{σ σi σi':L2.St}{F H F' H':Hp}{e ei ei':En}{pos:Nat->Option Nat}
def E8(e:En):Prop:=∀(i:Nat) (xss:List (List LS)),e[i]?≠some (some (.n xss))
theorem su.own(s:su σ e σi ei pos)(hn:E8 ei){a:LQ}{H H':Hp}(h:cn σi ei H a):∃(i k:Nat) (xs:List LS),e[i]?=some (some (.l xs))/\pos i=some k/\σ[i]?=some (some (.ref a)):=by
 obtain⟨k,⟨ys,h1,h2⟩|⟨xss,_,_,h1,_⟩⟩:=h;·obtain⟨i,xs,g1,g2,g3⟩:=s.b k ys h1;exact⟨i,k,xs,g1,g2,by rw[<-g3];exact h2⟩
 ·exact absurd h1 (hn k xss)
theorem o_(R:aZ K F H σ e)(s:su σ e σi ei pos)(hnn:E8 ei)(sf:av F F')(dom:∀a,H' a=none->H a=none)(fr:∀a vs,F a=none->H a=some (.lst vs)->¬cn σi ei H a->F' a=none)(lst:∀a vs,H a=some (.lst vs)->∃vs',H' a=some (.lst vs'))(tmp:∀a o,H a=some o->¬cn σi ei H a->H' a=some o)(fd:∀a m,F a=none->H a=some (.dK m)->¬cn σi ei H a->F' a=none)(R':aZ K F' H' σi' ei')(hσ:∀(i k:Nat) (xs:List LS),e[i]?=some (some (.l xs))->pos i=some k->σi'[k]?=σi[k]?)(hsh:∀(i k:Nat) (xs:List LS),e[i]?=some (some (.l xs))->pos i=some k->∃ys,ei'[k]?=some (some (.l ys))):aZ K F' H' σ (mx pos ei' e)/\eP σ F H e F' H' (mx pos ei' e)/\∀a,cn σ (mx pos ei' e) H' a->cn σ e H a:=by
 have shp:∀i:Nat,(∃xs,(mx pos ei' e)[i]?=some (some (.l xs)))↔(∃xs,e[i]?=some (some (.l xs))):=by intro i;rw[bU];match h:e[i]? with
  |none=>simp|some none=>simp|some (some (.d x))=>simp|some (some (.n x))=>simp|some (some (.l xs))=>
   simp only[NC];constructor;·intro _;exact⟨xs,rfl⟩
   ·intro _;match hp:pos i with|none=>exact⟨xs,rfl⟩|some k=>obtain⟨ys,g⟩:=hsh i k xs h hp;exact⟨ys,by show some ((ei'[k]?).join)=_;rw[g];rfl⟩
 have oth:∀(i:Nat) (s:Sv),(∀xs,s≠.l xs)->((mx pos ei' e)[i]?=some (some s)↔e[i]?=some (some s)):=by
  intro i s hs;constructor;·intro h;rw[bU]at h;match h1:e[i]?,h with
   |some (some (.d y)),h=>exact h|some (some (.n y)),h=>exact h|some (some (.l ys)),h=>simp only[NC,OQ]at h;match hp:pos i,h with|none,h=>cases h;exact absurd rfl (hs _)|some k,h=>obtain⟨zs,g⟩:=hsh i k ys h1 hp;change (ei'[k]?).join=_ at h;rw[g]at h;cases h;exact absurd rfl (hs _)
   |some none,h=>simp at h|none,h=>simp at h
  ·intro h;rw[bU,h];cases s with|d y=>rfl|n y=>rfl|l y=>exact absurd rfl (hs y)
 have out:∀i a,Fp σ e H i a->(∀k xs,e[i]?=some (some (.l xs))->pos i≠some k)->¬cn σi ei H a:=by intro i a hi hp z;obtain⟨j,k,ws,d1,d2,d3⟩:=s.own hnn (H':=H') z;have:i=j:=R.fp i j a hi (.inl ⟨ws,d1,d3⟩);subst this;exact hp k ws d1 d2
 have keep:∀i a o,Fp σ e H i a->(∀k xs,e[i]?=some (some (.l xs))->pos i≠some k)->H a=some o->H' a=some o:=λi a o hi hp ha=>tmp a o ha (out i a hi hp);have sown:∀a,cn σi ei H a->cn σ e H a:=λa z=>by obtain⟨j,k,ws,d1,d2,d3⟩:=s.own hnn (H':=H') z;exact⟨j,.inl ⟨ws,d1,d3⟩⟩
 have fs:∀i a,Fp σ (mx pos ei' e) H' i a↔Fp σ e H i a:=by
  intro i a;have key:∀xss l,e[i]?=some (some (.n xss))->σ[i]?=some (some (.ref l))->H' l=H l:=λxss l h1 h2=>by obtain⟨l',bs,g1,g2,g3,_⟩:=R.nst i xss h1;rw[h2]at g1;cases g1;rw[g3];exact keep i l _ (.inr ⟨xss,l,bs,h1,h2,g3,.inl rfl⟩) (λk xs z=>by rw[h1]at z;cases z) g3
  constructor
  ·rintro(⟨xs,h1,h2⟩|⟨xss,l,bs,h1,h2,h3,h4⟩);·obtain⟨ys,h⟩:=(shp i).mp ⟨xs,h1⟩;exact .inl ⟨ys,h,h2⟩
   ·have h1':=(oth i (.n xss) (λ_ z=>nomatch z)).mp h1;exact .inr ⟨xss,l,bs,h1',h2,by rw[<-key xss l h1' h2];exact h3,h4⟩
  ·rintro(⟨xs,h1,h2⟩|⟨xss,l,bs,h1,h2,h3,h4⟩);·obtain⟨ys,h⟩:=(shp i).mpr ⟨xs,h1⟩;exact .inl ⟨ys,h,h2⟩
   ·exact .inr ⟨xss,l,bs,(oth i (.n xss) (λ_ z=>nomatch z)).mpr h1,h2,by rw[key xss l h1 h2];exact h3,h4⟩
 refine⟨⟨R'.sm,?_,λi x h=>?_,λi xs h=>?_,λi xss h=>?_,λi j a h1 h2=>R.fp i j a ((fs i a).mp h1) ((fs j a).mp h2)⟩,⟨sf,dom,λa vs h1 h2 n=>fr a vs h1 h2 λz=>n (sown a z),lst,λa o h n=>tmp a o h λz=>n (sown a z),shp,λa⟨i,h⟩=>.inl ⟨i,(fs i a).mp h⟩,λa m h1 h2 n=>fd a m h1 h2 λz=>n (sown a z)⟩,λa⟨i,h⟩=>⟨i,(fs i a).mp h⟩⟩;·unfold mx;rw[List.length_mapIdx];exact R.len
 ·obtain⟨v,g1,g2⟩:=R.dat i x ((oth i (.d x) (λ_ z=>nomatch z)).mp h);exact⟨v,g1,DA.mono sf g2⟩
 ·obtain⟨ys,h1⟩:=(shp i).mp ⟨xs,h⟩;obtain⟨l,vs,g1,g2,g3,g4⟩:=R.own i ys h1;rw[bU,h1]at h;simp only[NC,OQ]at h;match hp:pos i,h with
  |none,h=>
   cases h;have np:∀k xs,e[i]?=some (some (Sv.l xs))->pos i≠some k:=λk xs _ z=>by rw[hp]at z;cases z
   have fi:Fp σ e H i l:=.inl ⟨_,h1,g1⟩;exact⟨l,vs,g1,fr l vs g2 g3 (out i l fi np),keep i l _ fi np g3,g4.mono sf⟩|some k,h=>obtain⟨zs,c1⟩:=hsh i k ys h1 hp;change (ei'[k]?).join=_ at h;rw[c1]at h;cases h;obtain⟨l',vs',d1,d2,d3,d4⟩:=R'.own k _ c1;rw[hσ i k ys h1 hp,s.a i k ys h1 hp]at d1;exact⟨l',vs',d1,d2,d3,d4⟩
 ·have h1:=(oth i (.n xss) (λ_ z=>nomatch z)).mp h;obtain⟨l,bs,g1,g2,g3,g4,g5,g6,g7⟩:=R.nst i xss h1;have np:∀k xs,e[i]?=some (some (Sv.l xs))->pos i≠some k:=λk xs z=>by rw[h1]at z;cases z
  have fi:Fp σ e H i l:=.inr ⟨xss,l,bs,h1,g1,g3,.inl rfl⟩;refine⟨l,bs,g1,fr l _ g2 g3 (out i l fi np),keep i l _ fi np g3,g4,g5,g6,λk b ys q1 q2=>?_⟩;obtain⟨c1,us,c2,c3⟩:=g7 k b ys q1 q2;have fb:Fp σ e H i b:=.inr ⟨xss,l,bs,h1,g1,g3,.inr (LO q1)⟩;exact⟨fr b _ c1 c2 (out i b fb np),us,keep i b _ fb np c2,c3.mono sf⟩
end
def bM(e:En):List Rv->Option (List Sv)|[]=>some []|.d x::r=>(bM e r).map (.d x::·)|.l xs::r=>(bM e r).map (.d (.list xs)::·)|.s i::r=>match e[i]? with|some (some (.l xs))=>(bM e r).map (.l xs::·)|_=>none
def aF:List Rv->List Nat|[]=>[]|.s i::r=>i::aF r|.d _::r=>aF r|.l _::r=>aF r
def ki(rs:List Rv)(i:Nat):Option Nat:=rs.findIdx? λr=>match r with|.s j=>j==i|_=>false
def noS:Rv->Prop|.s _=>False|_=>True
abbrev FM:=List Sv->Option (Rv×List Sv)
def fZ(K:⇑0)(n:Nat)(m:FM):Sp:=λvs H Q _=>vs.length=n/\∃F as r as',aZ K F H (vs.map some) (as.map some)/\E8 (as.map some)/\m as=some (r,as')/\noS r/\∀F' H' v,eP (vs.map some) F H (as.map some) F' H' (as'.map some)->aZ K F' H' (vs.map some) (as'.map some)->cj K (vs.map some) H F' H' (as'.map some) r v->Q v H'
def aX:List Rv->List Sv->Bool|[],[]=>true|.s _::r,.l _::s=>aX r s|.d _::r,_::s=>aX r s|.l _::r,_::s=>aX r s|_,_=>false
def rG:Rv->Bool|.s _=>false|_=>true
def di:List Rv->List Sv->En->En|.s i::r,.l ys::s,e=>di r s (e.set i (some (.l ys)))|.d _::r,_::s,e=>di r s e|.l _::r,_::s,e=>di r s e|_,_,e=>e
def bY(n:Nat)(m:FM)(fs:FA):FE:=λe=>(fs e).bind λp=>(bM p.2 p.1).bind λas=>(m as).bind λz=>if p.1.length=n/\(aF p.1).Nodup/\aX p.1 z.2=true/\rG z.1=true then some (z.1,di p.1 z.2 p.2) else none
theorem iJ:∀{rs:List Rv}{as:List Sv},aX rs as=true->∀(k i:Nat),rs[k]?=some (.s i)->∃ys,as[k]?=some (.l ys)
 |[],[],_,k,i,h=>by simp at h|.s j::r,.l ys::s,h,k,i,hk=>by cases k with|zero=>exact⟨ys,rfl⟩|succ k=>simpa using iJ (rs:=r) (as:=s) (by simpa[aX]using h) k i (by simpa using hk)
 |.d x::r,y::s,h,k,i,hk=>by cases k with|zero=>simp at hk|succ k=>simpa using iJ (rs:=r) (as:=s) (by simpa[aX]using h) k i (by simpa using hk)
 |.l x::r,y::s,h,k,i,hk=>by cases k with|zero=>simp at hk|succ k=>simpa using iJ (rs:=r) (as:=s) (by simpa[aX]using h) k i (by simpa using hk)
 |.s _::_,.d _::_,h,_,_,_=>by simp[aX]at h|.s _::_,[],h,_,_,_=>by simp[aX]at h|.d _::_,[],h,_,_,_=>by simp[aX]at h|.l _::_,[],h,_,_,_=>by simp[aX]at h
theorem ml{r0:Rv}{rs:List Rv}{i:Nat}:ki (r0::rs) i=if (match r0 with|.s j=>j==i|_=>false)=true then some 0 else(ki rs i).map (·+1):=by unfold ki;rw[List.findIdx?_cons]
theorem mq{rs:List Rv}{i k:Nat}(h:ki rs i=some k):rs[k]?=some (.s i):=by
 unfold ki at h;rw[Rt]at h;obtain⟨hk,h1,_⟩:=h;rw[My hk];split at h1;·rename_i heq;rw[heq];have:=eq_of_beq h1;rw[this]
 ·cases h1
theorem fw:∀{rs:List Rv}{i:Nat},i∈aF rs↔Rv.s i∈rs|[],i=>by simp[aF]|.s j::r,i=>by simp[aF,fw (rs:=r)]|.d x::r,i=>by simp[aF,fw (rs:=r)]|.l x::r,i=>by simp[aF,fw (rs:=r)]
theorem fY:∀{rs:List Rv}{i k j:Nat},(aF rs).Nodup->rs[k]?=some (.s i)->rs[j]?=some (.s i)->k=j
 |[],i,k,j,_,h,_=>by simp at h|.s m::r,i,k,j,hn,h1,h2=>by simp only[aF,OV]at hn;cases k with
  |zero=>simp at h1;subst h1;cases j with|zero=>rfl|succ j=>exact absurd (fw.mpr (LO (by simpa using h2))) hn.1
  |succ k=>cases j with|zero=>simp at h2;subst h2;exact absurd (fw.mpr (LO (by simpa using h1))) hn.1|succ j=>have:=fY (rs:=r) (i:=i) (k:=k) (j:=j) hn.2 (by simpa using h1) (by simpa using h2);lia
 |.d x::r,i,k,j,hn,h1,h2=>by cases k with|zero=>simp at h1|succ k=>cases j with|zero=>simp at h2|succ j=>have:=fY (rs:=r) (i:=i) (k:=k) (j:=j) (by simpa[aF]using hn) (by simpa using h1) (by simpa using h2);lia
 |.l x::r,i,k,j,hn,h1,h2=>by cases k with|zero=>simp at h1|succ k=>cases j with|zero=>simp at h2|succ j=>have:=fY (rs:=r) (i:=i) (k:=k) (j:=j) (by simpa[aF]using hn) (by simpa using h1) (by simpa using h2);lia
theorem zC{rs:List Rv}{i:Nat}(h:i∉aF rs):ki rs i=none:=by unfold ki;rw[QD];intro r hr;cases r with|d x=>rfl|l x=>rfl|s j=>have:j≠i:=λz=>h (by rw[<-z];exact fw.mpr hr);simpa using this
theorem nJ:∀{rs:List Rv}{as:List Sv}{e:En},(aF rs).Nodup->aX rs as=true->(∀j∈aF rs,∃xs,e[j]?=some (some (.l xs)))->di rs as e=mx (ki rs) (as.map some) e
 |[],[],e,_,_,_=>by refine Pc λi=>?_;rw[bU];have:ki [] i=none:=rfl;rw[this];simp only[di];match e[i]? with|none=>rfl|some none=>rfl|some (some (.d x))=>rfl|some (some (.l x))=>rfl|some (some (.n x))=>rfl
 |.d x::r,y::s,e,hn,hl,hs=>by rw[show di (.d x::r) (y::s) e=di r s e from rfl,nJ (by simpa[aF]using hn) (by simpa[aX]using hl) (λj hj=>hs j (by simpa[aF]using hj))];refine Pc λi=>?_;rw[bU,bU,ml];cases ki r i<;>simp|.l x::r,y::s,e,hn,hl,hs=>by rw[show di (.l x::r) (y::s) e=di r s e from rfl,nJ (by simpa[aF]using hn) (by simpa[aX]using hl) (λj hj=>hs j (by simpa[aF]using hj))];refine Pc λi=>?_;rw[bU,bU,ml];cases ki r i<;>simp|.s k::r,.l ys::s,e,hn,hl,hs=>by
  simp only[aF,OV]at hn;obtain⟨xs,hk⟩:=hs k (by simp[aF]);have hlt:k<e.length:=(LJ hk).1;rw[show di (.s k::r) (.l ys::s) e=di r s (e.set k (some (.l ys))) from rfl,nJ hn.2 (by simpa[aX]using hl) (λj hj=>by have z:k≠j:=λz=>hn.1 (by rw[z];exact hj);rw[Nu z];exact hs j (by simp[aF,hj]))];refine Pc λi=>?_;rw[bU,bU,ml];by_cases z:k=i;·subst z;rw[NV hlt,hk,zC hn.1];simp
  ·rw[Nu z];have:((match (Rv.s k) with|.s j=>j==i|_=>false)=true)=False:=by simp[z]
   simp only[this,if_false];cases ki r i<;>simp|.s _::_,.d _::_,_,_,h,_=>by simp[aX]at h|.s _::_,.n _::_,_,_,h,_=>by simp[aX]at h|.s _::_,[],_,_,h,_=>by simp[aX]at h|.d _::_,[],_,_,h,_=>by simp[aX]at h|.l _::_,[],_,_,h,_=>by simp[aX]at h|[],_::_,_,_,h,_=>by simp[aX]at h
theorem eX{e:En}:∀{rs:List Rv}{as:List Sv},bM e rs=some as->∀j∈aF rs,∃xs,e[j]?=some (some (.l xs))|[],_,_,j,h=>by simp[aF]at h|.d x::rs,as,q,j,h=>by obtain⟨as',q1,rfl⟩:=LI q;exact eX q1 j (by simpa[aF]using h)|.l x::rs,as,q,j,h=>by obtain⟨as',q1,rfl⟩:=LI q;exact eX q1 j (by simpa[aF]using h)|.s k::rs,as,q,j,h=>by unfold bM at q;match he:e[k]?,q with
 |some (some (.l xs)),q=>
  obtain⟨as',q1,rfl⟩:=LI q;simp only[aF,Nc]at h;rcases h with rfl|h;·exact⟨xs,he⟩
  ·exact eX q1 j h
theorem kB{e:En}:∀{rs:List Rv}{as:List Sv}{k i:Nat},bM e rs=some as->rs[k]?=some (.s i)->∃xs,as[k]?=some (.l xs)
 |[],_,k,i,_,h=>by simp at h|.d x::rs,as,k,i,q,h=>by obtain⟨as',q1,rfl⟩:=LI q;cases k with|zero=>simp at h|succ k=>simpa using kB (k:=k) (i:=i) q1 (by simpa using h)
 |.l x::rs,as,k,i,q,h=>by obtain⟨as',q1,rfl⟩:=LI q;cases k with|zero=>simp at h|succ k=>simpa using kB (k:=k) (i:=i) q1 (by simpa using h)
 |.s j::rs,as,k,i,q,h=>by unfold bM at q;match he:e[j]?,q with|some (some (.l xs)),q=>obtain⟨as',q1,rfl⟩:=LI q;cases k with|zero=>exact⟨xs,rfl⟩|succ k=>simpa using kB (k:=k) (i:=i) q1 (by simpa using h)
section
variable{X:Cx}{K:⇑0}{σ:L2.St}{H0 H:Hp}{e:En}
theorem nG:∀{rs:List Rv}{vs:List V}{as:List Sv}{F:Hp},aZ K F H σ e->cu K σ H0 F H e rs vs->bM e rs=some as->∃F',aZ K F' H σ e/\av F F'/\(∀a,F a=none->H0 a≠none->F' a=none)/\vs.length=as.length/\rs.length=as.length/\(∀(k:Nat) (x:LS),as[k]?=some (.d x)->∃v,vs[k]?=some v/\DA K F' x v)/\∀(k:Nat) (xs:List LS),as[k]?=some (.l xs)->∃i,rs[k]?=some (.s i)/\e[i]?=some (some (.l xs))/\∃v,vs[k]?=some v/\σ[i]?=some (some v)
 |[],vs,as,F,R,h,q=>by cases q;have h':vs=[]:=h;subst h';exact⟨F,R,av.refl _,λ_ h _=>h,rfl,rfl,λk x h=>by simp at h,λk x h=>by simp at h⟩|.d x::rs,_,as,F,R,h,q=>by
  obtain⟨v,ws,rfl,h1,h2⟩:=h;obtain⟨as',q1,rfl⟩:=LI q;obtain⟨F',R',s',f',l1,l2,d',o'⟩:=nG R h2 q1;refine⟨F',R',s',f',by simp[l1],by simp[l2],λk y hk=>?_,λk ys hk=>?_⟩;·cases k with|zero=>simp at hk;subst hk;exact⟨v,rfl,DA.mono s' h1⟩|succ k=>simpa using d' k y (by simpa using hk)
  ·cases k with|zero=>simp at hk|succ k=>simpa using o' k ys (by simpa using hk)
 |.l xs::rs,_,as,F,R,h,q=>by
  obtain⟨v,ws,rfl,h1,h2⟩:=h;obtain⟨as',q1,rfl⟩:=LI q;obtain⟨F',R',s',f',l1,l2,d',o'⟩:=nG R h2 q1;have key:∃F2,aZ K F2 H σ e/\av F' F2/\(∀a,F' a=none->H0 a≠none->F2 a=none)/\DA K F2 (.list xs) v:=by obtain⟨l,us,rfl,g1,g2,g3,g4,g5⟩:=h1;cases hl:F' l with|none=>have h1':cj K σ H0 F' H e (.l xs) (.ref l):=⟨l,us,rfl,g1,hl,g3,aL.mono s' g4,g5⟩;obtain⟨F2,R2,s2,d2,f2⟩:=h1'.frozen R';exact⟨F2,R2,s2,f2,d2⟩|some o=>have:=R'.sm _ _ hl;rw[g3]at this;cases this;exact⟨F',R',av.refl _,λ_ h _=>h,fC.mpr ⟨l,us,rfl,.inl (.inl hl),aL.mono s' g4⟩⟩
  obtain⟨F2,R2,s2,f2,d2⟩:=key;refine⟨F2,R2,s'.trans s2,λa ha hn=>f2 a (f' a ha hn) hn,by simp[l1],by simp[l2],λk y hk=>?_,λk ys hk=>?_⟩;·cases k with|zero=>simp at hk;subst hk;exact⟨v,rfl,d2⟩|succ k=>obtain⟨u,c1,c2⟩:=d' k y (by simpa using hk);exact⟨u,by simpa using c1,DA.mono s2 c2⟩
  ·cases k with|zero=>simp at hk|succ k=>simpa using o' k ys (by simpa using hk)
 |.s i::rs,_,as,F,R,h,q=>by obtain⟨v,ws,rfl,h1,h2⟩:=h;unfold bM at q;match he:e[i]?,q with
  |some (some (.l xs)),q=>
   obtain⟨as',q1,rfl⟩:=LI q;obtain⟨F',R',s',f',l1,l2,d',o'⟩:=nG R h2 q1;refine⟨F',R',s',f',by simp[l1],by simp[l2],λk y hk=>?_,λk ys hk=>?_⟩;·cases k with|zero=>simp at hk|succ k=>simpa using d' k y (by simpa using hk)
   ·cases k with|zero=>simp at hk;subst hk;exact⟨i,rfl,he,v,rfl,h1.1⟩|succ k=>simpa using o' k ys (by simpa using hk)
theorem eY{α:Type}{l:List α}{k:Nat}{x:α}:(l.map some)[k]?=some (some x)↔l[k]?=some x:=by rw[MS];cases l[k]?<;>simp
theorem cj.noS{σ':L2.St}{e':En}{F H:Hp}{r:Rv}{v:V}(h:cj K σ' H0 F H e' r v)(n:L2.noS r)(ho:∀a,cn σ e H a->H0 a≠none):cj K σ H0 F H e r v:=by cases r with|d x=>exact h|l xs=>obtain⟨l,vs,e1,h1,h2,h3,h4,_⟩:=h;exact⟨l,vs,e1,h1,h2,h3,h4,λz=>ho l z h1⟩|s i=>exact absurd n (by simp[L2.noS])
theorem ir:∀{rs:List Rv}{as:List Sv},bM e rs=some as->E8 (as.map some)
 |[],_,q=>by cases q;intro i xss h;simp at h|.d x::rs,as,q=>by obtain⟨as',q1,rfl⟩:=LI q;have ih:=ir q1;intro i xss h;cases i with|zero=>simp at h|succ i=>exact ih i xss (by simpa using h)
 |.l x::rs,as,q=>by obtain⟨as',q1,rfl⟩:=LI q;have ih:=ir q1;intro i xss h;cases i with|zero=>simp at h|succ i=>exact ih i xss (by simpa using h)
 |.s j::rs,as,q=>by unfold bM at q;match he:e[j]?,q with|some (some (.l xs)),q=>obtain⟨as',q1,rfl⟩:=LI q;have ih:=ir q1;intro i xss h;cases i with|zero=>simp at h|succ i=>exact ih i xss (by simpa using h)
theorem EU{n:Nat}{m:FM}{fs:FA}{Q:VK}{E:XK}(h:fE K (bY n m fs) σ H Q):wj (fZ K n m) [] E (fA K fs) σ H Q:=by
 obtain⟨F,e,z,e',R,hf,q⟩:=h;unfold bY at hf;obtain⟨⟨rs,e1⟩,h1,hf⟩:=LH hf;obtain⟨as,h2,hf⟩:=LH hf;obtain⟨⟨r,as'⟩,h3,hf⟩:=LH hf;split at hf;case isFalse=>cases hf
 case isTrue hc=>
 obtain⟨c1,c2,c3,c4⟩:=hc;cases hf;refine⟨F,e,rs,e1,R,h1,λF1 H1 vs X1 R1 A1=>?_⟩;obtain⟨F2,R2,s2,f2,l1,l2,d2,o2⟩:=nG R1 A1 h2;have X2:=X1.frz s2 f2;rw[Mu];have hn:L2.noS r:=by cases r with|d x=>trivial|l x=>trivial|s i=>cases c4
 have nN:=ir h2;have RA:aZ K F2 H1 (vs.map some) (as.map some):=by
  refine⟨R2.sm,by simp[l1],λk x hk=>?_,λk xs hk=>?_,λk xss hk=>absurd hk (nN k xss),λk j l f1 f2=>?_⟩;·obtain⟨v,g1,g2⟩:=d2 k x (eY.mp hk);exact⟨v,eY.mpr g1,g2⟩
  ·obtain⟨i,g1,g2,v,g3,g4⟩:=o2 k xs (eY.mp hk);obtain⟨l,us,k1,k2,k3,k4⟩:=R2.own i xs g2;rw[g4]at k1;cases k1;exact⟨l,us,eY.mpr g3,k2,k3,k4⟩
  ·obtain⟨xs,g1,g3⟩:=f1.resolve_right λ⟨xss,_,_,z,_⟩=>nN k xss z;obtain⟨ys,g2,g4⟩:=f2.resolve_right λ⟨xss,_,_,z,_⟩=>nN j xss z;obtain⟨i1,a1,a2,v1,a3,a4⟩:=o2 k xs (eY.mp g1);obtain⟨i2,b1,b2,v2,b3,b4⟩:=o2 j ys (eY.mp g2);have e1:=eY.mp g3;have e2:=eY.mp g4;rw[a3]at e1;cases e1;rw[b3]at e2;cases e2;have:i1=i2:=R2.inj i1 i2 xs ys l a2 b2 a4 b4;subst this;exact fY c2 a1 b1
 have sub:su σ e1 (vs.map some) (as.map some) (ki rs):=by
  refine⟨λi k xs g1 g2=>?_,λk ys g1=>?_⟩;·have g3:=mq g2;obtain⟨zs,hs⟩:=kB h2 g3;obtain⟨i',a1,a2,v,a3,a4⟩:=o2 k zs hs;rw[g3]at a1;cases a1;rw[eY.mpr a3,a4]
  ·obtain⟨i,a1,a2,v,a3,a4⟩:=o2 k ys (eY.mp g1);refine⟨i,ys,a2,?_,by rw[eY.mpr a3,a4]⟩;cases hp:ki rs i with|none=>unfold ki at hp;rw[QD]at hp;have:=hp _ (LO a1);simp at this|some j=>rw[fY c2 (mq hp) a1]
 refine⟨by rw[l1,<-l2];exact c1,F2,as,r,as',RA,nN,h3,hn,λF' H' v X3 R3 A3=>?_⟩;obtain⟨R4,X4,o4⟩:=o_ R2 sub nN X3.sf X3.dom X3.fr X3.lst X3.tmp X3.fd R3 (λ_ _ _ _ _=>rfl) λi k xs g1 g2=>by obtain⟨ys,g3⟩:=iJ c3 k i (mq g2);exact⟨ys,eY.mpr g3⟩
 have hb:=nJ (e:=e1) c2 c3 (eX h2);rw[<-hb]at R4 X4 o4;exact q F' H' v (X2.trans X4) R4 ((A3.noS hn λa z=>R2.ownH a (o4 a z)).weak X2.dom)
theorem aS{x:Str}{st:Me}{f:LQ}{fd:Mw}{ps:List Str}{k n:Nat}{m:FM}{a:LU}{es:List LU}{fs:FA}{p pos:Pos}(h:eQ X.K X.mg x st f fd ps)(G:a_ X.prog X.w X.K X.mg X.base eW k f fd ps (fZ K n m))(hr:bZ k X.A)(ha:PA X (a::es) (fA K fs))(hg:Gl X x)(hdb:(x==("__debug__":Str))=false)(he:Mf (a::es) X.env=(false,Ml a X.env)::Mf es X.env)(hpl:(MF pos (Mf es X.env)).any (·.1)=false):PE X (.Call (.Name x p) (a::es) [] pos) (fE K (bY n m fs)):=(HF h G hr ha hg hdb he hpl).mono λ_ _ _ h=>EU h
def r6:List Sv->En->Option (List Sv)
 |[],_=>some []|.d x::r,e=>(r6 r e.tail).map (.d x::·)|.l _::r,e=>match e.head? with|some (some (.l ys))=>(r6 r e.tail).map (.l ys::·)|_=>none
 |.n _::_,_=>none
def pE(n:Nat)(e:En):Rv->Option Rv|.s i=>if n<=i then match e[i]? with|some (some (.l xs))=>some (.l xs)|_=>none else none|r=>some r
def jr(W:List Nat)(as:List Sv):Bool:=W.all λj=>match as[j]? with|some (.l _)=>false|_=>true
def gz(n k:Nat)(W:List Nat)(f:FS):FM:=λas=>if as.length=n/\jr W as=true then(f (as.map some++Mh k none)).bind λfl=>match fl with|.rt r e=>(pE n e r).bind λr'=>(r6 as e).map λas'=>(r',as')|.nx e=>(r6 as e).map λas'=>(.d .none,as')|_=>none else none
theorem nQ:∀{as as':List Sv}{e:En},r6 as e=some as'->as'.length=as.length/\(∀(j:Nat) (x:LS),as'[j]?=some (.d x)↔as[j]?=some (.d x))/\(∀(j:Nat) (ys:List LS),as'[j]?=some (.l ys)->(∃xs,as[j]?=some (.l xs))/\e[j]?=some (some (.l ys)))/\∀(j:Nat) (xs:List LS),as[j]?=some (.l xs)->∃ys,as'[j]?=some (.l ys)
 |[],_,e,h=>by cases h;simp|.d x::r,_,e,h=>by
  obtain⟨s,h1,rfl⟩:=LI h;obtain⟨g1,g2,g3,g4⟩:=nQ h1;refine⟨by simp[g1],λj y=>?_,λj ys hj=>?_,λj xs hj=>?_⟩;·cases j with|zero=>simp|succ j=>simpa using g2 j y
  ·cases j with|zero=>simp at hj|succ j=>obtain⟨c1,c2⟩:=g3 j ys (by simpa using hj);refine⟨by simpa using c1,?_⟩;rw[List.getElem?_tail]at c2;exact c2
  ·cases j with|zero=>simp at hj|succ j=>simpa using g4 j xs (by simpa using hj)
 |.l xs::r,_,e,h=>by unfold r6 at h;match he:e.head?,h with
  |some (some (.l ys)),h=>
   obtain⟨s,h1,rfl⟩:=LI h;obtain⟨g1,g2,g3,g4⟩:=nQ h1;refine⟨by simp[g1],λj y=>?_,λj zs hj=>?_,λj zs hj=>?_⟩;·cases j with|zero=>simp|succ j=>simpa using g2 j y
   ·cases j with|zero=>simp at hj;subst hj;exact⟨⟨xs,rfl⟩,by rw[List.head?_eq_getElem?]at he;exact he⟩|succ j=>obtain⟨c1,c2⟩:=g3 j zs (by simpa using hj);refine⟨by simpa using c1,?_⟩;rw[List.getElem?_tail]at c2;exact c2
   ·cases j with|zero=>exact⟨ys,rfl⟩|succ j=>simpa using g4 j zs (by simpa using hj)
 |.n x::r,_,e,h=>by simp[r6]at h
end
theorem ec{α:Type}{l:List (Option α)}{k i:Nat}{x:α}(h:(l++Mh k none)[i]?=some (some x)):l[i]?=some (some x):=by
 rw[List.getElem?_append]at h;split at h;·exact h
 ·rw[QT]at h;split at h<;>simp at h
theorem eI{α:Type}{l:List (Option α)}{k i:Nat}{x:α}(h:l[i]?=some (some x)):(l++Mh k none)[i]?=some (some x):=by have hi:i<l.length:=(LJ h).1;rw[Oe hi];exact h
section
variable{K:⇑0}{F H:Hp}{σ:L2.St}{e:En}{k:Nat}
theorem qZ{i:Nat}{a:LQ}:Fp (σ++Mh k none) (e++Mh k none) H i a↔Fp σ e H i a:=by
 constructor
 ·rintro(⟨xs,h1,h2⟩|⟨xss,l,bs,h1,h2,h3⟩);·exact .inl ⟨xs,ec h1,ec h2⟩
  ·exact .inr ⟨xss,l,bs,ec h1,ec h2,h3⟩
 ·rintro(⟨xs,h1,h2⟩|⟨xss,l,bs,h1,h2,h3⟩);·exact .inl ⟨xs,eI h1,eI h2⟩
  ·exact .inr ⟨xss,l,bs,eI h1,eI h2,h3⟩
theorem nL{a:LQ}:cn (σ++Mh k none) (e++Mh k none) H a↔cn σ e H a:=⟨λ⟨i,h⟩=>⟨i,qZ.mp h⟩,λ⟨i,h⟩=>⟨i,qZ.mpr h⟩⟩
theorem aZ.pad(R:aZ K F H σ e):aZ K F H (σ++Mh k none) (e++Mh k none):=by
 refine⟨R.sm,by simp[R.len],λi x h=>?_,λi xs h=>?_,λi xss h=>?_,λi j a h1 h2=>R.fp i j a (qZ.mp h1) (qZ.mp h2)⟩;·obtain⟨v,g1,g2⟩:=R.dat i x (ec h);exact⟨v,eI g1,g2⟩
 ·obtain⟨l,vs,g1,g2⟩:=R.own i xs (ec h);exact⟨l,vs,eI g1,g2⟩
 ·obtain⟨l,bs,g1,g2⟩:=R.nst i xss (ec h);exact⟨l,bs,eI g1,g2⟩
end
theorem r8:∀{as as':List Sv}{e:En},r6 as e=some as'->E8 (as'.map some)
 |[],_,e,h=>by cases h;intro i xss z;simp at z|.d x::r,_,e,h=>by obtain⟨s,h1,rfl⟩:=LI h;have ih:=r8 h1;intro i xss z;cases i with|zero=>simp at z|succ i=>exact ih i xss (by simpa using z)
 |.l xs::r,_,e,h=>by unfold r6 at h;match he:e.head?,h with|some (some (.l ys)),h=>obtain⟨s,h1,rfl⟩:=LI h;have ih:=r8 h1;intro i xss z;cases i with|zero=>simp at z|succ i=>exact ih i xss (by simpa using z)
 |.n x::r,_,e,h=>by simp[r6]at h
theorem tG{W:List Nat}{as:List Sv}(h:jr W as=true){j:Nat}{xs:List LS}(hj:as[j]?=some (.l xs)):j∉W:=λz=>by unfold jr at h;have:=ML.mp h j z;rw[hj]at this;cases this
section
variable{P:Mc}{w:LV}{K:⇑0}{mg:Str->Option LP}{base:LZ}
theorem eQ.fn{x:Str}{st:Me}{f:LQ}{fd:Mw}{N ps:List Str}{k n k0:Nat}{W:List Nat}{fb:FS}(h:eQ K mg x st f fd ps)(S:aw N ps (ao st))(hn:ps.length=n)(hN:N.length=n+k0)(hb:∀(cdv:LP) (A:Md) (outer:List Env) (s:LR) (H:Hp) (E:XK),bZ k (A.deeper (Mt x (ao st) ↑s f cdv))->ky (dR eW P w K mg base N x (ao st) f cdv A outer s H E).nox (b_ st) (fS K fb W)):a_ P w K mg base eW (k+1) f fd ps (fZ K n (gz n k0 W fb)):=by
 refine h.F.ok S (λvs H Q E q=>?_) λcdv A outer s H vs Q E hr hsp=>⟨_,hb cdv A outer s H E hr,?_⟩;·rw[hn];exact q.1
 ·obtain⟨hl,F,as,r,as',R,nN,hm,nr,q⟩:=hsp;unfold gz at hm;split at hm;case isFalse=>cases hm
  case isTrue hc=>
  obtain⟨la,nl⟩:=hc;obtain⟨fl,h1,hm⟩:=LH hm;have hst:dM N vs=vs.map some++Mh k0 none:=by unfold dM;rw[hN,hl];congr 2;lia
  rw[hst];have key:∀{as':List Sv}{e':En},r6 as e'=some as'->∀F' H' σ',cL W (vs.map some++Mh k0 none) F H (as.map some++Mh k0 none) σ' F' H' e'->aZ K F' H' σ' e'->eP (vs.map some) F H (as.map some) F' H' (as'.map some)/\aZ K F' H' (vs.map some) (as'.map some)/\∀a,cn (vs.map some) (as'.map some) H' a->cn (vs.map some) (as.map some) H a:=by
   intro as' e' hu F' H' σ' X' R';obtain⟨u1,u2,u3,u4⟩:=nQ hu;have uN:=r8 hu;have ow:∀a,cn (vs.map some) (as'.map some) H' a->cn (vs.map some) (as.map some) H a:=by
    rintro a⟨j,⟨ys,c1,c2⟩|⟨xss,_,_,z,_⟩⟩;·obtain⟨⟨xs,c3⟩,_⟩:=u3 j ys (eY.mp c1);exact⟨j,.inl ⟨xs,eY.mpr c3,c2⟩⟩
    ·exact absurd z (uN j xss)
   have sg:∀(j:Nat) (xs:List LS),as[j]?=some (.l xs)->σ'[j]?=(vs.map some)[j]?:=λj xs hj=>by
    rw[X'.wr j (tG nl hj)];have hj2:j<(vs.map some).length:=by rw[Mn,hl,<-la];exact(LJ hj).1
    rw[Oe hj2]
   refine⟨⟨X'.sf,X'.dom,λa vs h1 h2 hn=>X'.fr a vs h1 h2 λz=>hn (nL.mp z),X'.lst,λa o ha hn=>X'.tmp a o ha λz=>hn (nL.mp z),λj=>?_,λa z=>.inl (ow a z),λa m h1 h2 hn=>X'.fd a m h1 h2 λz=>hn (nL.mp z)⟩,⟨R'.sm,?_,λj y hj=>?_,λj ys hj=>?_,λj xss hj=>absurd hj (uN j xss),λj i l f1 f2=>?_⟩,ow⟩
   ·constructor;·rintro⟨ys,hj⟩;obtain⟨⟨xs,c⟩,_⟩:=u3 j ys (eY.mp hj);exact⟨xs,eY.mpr c⟩
    ·rintro⟨xs,hj⟩;obtain⟨ys,c⟩:=u4 j xs (eY.mp hj);exact⟨ys,eY.mpr c⟩
   ·simp[u1,hl,la]
   ·obtain⟨v,c1,c2⟩:=R.dat j y (eY.mpr ((u2 j y).mp (eY.mp hj)));exact⟨v,c1,DA.mono X'.sf c2⟩
   ·obtain⟨⟨xs,c1⟩,c2⟩:=u3 j ys (eY.mp hj);obtain⟨l,us,d1,d2⟩:=R'.own j ys c2;exact⟨l,us,by rw[<-sg j xs c1];exact d1,d2⟩
   ·obtain⟨xs,g1,g3⟩:=f1.resolve_right λ⟨xss,_,_,z,_⟩=>uN j xss z;obtain⟨ys,g2,g4⟩:=f2.resolve_right λ⟨xss,_,_,z,_⟩=>uN i xss z;obtain⟨⟨zs,c1⟩,c2⟩:=u3 j xs (eY.mp g1);obtain⟨⟨ws,c3⟩,c4⟩:=u3 i ys (eY.mp g2);exact R'.inj j i xs ys l c2 c4 (by rw[sg j zs c1];exact g3) (by rw[sg i ws c3];exact g4)
  refine⟨F,as.map some++Mh k0 none,fl,R.pad,h1,?_⟩;cases fl with|bk e'=>cases hm|ct e'=>cases hm|nx e'=>obtain⟨as2,h2,hm⟩:=LI hm;cases hm;intro F' H' σ' X' R';obtain⟨X2,R2,_⟩:=key h2 F' H' σ' X' R';exact q F' H' .non X2 R2 ((vE (K:=K) (F:=F')).mpr rfl)|rt r0 e'=>obtain⟨r1,h2,hm⟩:=LH hm;obtain⟨as2,h3,hm⟩:=LI hm;cases hm;intro F' H' σ' v X' R' A';obtain⟨X2,R2,ow2⟩:=key h3 F' H' σ' X' R';have noo:∀l,H l=none->¬cn (vs.map some) (as'.map some) H' l:=λl hl z=>R.ownH l (ow2 l z) hl;refine q F' H' v X2 R2 ?_;cases r0 with|d y=>cases h2;exact A'|l ys=>cases h2;obtain⟨l,us,d0,d1,d2,d3,d4,_⟩:=A';exact⟨l,us,d0,d1,d2,d3,d4,noo l d1⟩|s i=>
   simp only[pE]at h2;split at h2;case isFalse=>cases h2
   case isTrue hi=>
   obtain⟨a1,xs,a2⟩:=A';rw[a2]at h2;cases h2;obtain⟨l,us,d1,d2,d3,d4⟩:=R'.own i _ a2;rw[a1]at d1;cases d1;suffices hl0:H l=none from⟨l,us,rfl,hl0,d2,d3,d4,noo l hl0⟩;rcases X'.own l ⟨i,.inl ⟨_,a2,a1⟩⟩with z|z
   ·obtain⟨j,zf⟩:=nL.mp z;obtain⟨ys,z1,z2⟩:=zf.resolve_right λ⟨xss,_,_,z,_⟩=>nN j xss z;have z1':=eY.mp z1;obtain⟨u1,u2,u3,u4⟩:=nQ h3;obtain⟨ws,w1⟩:=u4 j ys z1';obtain⟨_,w2⟩:=u3 j ws w1;have hj2:j<vs.length:=by rw[hl,<-la];exact(LJ z1').1
    have e3:σ'[j]?=some (some (.ref l)):=by rw[X'.wr j (tG nl z1'),Oe (by simpa using hj2)];exact z2
    have:=R'.inj i j _ ws l a2 w2 a1 e3;lia
   ·exact z
end
def FP:Option Sv->Option Sv|some (.n _)=>none|s=>s
def m5(cp:List (Nat×Str))(nT:Nat)(e:En):En:=cp.map (λp=>FP (e[p.1]?).join)++Mh nT none
def lq(cp:List (Nat×Str))(i:Nat):Option Nat:=cp.findIdx? λp=>p.1==i
def dk(g:FG)(ft:FT)(fe:FE):List LS->En->List LS->Option (List LS×En)|[],e,acc=>some (acc,e)|x::r,e,acc=>(g x e).bind λe1=>(ft e1).bind λb=>if b.1=true then(fe b.2).bind λv=>(nq v.1).bind λd=>if acc.length<1000000 then dk g ft fe r v.2 (acc++[d]) else none else dk g ft fe r b.2 acc
def jc(cp:List (Nat×Str))(ei e:En):Bool:=cp.all λp=>!wV e[p.1]?||wV ei[(lq cp p.1).getD 0]?
def ig(cp:List (Nat×Str))(nT:Nat)(fi:FI)(g:FG)(ft:FT)(fe:FE):FE:=λe=>(fi e).bind λp=>if (p.2.1.all λq=>!(cp.any λc=>c.1==q.1))=true then(dk g ft fe p.1 (m5 cp nT p.2.2) []).bind λz=>if jc cp z.2 p.2.2=true then some (.l z.1,mx (lq cp) z.2 p.2.2) else none else none
section
variable{K:⇑0}{F H:Hp}{σ:L2.St}{e:En}{cp:List (Nat×Str)}{nT:Nat}
theorem dz{i k:Nat}(h:lq cp i=some k):∃s,cp[k]?=some (i,s):=by unfold lq at h;rw[Rt]at h;obtain⟨hk,h1,_⟩:=h;refine⟨cp[k].2,?_⟩;rw[My hk];have:=eq_of_beq h1;rw[<-this]
theorem iE{k:Nat}{x:Sv}(h:(m5 cp nT e)[k]?=some (some x)):∃i s,cp[k]?=some (i,s)/\e[i]?=some (some x):=by unfold m5 at h;have h:=ec h;rw[MS]at h;obtain⟨p,h1,h2⟩:=LI h;refine⟨p.1,p.2,h1,?_⟩;cases q:e[p.1]? with|none=>rw[q]at h2;cases h2|some y=>rw[q]at h2;match y,h2 with|some (.d z),h2=>exact congrArg some h2|some (.l z),h2=>exact congrArg some h2|some (.n z),h2=>cases h2|none,h2=>cases h2
theorem iF:E8 (m5 cp nT e):=by intro k xss h;unfold m5 at h;have h:=ec h;rw[MS]at h;obtain⟨p,h1,h2⟩:=LI h;match (e[p.1]?).join,h2 with|some (.d z),h2=>cases h2|some (.l z),h2=>cases h2|some (.n z),h2=>cases h2|none,h2=>cases h2
theorem nP{k i:Nat}{s:Str}{v:V}(h:cp[k]?=some (i,s))(hv:σ[i]?=some (some v)):(e_ cp nT σ)[k]?=some (some v):=by unfold e_;refine eI ?_;rw[MS,h];simp[hv]
theorem lQ{k i:Nat}{s:Str}{v:V}(h:cp[k]?=some (i,s))(hv:(e_ cp nT σ)[k]?=some (some v)):σ[i]?=some (some v):=by unfold e_ at hv;have hv:=ec hv;rw[MS,h]at hv;simp only[NC,OQ]at hv;cases q:σ[i]? with|none=>rw[q]at hv;cases hv|some y=>rw[q]at hv;exact congrArg some hv
theorem qU:∀{cp:List (Nat×Str)}{k j i:Nat}{s t:Str},(cp.map (·.1)).Nodup->cp[k]?=some (i,s)->cp[j]?=some (i,t)->k=j|[],k,j,i,s,t,_,h,_=>by simp at h|p::r,k,j,i,s,t,hn,h1,h2=>by simp only[Mp,OV]at hn;cases k with
 |zero=>simp at h1;subst h1;cases j with|zero=>rfl|succ j=>have hm:(i,t)∈r:=LO (i:=j) (by simpa using h2);exact absurd (List.mem_map.mpr ⟨(i,t),hm,rfl⟩) hn.1
 |succ k=>cases j with|zero=>simp at h2;subst h2;have hm:(i,s)∈r:=LO (i:=k) (by simpa using h1);exact absurd (List.mem_map.mpr ⟨(i,s),hm,rfl⟩) hn.1|succ j=>have:=qU (cp:=r) (k:=k) (j:=j) hn.2 (by simpa using h1) (by simpa using h2);lia
theorem aZ.inn(R:aZ K F H σ e)(hn:(cp.map (·.1)).Nodup):aZ K F H (e_ cp nT σ) (m5 cp nT e)/\su σ e (e_ cp nT σ) (m5 cp nT e) (lq cp):=by
 refine⟨⟨R.sm,by simp[e_,m5],λk x h=>?_,λk xs h=>?_,λk xss h=>absurd h (iF k xss),λk j l f1 f2=>?_⟩,⟨λi k xs h1 h2=>?_,λk ys h=>?_⟩⟩;·obtain⟨i,s,h1,h2⟩:=iE h;obtain⟨v,g1,g2⟩:=R.dat i x h2;exact⟨v,nP h1 g1,g2⟩
 ·obtain⟨i,s,h1,h2⟩:=iE h;obtain⟨l,vs,g1,g2⟩:=R.own i xs h2;exact⟨l,vs,nP h1 g1,g2⟩
 ·obtain⟨xs,h1,h3⟩:=f1.resolve_right λ⟨xss,_,_,z,_⟩=>iF k xss z;obtain⟨ys,h2,h4⟩:=f2.resolve_right λ⟨xss,_,_,z,_⟩=>iF j xss z;obtain⟨i,s,a1,a2⟩:=iE h1;obtain⟨i',s',b1,b2⟩:=iE h2;have:i=i':=R.inj i i' xs ys l a2 b2 (lQ a1 h3) (lQ b1 h4);subst this;exact qU hn a1 b1
 ·obtain⟨s,g⟩:=dz h2;obtain⟨l,vs,g1,_⟩:=R.own i xs h1;rw[g1];exact nP g g1
 ·obtain⟨i,s,h1,h2⟩:=iE h;obtain⟨l,vs,g1,_⟩:=R.own i ys h2;refine⟨i,ys,h2,?_,by rw[g1];exact nP h1 g1⟩;cases hp:lq cp i with|none=>unfold lq at hp;rw[QD]at hp;have:=hp _ (LO h1);simp at this|some j=>obtain⟨t,g⟩:=dz hp;rw[qU hn g h1]
theorem aZ.putT(R:aZ K F H σ e){l:LQ}{ws:List V}(h1:F l=none)(h2:¬cn σ e H l):aZ K F (bI H l (.lst ws)) σ e/\∀a,cn σ e (bI H l (.lst ws)) a↔cn σ e H a:=R.keep (av.refl F) (λb o q=>by
 have z:b≠l:=λz=>by rw[z,h1]at q;cases q
 rw[aJ z];exact R.sm b o q) (λa⟨i,h⟩=>(R.fpAt h).1) λa o ha q=>by have z:a≠l:=λz=>h2 (by rw[<-z];exact ha);rw[aJ z];exact q
theorem cL.putT{W:List Nat}{σ':L2.St}{F' H':Hp}{e':En}(x:cL W σ F H e σ' F' H' e'){l:LQ}{o:HO}(h:H l=none)(ho:∀a,cn σ' e' (bI H' l o) a↔cn σ' e' H' a):cL W σ F H e σ' F' (bI H' l o) e':=by
 refine⟨x.sf,λa q=>?_,x.fr,λa vs q=>?_,λa u q n=>?_,λa q=>x.own a ((ho a).mp q),x.wr,x.fd⟩
 ·by_cases z:a=l;·rw[z];exact h
  ·rw[aJ z]at q;exact x.dom a q
 ·have z:a≠l:=λz=>by rw[z,h]at q;cases q
  rw[aJ z];exact x.lst a vs q
 ·have z:a≠l:=λz=>by rw[z,h]at q;cases q
  rw[aJ z];exact x.tmp a u q n
inductive CI (K:⇑0) (W:List Nat) (σ0:L2.St) (F1 H1:Hp) (e0:En) (l:LQ) (P:Hp->En->List LS->Prop) (σ':L2.St) (H':Hp):Prop|mk{F':Hp}{ei:En}{acc:List LS}{vs:List V}(R:aZ K F' H' σ' ei) (X:cL W σ0 F1 H1 e0 σ' F' H' ei) (fl:F' l=none) (no:¬cn σ' ei H' l) (hl:H' l=some (.lst vs)) (da:aL K F' acc vs) (hc:P F' ei acc):CI K W σ0 F1 H1 e0 l P σ' H'
theorem Am{Q:VK}{fi:FI}{g:FG}{W:List Nat}{ft:FT}{fe:FE}(hn:(cp.map (·.1)).Nodup)(hW:∀j∈W,cp.length<=j)(h:fE K (ig cp nT fi g ft fe) σ H Q):Ac cp nT (fI K fi) (fG K g W) (fT K ft) (fE K fe) σ H Q:=by
 obtain⟨F0,e0,z,e',R0,hf,q⟩:=h;unfold ig at hf;obtain⟨⟨items,own,e1⟩,h1,hf⟩:=LH hf;dsimp only at hf;split at hf;case isFalse=>cases hf
 case isTrue hO=>
 obtain⟨⟨out,eo⟩,h2,hf⟩:=LH hf;dsimp only at hf;split at hf;case isFalse=>cases hf
 case isTrue hB=>
 cases hf;refine⟨⟨F0,e0,items,own,e1,R0,h1,λJ F1 H1 X1 R1 kp ok=>?_⟩⟩;intro l hl;obtain⟨Ri,sub⟩:=R1.inn (nT:=nT) hn;have hFl:F1 l=none:=R1.freeF hl;let Iv:Nat->L2.St->Hp->Prop:=λi=>CI K W (e_ cp nT σ) F1 H1 (m5 cp nT e1) l λ_ ei acc=>dk g ft fe (items.drop i) ei acc=some (out,eo);have notown:∀p∈own,∀a,σ[p.1]?=some (some (.ref a))->¬cn (e_ cp nT σ) (m5 cp nT e1) H1 a:=by rintro p hp a ha⟨k,zf⟩;obtain⟨xs,c1,c2⟩:=zf.resolve_right λ⟨xss,_,_,z,_⟩=>iF k xss z;obtain⟨i,s,d1,d2⟩:=iE c1;have e2:=lQ d1 c2;have:p.1=i:=R1.inj p.1 i p.2 xs a (kp p hp) d2 ha e2;have hh:=ML.mp hO p hp;simp only[Oa,List.any_eq_false,beq_iff_eq]at hh;exact hh (i,s) (LO d1) this.symm
 refine⟨λi m σ' H'=>m=items.length-i/\i<=items.length/\Iv i σ' H',⟨items.length,by simp,Np _,.mk (Ri.putT hFl (λz=>(Ri.ownH l z) hl)).1 (cL.refl.putT hl (Ri.putT hFl (λz=>(Ri.ownH l z) hl)).2) hFl (λz=>(Ri.ownH l (((Ri.putT hFl (λz=>(Ri.ownH l z) hl)).2 l).mp z)) hl) aC aL.nil h2⟩,?_⟩;rintro i m σ' H'⟨rfl,hi,⟨R',X',fl,no,hl',da,hc⟩⟩;rename_i F' ei acc vs;have held:wz K σ F' H' own:=λp hp=>by obtain⟨a,us,c1,c2,c3,c4⟩:=R1.own p.1 p.2 (kp p hp);exact⟨a,us,c1,X'.tmp a _ c3 (notown p hp a c1),c4.mono X'.sf⟩
 obtain⟨go,stop,yld⟩:=ok F' H' X'.sf R'.sm held;by_cases hlt:i<items.length
 ·have hd:items.drop i=items[i]::items.drop (i+1):=Os hlt;rw[hd]at hc;unfold dk at hc;obtain⟨e2,c2,hc⟩:=LH hc;obtain⟨⟨b,e3⟩,c3,hc⟩:=LH hc;refine .inr ⟨go i hlt,Iv (i+1),λσ2 H2 r=>⟨items.length-(i+1),by lia,rfl,hlt,r⟩,λx H2 hy=>?_⟩;obtain⟨F2,sH,sF2,sm2,fz,hx⟩:=yld i items[i] x H2 (My hlt) hy;obtain⟨R2,X2⟩:=R'.step sH sF2 sm2 fz;refine⟨F2,ei,items[i],e2,R2,hx,c2,λσ3 X3 R3=>⟨F2,e2,b,e3,R3,c3,λF4 H4 X4 R4=>?_⟩⟩;have hlH2:H2 l=some (.lst vs):=sH _ _ hl';have no2:¬cn σ' ei H2 l:=λz=>by
   rcases X2.ow l z with z|z;·exact no z
   ·rw[hl']at z;cases z
  have no3:¬cn σ3 e2 H2 l:=λz=>by
   rcases X3.own l z with z|z;·exact no2 z
   ·rw[hlH2]at z;cases z
  have fl2:F2 l=none:=fz l fl (by rw[hl'];simp);have hlH4:H4 l=some (.lst vs):=X4.tmp l _ hlH2 no3;have fl4:F4 l=none:=X4.fr l vs fl2 hlH2 no3;have no4:¬cn σ3 e3 H4 l:=λz=>by
   rcases X4.ow l z with z|z;·exact no3 z
   ·rw[hlH2]at z;cases z
  have E4:cL W (e_ cp nT σ) F1 H1 (m5 cp nT e1) σ3 F4 H4 e3:=((X'.trans X2.s).trans X3).trans X4.s;cases b with|false=>rw[if_neg ↥1]at hc;exact wX (.mk R4 E4 fl4 no4 hlH4 (da.mono (sF2.trans X4.sf)) hc)|true=>
   rw[if_pos rfl]at hc;obtain⟨⟨r,e5⟩,c5,hc⟩:=LH hc;obtain⟨d,c6,hc⟩:=LH hc;split at hc;case isFalse=>cases hc
   case isTrue hlen=>
   refine wY ⟨F4,e3,r,e5,R4,c5,λF5 H5 v X5 R5 A5=>?_⟩;have hlH5:H5 l=some (.lst vs):=X5.tmp l _ hlH4 no4;have fl5:F5 l=none:=X5.fr l vs fl4 hlH4 no4;have no5:¬cn σ3 e5 H5 l:=λz=>by
    rcases X5.ow l z with z|z;·exact no4 z
    ·rw[hlH4]at z;cases z
   obtain⟨F6,R6,s6,d6,f6⟩:=cu.frozen R5 (rs:=[r]) (vs:=[v]) ⟨v,[],rfl,A5,rfl⟩ (pZ c6);have fl6:F6 l=none:=f6 l fl5 (by rw[hlH4];simp);have X6:=X5.frz s6 f6;have ll:=da.len;have sl:Mi=16777216:=MO;have dv:DA K F6 d v:=by simp only[aL]at d6;obtain⟨v',r',e',hv,_⟩:=d6;cases e';exact hv
   obtain⟨R7,o7⟩:=R6.putT (ws:=vs++[v]) fl6 no5;exact⟨vs,hlH5,by lia,.mk R7 ((E4.trans X6.s).putT hl o7) fl6 (λz=>no5 ((o7 l).mp z)) aC ((da.mono (sF2.trans (X4.sf.trans (X5.sf.trans s6)))).append (aL.one dv)) hc⟩
 ·have hd:items.drop i=[]:=QC ↥0;rw[hd]at hc;cases hc;refine .inl ⟨stop i ↥0,?_⟩;obtain⟨R9,X9,o9⟩:=o_ R1 sub iF X'.sf X'.dom X'.fr X'.lst X'.tmp X'.fd R' (λi k xs g1 g2=>X'.wr k λz=>by obtain⟨s,g⟩:=dz g2;have:=(LJ g).1;have:=hW k z;lia) λi k xs g1 g2=>by obtain⟨s,g⟩:=dz g2;unfold jc at hB;have hb:=ML.mp hB _ (LO g);simp only[g1,g2,Og,wV,QE,Bool.false_or]at hb;exact vL.mp hb
  exact q F' H' (.ref l) (X1.trans X9) R9 ⟨l,vs,rfl,X1.dom l hl,fl,hl',da,λz=>R1.ownH l (o9 l z) hl⟩
end
section
variable{X:Cx}{K:⇑0}{a b:LU}{es:List LU}{fa fb:FE}{fs:FA}{pos p p2 p3:Pos}{lo hi:Option LU}
def yA:En->Rv->Option Rv:=λ_ x=>(bF x).map λi=>.d (.int (-i))
theorem F_:Fe K (rU λi=>.int (-i)) yA:=by intro σ H0 F H e x z v Q R A hg q;obtain⟨i,h5,h4⟩:=LI hg;cases h4;exact⟨i,ci A h5,q F H _ (eP.refl _ _ _ _) R oQ⟩
theorem CZ(ha:PE X a (fE K fa)):PE X (.UnaryOp .USub a pos) (fE K (ui yA fa)):=Gp ET F_ ha
theorem cB(hK:X.K=K)(ha:PE X a (fE K fa))(hb:PE X b (fE K fb)):PE X (.BinOp a .Add b pos) (fE K (aB cQ fa fb)):=qh (hK▸Bm) Fg ha hb
theorem qg(ha:PE X a (fE K fa))(hb:PE X b (fE K fb)):PE X (.BinOp a .Sub b pos) (fE K (aB iD fa fb)):=qh Ea GC ha hb
theorem js(hK:X.K=K)(ha:PE X a (fE K fa))(hb:PE X b (fE K fb)):PE X (.BinOp a .Mult b pos) (fE K (aB fJ fa fb)):=qh (hK▸Bq) F8 ha hb
theorem gM(ha:PE X a (fE K fa))(hb:PE X b (fE K fb)):PE X (.BinOp a .FloorDiv b pos) (fE K (aB er fa fb)):=qh zl Du ha hb
theorem aV(ha:PE X a (fE K fa))(hb:PE X b (fE K fb)):PE X (.BinOp a .Mod b pos) (fE K (aB a7 fa fb)):=qh Bp FZ ha hb
theorem C0(ha:PE X a (fE K fa))(hb:PE X b (fE K fb)):PE X (.BinOp a .Pow b pos) (fE K (aB uD fa fb)):=qh D_ Gk ha hb
theorem bA(hK:X.K=K)(ha:PE X a (fE K fa))(hb:PE X b (fE K fb))(hs:qI b):PE X (.Subscript a b pos) (fE K (aB cK fa fb)):=Gn (hK▸Hy) Hz ha hb hs
theorem iL{fl fh:FO}(hK:X.K=K)(he:PE X a (fE K fa))(hl:PO X lo (fO K fl))(hh:PO X hi (fO K fh)):PE X (.Subscript a (.Slice lo hi none p2) pos) (fE K (si fa fl fh)):=by subst hK;exact zM he hl hh
structure qE (X:Cx) (K:⇑0) (op:CmpOp) (g:En->Rv->Rv->Option Rv):Prop where ex:∃r,i5 X (NX op) r/\jG K r g
theorem yc:qE X K .Lt AR:=⟨_,Gf,HB⟩
theorem AE:qE X K .Gt Dw:=⟨_,Ge,Hv⟩
theorem x_:qE X K .GtE CG:=⟨_,Gd,Hu⟩
theorem uv{k:Nat}(hK:X.K=K)(hr:bZ k X.A):qE X K .Eq (cS false):=⟨_,hK▸D6 hr,CA⟩
theorem wC{k:Nat}(hK:X.K=K)(hr:bZ k X.A):qE X K .NotEq (cS true):=⟨_,hK▸D9 hr,CA⟩
theorem ya{k:Nat}(hK:X.K=K)(hr:bZ k X.A):qE X K .In (wN false):=⟨_,hK▸D7 hr,Fx⟩
theorem AF{k:Nat}(hK:X.K=K)(hr:bZ k X.A):qE X K .NotIn (wN true):=⟨_,hK▸xm hr,Fx⟩
theorem vU{op:CmpOp}{g:En->Rv->Rv->Option Rv}(h:qE X K op g)(ha:PE X a (fE K fa))(hb:PE X b (fE K fb))(hm:OH op b=false):PE X (.Compare a [op] [b] pos) (fE K (aB g fa fb)):=by obtain⟨r,h1,h2⟩:=h.ex;exact Ep h1 h2 ha hb hm
theorem a9{op:CmpOp}{g:En->Rv->Rv->Option Rv}(h:qE X K op g)(ha:PE X a (fE K fa))(hb:PE X b (fE K fb))(hm:OH op b=false):PT X (.Compare a [op] [b] pos) (fT K (aO (aB g fa fb))):=by obtain⟨r,h1,h2⟩:=h.ex;exact Et h1 h2 ha hb hm
structure nh (X:Cx) (K:⇑0) (x:Str) (g:En->List Rv->Option Rv):Prop where ex:(∃id r,cJ X (.builtin id) r/\cM K r g/\NL x=some (.builtin id))\/∃T r,cJ X (.type T) r/\cM K r g/\NL x=some (.type T)
theorem aT{x:Str}{g:En->List Rv->Option Rv}(h:nh X K x g)(hg:Gl X x)(hm:X.mg x=none)(ha:PA X (a::es) (fA K fs))(hn:x≠"__name__")(hdb:(x==("__debug__":Str))=false)(he:Mf (a::es) X.env=(false,Ml a X.env)::Mf es X.env)(hpl:(MF pos (Mf es X.env)).any (·.1)=false):PE X (.Call (.Name x p) (a::es) [] pos) (fE K (aI g fs)):=by
 rcases h.ex with⟨id,r,h1,h2,h3⟩|⟨T,r,h1,h2,h3⟩;·exact zL h1 h2 hg hm h3 ha hn hdb he hpl
 ·exact xt h1 h2 hg hm h3 ha hn hdb he hpl
theorem b_len(hK:X.K=K):nh X K "len" (g1 gK):=⟨.inl ⟨_,_,hK▸qN,FN,PySem.boot_len⟩⟩
theorem b_abs:nh X K "abs" (g1 uC):=⟨.inl ⟨_,_,yd,Ff,PyProof.Rows.boot_abs⟩⟩
theorem b_min(hc:X.calm=true):nh X K "min" (g2 yx):=⟨.inl ⟨_,_,wG hc,FY,PyProof.Rows.boot_min⟩⟩
theorem b_max(hc:X.calm=true):nh X K "max" (g2 wQ):=⟨.inl ⟨_,_,wF hc,FV,PyProof.Rows.boot_max⟩⟩
theorem b_int:nh X K "int" (g1 wO):=⟨.inr ⟨_,_,wD,Fy,PyProof.Rows.boot_int⟩⟩
theorem b_tuple(hK:X.K=K):nh X K "tuple" (g1 bN):=⟨.inr ⟨_,_,hK▸pz,Ca,PyProof.Rows.boot_tuple⟩⟩
theorem b_list(hK:X.K=K):nh X K "list" (g1 CH):=⟨.inr ⟨_,_,hK▸qO,DQ,PyProof.Rows.boot_list⟩⟩
theorem b_all{k:Nat}(hK:X.K=K)(hr:bZ k X.A):nh X K "all" (g1 (om sR)):=⟨.inl ⟨_,_,ye hr hK,Fh,x9⟩⟩
theorem b_sorted(hK:X.K=K):nh X K "sorted" (g1 uE):=⟨.inl ⟨_,_,hK▸uy,BX,Ru⟩⟩
theorem b_repr{k:Nat}(hK:X.K=K)(hr:bZ k X.A):nh X K "repr" (g1 mW):=⟨.inl ⟨_,_,hK▸uw hr,ED,PyProof.Rows.boot_repr⟩⟩
def gF(fs:FA):FE:=λe=>(fs e).bind λp=>match p.1 with|[r]=>(bF r).bind λj=>if 0<=j/\j<=100000 then some (.l ((gc j.toNat).map .int),p.2) else none|_=>none
theorem m7(hc:X.calm=true)(hgl:Gl X "list")(hml:X.mg "list"=none)(hg:Gl X "range")(hm:X.mg "range"=none)(ha:PA X [a] (fA K fs))(hs:Mf [a] X.env=[(false,Ml a X.env)])(he:Mf [.Call (.Name "range" p2) [a] [] p3] X.env=[(false,Ml (.Call (.Name "range" p2) [a] [] p3) X.env)]):PE X (.Call (.Name "list" p) [.Call (.Name "range" p2) [a] [] p3] [] pos) (fE K (gF fs)):=(rN hc hgl hml hg hm ha hs he).mono λσ H Q h=>by obtain⟨F,e,z,e',R,hf,q⟩:=h;unfold gF at hf;obtain⟨⟨rs,e1⟩,h1,hf⟩:=LH hf;match rs,h1,hf with
 |[r],h1,hf=>
 obtain⟨j,h2,hf⟩:=LH hf;split at hf;case isFalse=>cases hf
 case isTrue hj=>cases hf;refine⟨F,e,_,e1,R,h1,λF1 H1 vs X1 R1 A1=>?_⟩;obtain⟨v,rfl,A2⟩:=nO A1;refine⟨j,by rw[ci A2 h2],hj.1,hj.2,λt ht=>?_⟩;obtain⟨R3,X3,hF,no⟩:=R1.newL (vs:=(gc j.toNat).map V.int) ht;exact q _ _ _ (X1.trans X3) R3 ⟨t,_,rfl,X1.dom _ ht,hF,aC,aL.ints.mpr rfl,no⟩
abbrev jC:FT:=λe=>some (true,e)
theorem sr.mono{ifs:List LU}{t t':TT}(h:sr X ifs t)(m:∀σ H Q,t' σ H Q->t σ H Q):sr X ifs t':=λpins s σ H Q I q=>h pins s σ H Q I (m σ H Q q)
theorem rR:sr X [] (fT K jC):=BK.mono λσ H Q h=>by obtain⟨F,e,b,e',R,hf,q⟩:=h;cases hf;exact q F H (eP.refl _ _ _ _) R
theorem rS{c:LU}{ft:FT}(h:PT X c (fT K ft)):sr X [c] (fT K ft):=BL h
variable{o:LU}{fo:FE}{apos cpos:Pos}
theorem cC(hK:X.K=K)(ho:PE X o (fE K fo))(ha:PA X (a::es) (fA K fs))(hbase:PN o "append" X.env (Ml o X.env)=Ml o X.env)(hfew:((MF cpos (Mf (a::es) X.env)).all (λx=>!x.1)&&(backToKw cpos (keywordEach [] X.env)).all (λx=>x.1.isSome)&&decide ((a::es).length+([]:List NQ).length+(if ([]:List NQ).isEmpty then 0 else 1)<30))=true)(hline:(apos.endLine==cpos.line)=true)(hs:Mf (a::es) X.env=(false,Ml a X.env)::Mf es X.env)(hplain:(MF cpos (Mf es X.env)).any (·.1)=false):PE X (.Call (.Attribute o "append" apos) (a::es) [] cpos) (fE K (bV ba fo fs)):=by subst hK;exact C4 PySem.F.slot_list_append PySem.F.type_list_append me xW ho ha hbase hfew hline hs hplain
theorem rQ(hK:X.K=K)(ho:PE X o (fE K fo))(ha:PA X (a::es) (fA K fs))(hbase:PN o "pop" X.env (Ml o X.env)=Ml o X.env)(hfew:((MF cpos (Mf (a::es) X.env)).all (λx=>!x.1)&&(backToKw cpos (keywordEach [] X.env)).all (λx=>x.1.isSome)&&decide ((a::es).length+([]:List NQ).length+(if ([]:List NQ).isEmpty then 0 else 1)<30))=true)(hline:(apos.endLine==cpos.line)=true)(hs:Mf (a::es) X.env=(false,Ml a X.env)::Mf es X.env)(hplain:(MF cpos (Mf es X.env)).any (·.1)=false):PE X (.Call (.Attribute o "pop" apos) (a::es) [] cpos) (fE K (bV dI fo fs)):=by subst hK;exact C4 PySem.F.slot_list_pop PySem.F.type_list_pop yY BG ho ha hbase hfew hline hs hplain
end
theorem va{K:⇑0}{H:Hp}{a:LQ}{ns:List Int}{m:FM}{as':List Sv}{Q:VK}{E:XK}(hS:i6 K H a (ns.map V.int))(hm:m [.d (.list (ns.map .int))]=some (.d (.bool true),as'))(q:∀H',Q (.bl true) H'):fZ K 1 m [.ref a] H Q E:=by
 refine⟨rfl,H,[.d (.list (ns.map .int))],_,as',?_,?_,hm,trivial,λF' H' v X' R' A'=>?_⟩
 ·refine⟨av.refl _,rfl,λi x h=>?_,λi xs h=>?_,λi xss h=>?_,λi j l f1 _=>?_⟩;·match i,h with|0,h=>simp at h;subst h;exact⟨.ref a,rfl,fC.mpr ⟨a,_,rfl,hS,aL.ints.mpr rfl⟩⟩|i+1,h=>simp at h
  ·match i,h with|0,h=>simp at h|i+1,h=>simp at h
  ·match i,h with|0,h=>simp at h|i+1,h=>simp at h
  ·rcases f1 with⟨_,h,_⟩|⟨_,_,_,h,_⟩;·match i,h with|0,h=>simp at h|i+1,h=>simp at h
   ·match i,h with|0,h=>simp at h|i+1,h=>simp at h
 ·intro i xss h;match i,h with|0,h=>simp at h|i+1,h=>simp at h
 ·rw[d_.mp (show DA K F' (.bool true) v from A')];exact q H'
section
variable{K:⇑0}{σ:L2.St}{H0 F H F' H':Hp}{e e':En}
end
section
variable{X:Cx}{K:⇑0}{a b:LU}{es:List LU}{fa fb:FE}{fs:FA}{pos p p2 p3 pos':Pos}{x:Str}{i:Nat}
def nC(k:Int):En->Option Int:=λ_=>some k
end
theorem l4{C:Int->Int->Bool}{f:Int->Int->LS}{e:En}{i j:Int}(h:C i j=true):gI C f e (.d (.int i)) (.d (.int j))=some (.d (f i j)):=by simp[gI,bF,h]
theorem em{e:En}{i j:Int}:cQ e (.d (.int i)) (.d (.int j))=some (.d (.int (i+j))):=rfl
theorem cy{e:En}{i j:Int}:iD e (.d (.int i)) (.d (.int j))=some (.d (.int (i-j))):=rfl
theorem fK{e:En}{i j:Int}(h:ke i j=true):fJ e (.d (.int i)) (.d (.int j))=some (.d (.int (i*j))):=by unfold fJ AS sT;rw[l4 h];rfl
theorem yZ{i j:Int}(h1:-(2^64)<i)(h2:i<2^64):ke i j=true:=by
 have:iS i=true:=by unfold iS;rw[decide_eq_true h1,decide_eq_true h2];rfl
 unfold ke;rw[this];simp
theorem rF{i j:Int}(h1:-(2^64)<j)(h2:j<2^64):ke i j=true:=by
 have:iS j=true:=by unfold iS;rw[decide_eq_true h1,decide_eq_true h2];rfl
 unfold ke;rw[this];simp
theorem rE{i j:Int}(h1:Bt 4000 i)(h2:Bt 4000 j):ke i j=true:=by unfold ke;rw[iA.mpr h1,iA.mpr h2];simp
theorem aQ{e:En}{i j:Int}(h:0<j):a7 e (.d (.int i)) (.d (.int j))=some (.d (.int (i%j))):=by unfold a7;rw[l4 ↥7];rw[Int.fmod_eq_emod_of_nonneg i ↥0]
theorem fm{e:En}{i j:Int}(h:0<j)(h2:Bt 8000 j):er e (.d (.int i)) (.d (.int j))=some (.d (.int (i/j))):=by unfold er;rw[l4 (by simp[iA.mpr h2];lia)];rw[Int.fdiv_eq_ediv_of_nonneg i ↥0]
theorem gh{e:En}{i j:Int}{neg:Bool}:cS neg e (.d (.int i)) (.d (.int j))=some (.d (.bool (if neg then !(i==j) else i==j))):=by unfold cS;simp[jd,Nr,MM,MT,Nb]
theorem gy{e:En}{i j:Int}:AR e (.d (.int i)) (.d (.int j))=some (.d (.bool (decide (i<j)))):=rfl
theorem gv{e:En}{i j:Int}:IQ e (.d (.int i)) (.d (.int j))=some (.d (.bool (decide (i<=j)))):=rfl
theorem gp{e:En}{i j:Int}:Dw e (.d (.int i)) (.d (.int j))=some (.d (.bool (decide (j<i)))):=rfl
theorem gk{e:En}{i j:Int}:CG e (.d (.int i)) (.d (.int j))=some (.d (.bool (decide (j<=i)))):=rfl
theorem eD{e:En}{i j:Int}:g2 yx e [.d (.int i),.d (.int j)]=some (.d (.int (min i j))):=by show some (Rv.d (.int (if j<i then j else i)))=_;congr 3;split<;>lia
theorem eC{e:En}{i j:Int}:g2 wQ e [.d (.int i),.d (.int j)]=some (.d (.int (max i j))):=by show some (Rv.d (.int (if j>i then j else i)))=_;congr 3;split<;>lia
theorem eE{e:En}{i:Int}:yA e (.d (.int i))=some (.d (.int (-i))):=rfl
theorem dw{e:En}{b:Bool}:g1 wO e [.d (.bool b)]=some (.d (.int (if b then 1 else 0))):=rfl
theorem el{e:En}{i:Int}:g1 uC e [.d (.int i)]=some (.d (.int i.natAbs)):=by show some (Rv.d (.int (if i<0 then-i else i)))=_;congr 3;split<;>lia
theorem lW{j:Int}(h1:0<j)(h2:j<2^64):Bt 8000 j:=Bt.mono (m:=64) (by unfold Bt;lia) ⋯
theorem i9{α:Type}{xs:List α}{i:Int}(h0:0<=i)(h:i<xs.length):atI xs i=xs[i.toNat]?:=by unfold atI E5;rw[if_pos h0,if_pos h];rfl
theorem oj{e:En}{i:Nat}{xs:List LS}{neg:Bool}(h:e[i]?=some (some (.l xs)))(hs:Nr (.list xs)=true):cS neg e (.s i) (.l [])=some (.d (.bool (if neg then !xs.isEmpty else xs.isEmpty))):=by
 unfold cS;simp only[jd,h,MH,hs];have h0:Nr (.list [])=true:=by simp[Nr,MM,Na,MT,Ni]
 rw[h0];cases xs<;>simp[Nb,Oj]
theorem jy(ns:List Int):Nr (.list (ns.map .int))=true/\Nr (.tuple (ns.map .int))=true:=by
 have h1:Na (ns.map PyData.int)=true:=by induction ns with|nil=>rfl|cons n r ih=>simp[Na,MM,ih]
 have h2:Ni (ns.map PyData.int)=0:=by clear h1;induction ns with|nil=>rfl|cons n r ih=>simp[Ni,MT,ih]
 constructor<;>simp[Nr,MM,MT,h1,h2]
theorem cP{own:jY}{g:FG}{f:FS}(P:Nat->En->Prop):∀(items:List LS) (k:Nat) (e:En),(∀i x e,items[i]?=some x->P (k+i) e->∃e1 e2,g x e=some e1/\f e1=some (.nx e2)/\keeps own e2/\P (k+i+1) e2)->P k e->∃e',kc own g f items e=some (.nx e')/\P (k+items.length) e'|[],k,e,_,h=>⟨e,rfl,h⟩|x::r,k,e,hs,h=>by obtain⟨e1,e2,h1,h2,h3,h4⟩:=hs 0 x e rfl h;obtain⟨e',h5,h6⟩:=cP P r (k+1) e2 (λi y e hy hp=>by have:=hs (i+1) y e (by simpa using hy) (by rw[show k+(i+1)=k+1+i by lia];exact hp);rw[show k+(i+1)+1=k+1+i+1 by lia]at this;exact this) h4;refine⟨e',?_,by rw[Nj,show k+(r.length+1)=k+1+r.length by lia];exact h6⟩;unfold kc;simp only[h1,h2,MH,if_pos h3];exact h5
theorem bH{e:En}:keeps [] e:=λ_ h=>by cases h
theorem ef{W:List Nat}{fi:FI}{g:FG}{f:FS}{e e1:En}{items:List LS}(h:fi e=some (items,[],e1)):eN W fi g f e=kc [] g f items e1:=by unfold eN;rw[h];rfl
theorem iP{lo:Int}{n i:Nat}{x:LS}(h:(bL lo n)[i]?=some x):x=.int (lo+i)/\i<n:=by unfold bL at h;rw[MS]at h;obtain⟨k,h1,rfl⟩:=LI h;obtain⟨h2,h3⟩:=LJ h1;simp at h2 h3;subst h3;exact⟨rfl,h2⟩
theorem iQ{lo:Int}{n:Nat}:(bL lo n).length=n:=by simp[bL]
theorem dS{fs:FA}{e e1:En}{n:Int}(h:fs e=some ([.d (.int n)],e1))(h1:-1000000<=n)(h2:n<=1000000):ed fs e=some (bL 0 n.toNat,[],e1):=by
 unfold ed;rw[h];have:zW n=true:=by unfold zW;rw[decide_eq_true h1,decide_eq_true h2];rfl
 simp[bF,this]
theorem iV{ft:FT}{f:FS}(P:En->Prop)(μ:En->Nat)(hs:∀e,P e->(∃e1,ft e=some (false,e1)/\True)\/∃e1 e2,ft e=some (true,e1)/\f e1=some (.nx e2)/\P e2/\μ e2<μ e):∀(n:Nat) (e:En),P e->μ e<n->∃e0 e',iU ft f n e=some (.nx e')/\P e0/\ft e0=some (false,e'):=by intro n;induction n with|zero=>intro e _ h;lia|succ n ih=>
 intro e hp hm;rcases hs e hp with⟨e1,h1,_⟩|⟨e1,e2,h1,h2,h3,h4⟩;·exact⟨e,e1,by unfold iU;rw[h1];rfl,hp,h1⟩
 ·obtain⟨e0,e',g1,g2⟩:=ih e2 h3 ↥0;exact⟨e0,e',by unfold iU;rw[h1];simp only[MH,if_true,h2];exact g1,g2⟩
theorem jK{cs:En}{ft:FT}{fe:FE}{b:LS->Bool}{y:LS->LS}:∀(items:List LS) (t:Option Sv) (acc:List LS),(∀x∈items,ft (cs++[some (.d x)])=some (b x,cs++[some (.d x)]))->(∀x∈items,b x=true->fe (cs++[some (.d x)])=some (.d (y x),cs++[some (.d x)]))->acc.length+items.length<=1000000->∃t',dk (aq cs.length) ft fe items (cs++[t]) acc=some (acc++(items.filter b).map y,cs++[t'])
 |[],t,acc,_,_,_=>⟨t,by simp[dk]⟩|x::r,t,acc,h1,h2,hl=>by
  have hg:aq cs.length x (cs++[t])=some (cs++[some (.d x)]):=by simp[aq]
  have h1x:=h1 x ↥1;unfold dk;rw[hg];simp only[MH,h1x];cases hb:b x with|true=>simp only[if_true,h2 x ↥1 hb,MH,nq];rw[if_pos (by simp at hl;lia)];obtain⟨t',ih⟩:=jK (b:=b) (y:=y) r (some (.d x)) (acc++[y x]) (λz hz=>h1 z (by simp[hz])) (λz hz=>h2 z (by simp[hz])) (by simp at hl⊢;lia);exact⟨t',by rw[ih];simp[hb]⟩|false=>simp only[PQ,if_false];obtain⟨t',ih⟩:=jK (b:=b) (y:=y) r (some (.d x)) acc (λz hz=>h1 z (by simp[hz])) (λz hz=>h2 z (by simp[hz])) (by simp at hl;lia);exact⟨t',by rw[ih];simp[hb]⟩
theorem vh{cp:List (Nat×Str)}{nT:Nat}{fi:FI}{g:FG}{ft:FT}{fe:FE}{e e1 eo:En}{items out:List LS}(h1:fi e=some (items,[],e1))(h3:dk g ft fe items (m5 cp nT e1) []=some (out,eo))(h4:(cp.all λp=>!wV e1[p.1]?)=true):ig cp nT fi g ft fe e=some (.l out,e1):=by
 unfold ig;rw[h1];simp only[MH,List.all_nil,if_true,h3];have hb:jc cp eo e1=true:=by unfold jc;rw[ML]at h4⊢;intro p hp;rw[h4 p hp];rfl
 rw[if_pos hb];congr 2;refine Pc λi=>?_;rw[bU];match hi:e1[i]? with|none=>rfl|some none=>rfl|some (some (.d x))=>rfl|some (some (.n x))=>rfl|some (some (.l x))=>cases hp:lq cp i with|none=>simp[hp]|some k=>obtain⟨s,hs⟩:=dz hp;have:=ML.mp h4 _ (LO hs);simp[hi,wV]at this
theorem jn{fa:FE}{e e1:En}{xs:List LS}(h:fa e=some (.d (.tuple xs),e1)):jm fa e=some (xs,[],e1):=by unfold jm;rw[h];rfl
theorem yH{fa:FE}{e e1:En}{xs:List LS}(h:fa e=some (.l xs,e1)):jm fa e=some (xs,[],e1):=by unfold jm;rw[h];rfl
theorem lS{cp:List (Nat×Str)}{nT:Nat}{fi:FI}{g:FG}{ft:FT}{fe:FE}{e e1 cs:En}{t t':En}{items out:List LS}(h1:fi e=some (items,[],e1))(hc:m5 cp nT e1=cs++t)(hl:cs.length=cp.length)(h3:dk g ft fe items (m5 cp nT e1) []=some (out,cs++t')):ig cp nT fi g ft fe e=some (.l out,e1):=by
 have key:∀i x,e1[i]?=some (some (.l x))->∀k,lq cp i=some k->(cs++t')[k]?=some (some (.l x)):=by
  intro i x hi k hk;obtain⟨s,hs⟩:=dz hk;have hk2:k<cp.length:=(LJ hs).1;have:(m5 cp nT e1)[k]?=some (some (.l x)):=by unfold m5;rw[Oe (by simpa using hk2),MS,hs];simp[hi,FP]
  rw[hc,Oe ↥0]at this;rw[Oe ↥0];exact this
 unfold ig;rw[h1];simp only[MH,List.all_nil,if_true,h3];have hb:jc cp (cs++t') e1=true:=by unfold jc;rw[ML];intro p hp;match hi:e1[p.1]? with|none=>simp[wV]|some none=>simp[wV]|some (some (.d x))=>simp[wV]|some (some (.n x))=>simp[wV]|some (some (.l x))=>cases hq:lq cp p.1 with|none=>unfold lq at hq;rw[QD]at hq;have:=hq p hp;simp at this|some k=>simp[key p.1 x hi k hq,wV]
 rw[if_pos hb];congr 2;refine Pc λi=>?_;rw[bU];match hi:e1[i]? with|none=>rfl|some none=>rfl|some (some (.d x))=>rfl|some (some (.n x))=>rfl|some (some (.l x))=>cases hp:lq cp i with|none=>simp[hp]|some k=>simp[hp,key i x hi k hp]
theorem i8{α:Type}{xs:List α}{i:Int}(h0:0<=i)(h1:i<xs.length):∃x∈xs,atI xs i=some x:=by rw[i9 h0 h1];exact⟨xs[i.toNat]'↥0,Qz _,My _⟩
theorem mU{e:En}{xs:List LS}{i:Int}:cK e (.l xs) (.d (.int i))=(atI xs i).map .d:=rfl
theorem eA{e:En}{xs:List LS}{i:Int}:cK e (.d (.tuple xs)) (.d (.int i))=(atI xs i).map .d:=rfl
theorem jg{e:En}{xs:List LS}{i:Int}:cK e (.d (.list xs)) (.d (.int i))=(atI xs i).map .d:=rfl
theorem mV{e:En}{j:Nat}{xs:List LS}{i:Int}(h:e[j]?=some (some (.l xs))):cK e (.s j) (.d (.int i))=(atI xs i).map .d:=by simp[cK,cV,h,bF]
theorem jj{e:En}{xs:List LS}:g1 gK e [.d (.tuple xs)]=some (.d (.int xs.length)):=rfl
theorem gw{e:En}{xs:List LS}:g1 gK e [.d (.list xs)]=some (.d (.int xs.length)):=rfl
theorem jh{e:En}{xs:List LS}:g1 gK e [.l xs]=some (.d (.int xs.length)):=rfl
theorem ji{e:En}{j:Nat}{xs:List LS}(h:e[j]?=some (some (.l xs))):g1 gK e [.s j]=some (.d (.int xs.length)):=by simp[g1,gK,cV,h]
theorem eG{e:En}{j:Nat}{xs:List LS}(h:e[j]?=some (some (.l xs))):g1 bN e [.s j]=some (.d (.tuple xs)):=by simp[g1,bN,cV,h]
theorem eF{e:En}{xs:List LS}:g1 bN e [.l xs]=some (.d (.tuple xs)):=rfl
theorem dy{e:En}{xs:List LS}:g1 bN e [.d (.list xs)]=some (.d (.tuple xs)):=rfl
theorem eH{e:En}{xs:List LS}:g1 bN e [.d (.tuple xs)]=some (.d (.tuple xs)):=rfl
theorem j3{e:En}{xs:List LS}{lo hi:Option Int}:Ft e (.d (.tuple xs)) lo hi=some (.d (.tuple (cutD xs lo hi))):=rfl
theorem lZ{e:En}{xs ys:List LS}(h:xs.length+ys.length<=1000000):cQ e (.d (.tuple xs)) (.d (.tuple ys))=some (.d (.tuple (xs++ys))):=by simp[cQ,AS,CF,gI,bF,vI,cV,h]
theorem yy{e:En}{i j:Int}(h:j≠0):a7 e (.d (.int i)) (.d (.int j))=some (.d (.int (i.fmod j))):=by unfold a7;rw[l4 (by simpa using h)]
theorem vJ{e:En}{i j:Int}(h:j≠0)(h2:Bt 8000 j):er e (.d (.int i)) (.d (.int j))=some (.d (.int (i.fdiv j))):=by unfold er;rw[l4 (by simp[iA.mpr h2,h])]
theorem kR{e:En}{i j:Int}(h:zD i j=true):uD e (.d (.int i)) (.d (.int j))=some (.d (.int (i^j.toNat))):=by unfold uD;rw[l4 h]
theorem ly:zD 10 18=true:=by decide
theorem jU{f g:FS}{e e1:En}(h:f e=some (.nx e1)):aE f g e=g e1:=by unfold aE;rw[h];rfl
theorem GA{ft:FT}{f g:FS}{e e1:En}(h:ft e=some (true,e1)):i0 ft f g e=f e1:=by unfold i0;rw[h];rfl
theorem Gz{ft:FT}{f g:FS}{e e1:En}(h:ft e=some (false,e1)):i0 ft f g e=g e1:=by unfold i0;rw[h];rfl
def CN(i:Nat)(e:En):Nat:=match e[i]? with|some (some (.l xs))=>xs.length|_=>0
def qc(i:Nat)(e:En):Nat:=match e[i]? with|some (some (.d (.int k)))=>k.natAbs|_=>0
theorem rC{n m:Nat}(h:n<2^m)(hm:m<=4200):n<2^4200:=MW h (PP ⋯ hm)
theorem i7{α:Type}{a:α}{r:List α}:atI (a::r) 0=some a:=by rw[i9 ⋯ ↥1];rfl
theorem eS{α:Type}{a b:α}{r:List α}:atI (a::b::r) 1=some b:=by rw[i9 ⋯ ↥7];rfl
theorem iu{α:Type}{a b c:α}{r:List α}:atI (a::b::c::r) 2=some c:=by rw[i9 ⋯ ↥7];rfl
theorem ix{α:Type}{a b c d:α}{r:List α}:atI (a::b::c::d::r) 3=some d:=by rw[i9 ⋯ ↥7];rfl
theorem gP{W:aN}{k:Int}(h:gG W k):atI (W.ties.map b7) k=some (b7 (W.tie k)):=by rw[i9 h.1 (by rw[Mn];exact h.2),MS,h.get];rfl
theorem sx{ns:List Int}{k:Int}(h0:0<=k)(h1:k<(ns.length:Int)):atI (ns.map PyData.int) k=some (.int (ns.getD k.toNat 0)):=by
 rw[i9 h0 (by rw[Mn];exact h1),MS];have:k.toNat<ns.length:=by lia
 simp[this]
theorem mI{a b c d:LS}:cutD [a,b,c,d] none (some 2)=[a,b]:=rfl
theorem dq{a b c d:LS}:cutD [a,b,c,d] (some 2) none=[c,d]:=rfl
theorem dm{a b c:LS}:cutD [a,b,c] (some 1) none=[b,c]:=rfl
theorem sE(ns:List Int):Na (ns.map PyData.int)=true:=by induction ns with|nil=>rfl|cons n r ih=>simp[Na,MM,ih]
theorem sv{x:Int}:∀(ns:List Int),((ns.map PyData.int).any λy=>Nb y (.int x))=ns.contains x|[]=>rfl|n::r=>by rw[Mp,List.any_cons,sv r,List.contains_cons];show(n==x||_)=_;rw[show(n==x)=(x==n) by rw[Qy];simp;exact eq_comm]
theorem dH{e:En}{x:Int}{ns:List Int}{neg:Bool}:wN neg e (.d (.int x)) (.d (.tuple (ns.map .int)))=some (.d (.bool (if neg then !ns.contains x else ns.contains x))):=by unfold wN;simp only[jd,cV,MH,sE,sv];simp[MM,MT]
theorem gu{e:En}{x a b:Int}{neg:Bool}:wN neg e (.d (.int x)) (.d (.tuple [.int a,.int b]))=some (.d (.bool (if neg then !(a==x||b==x) else(a==x||b==x)))):=by
 have h:=dH (e:=e) (x:=x) (ns:=[a,b]) (neg:=neg);simp only[Mp,MG]at h;rw[h];have:[a,b].contains x=(a==x||b==x):=by simp only[List.contains_cons,List.contains_nil,Bool.or_false];rw[show(x==a)=(a==x) by rw[Qy];simp;exact eq_comm,show(x==b)=(b==x) by rw[Qy];simp;exact eq_comm]
 rw[this]
def Aw(p:Int->Bool):LS->Bool|.int k=>p k|_=>false
theorem dC(W:aN):ay W=.tuple [.int W.things,.tuple (W.ties.map b7),.tuple (W.pat.map .int),.int W.asks]:=rfl
def Sh(n:Nat)(d:LS):Prop:=d.canLay0=true/\d.depth<=n
theorem Sh.mono{n m:Nat}{d:LS}(h:Sh n d)(l:n<=m):Sh m d:=⟨h.1,Mv h.2 l⟩
theorem Sh.ok{n:Nat}{d:LS}(h:Sh n d)(l:n<=64):Nr d=true:=by unfold Nr;rw[h.1,decide_eq_true (Mv h.2 l)];rfl
theorem Sh.int{k:Int}:Sh 2 (.int k):=⟨by simp[MM],by simp[MT]⟩
theorem Sh.all{n:Nat}:∀{ds:List LS},(∀d∈ds,Sh n d)->Na ds=true/\Ni ds<=n|[],_=>⟨rfl,by simp[Ni]⟩|d::r,h=>by obtain⟨a1,a2⟩:=h d ↥1;obtain⟨b1,b2⟩:=Sh.all (ds:=r) λx hx=>h x (by simp[hx]);exact⟨by simp[Na,a1,b1],by simp only[Ni];lia⟩
theorem Sh.tup{n:Nat}{ds:List LS}(h:∀d∈ds,Sh n d):Sh (n+2) (.tuple ds):=by obtain⟨b1,b2⟩:=Sh.all h;exact⟨by simp[MM,b1],by simp only[MT];lia⟩
theorem Sh.ints{ns:List Int}:Sh 4 (.tuple (ns.map .int)):=Sh.tup (n:=2) λd hd=>by obtain⟨k,_,rfl⟩:=LM hd;exact Sh.int
theorem Sh.tie{t:lV}:Sh 6 (b7 t):=Sh.tup (n:=4) λd hd=>by
 simp only[Nc,Nx,or_false]at hd;rcases hd with rfl|rfl|rfl|rfl;·exact Sh.int.mono ⋯
 ·exact Sh.int.mono ⋯
 ·exact Sh.ints (ns:=[t.top,t.bot])
 ·exact Sh.int.mono ⋯
theorem Sh.web{W:aN}:Sh 10 (ay W):=Sh.tup (n:=8) λd hd=>by
 simp only[Nc,Nx,or_false]at hd;rcases hd with rfl|rfl|rfl|rfl;·exact Sh.int.mono ⋯
 ·exact Sh.tup (n:=6) λd hd=>by obtain⟨k,_,rfl⟩:=LM hd;exact Sh.tie
 ·exact Sh.ints.mono ⋯
 ·exact Sh.int.mono ⋯
mutual
theorem sP:∀{d:LS},d.canLay0=true->dG d=true->Nb d d=true|.none,_,_=>by simp[Nb]|.bool b,_,_=>by simp[Nb]|.int i,_,_=>by simp[Nb]|.str x,_,_=>by simp[Nb]|.tuple ds,h,f=>by simp only[Nb];exact mJ (by simpa[MM]using h) (by simpa[dG]using f)|.list ds,h,f=>by simp[dG]at f|.dict _,h,f=>by simp[dG]at f
theorem mJ:∀{ds:List LS},Na ds=true->cw ds=true->Oj ds ds=true|[],_,_=>by simp[Oj]|d::r,h,f=>by simp only[Na,MC]at h;simp only[cw,MC]at f;simp only[Oj,sP h.1 f.1,mJ h.2 f.2,OL]
end
theorem oF:∀(n:Nat) (l:List Int),l.Nodup->(∀k∈l,0<=k/\k<(n:Int))->l.length<=n
 |0,l,_,h=>by cases l with|nil=>simp|cons a r=>have:=h a ↥1;lia
 |n+1,l,hd,h=>by
  have ih:=oF n (l.erase (n:Int)) (hd.erase _) λk hk=>by obtain⟨h1,h2⟩:=hd.mem_erase_iff.mp hk;have:=h k h2;lia
  by_cases c:(n:Int)∈l;·rw[List.length_erase_of_mem c]at ih;lia
  ·rw[List.erase_of_not_mem c]at ih;lia
abbrev Std:=List Int×List Int
structure j9 (W:aN) (s:Std):Prop where
 inw:∀k∈s.1,gG W k
 nd:s.1.Nodup
 tk:s.2.length<=2*s.1.length
 th:∀t∈s.2,0<=t/\t<W.things
def nxt(W:aN)(s:Std)(k:Int)(b:Bool):Std:=(aN.askd s.1 k,W.took s.2 k b)
theorem j9.len{W:aN}{s:Std}(h:j9 W s):s.1.length<=W.ties.length:=oF _ _ h.nd λk hk=>h.inw k hk
theorem j9.first(W:aN):j9 W ([],[]):=⟨λk h=>(by cases h),List.nodup_nil,MU _,λk h=>(by cases h)⟩
theorem xX{a:List Int}{k:Int}:(aN.askd a k).length=a.length+1:=by unfold aN.askd;rw[qr];simp
theorem j9.nxt{W:aN}{s:Std}{k:Int}(b:Bool)(ok:W.Ok)(h:j9 W s)(hk:gG W k)(hn:k∉s.1):j9 W (nxt W s k b):=by
 refine⟨λj hj=>?_,?_,?_,?_⟩
 ·have:=qs.mp hj;rcases LK this with z|z;·exact h.inw j z
  ·simp at z;rw[z];exact hk
 ·refine(ko _).nodup_iff.mpr ?_;rw[List.nodup_append];refine⟨h.nd,by simp,λa ha b hb=>?_⟩;simp at hb;rintro rfl;exact hn (hb▸ha)
 ·have:=h.tk;show(W.took s.2 k b).length<=2*(aN.askd s.1 k).length;rw[xX];unfold aN.took;split;·rw[qr];simp;lia
  ·lia
 ·intro t ht;have o:=hk.ok ok;have:=o.o0;have:=o.o1;have:=o.o2;change t∈W.took s.2 k b at ht;unfold aN.took at ht;split at ht
  ·rcases LK (qs.mp ht) with z|z;·exact h.th t z
   ·simp at z;rcases z with rfl|rfl<;>lia
  ·exact h.th t ht
structure Nd where
 tie:Int
 yes:Int
 no:Int
def E_(W:aN)(n:Nat)(S:Nat->Std)(i:Nat)(k:Int)(b:Bool)(l:Int):Prop:=l=-1\/(0<=l/\l<(n:Int)/\S l.toNat=nxt W (S i) k b)
structure Hh (W:aN) (n:Nat) (S:Nat->Std) (i:Nat) (x:Nd):Prop where
 tie:gG W x.tie
 st:j9 W (S i)may:W.may (S i).1 (S i).2 x.tie=true
 yes:E_ W n S i x.tie true x.yes
 no:E_ W n S i x.tie false x.no
def Hm(W:aN)(T:List Nd)(S:Nat->Std):Prop:=∀(i:Nat) (x:Nd),T[i]?=some x->Hh W T.length S i x
structure Wt where
 st:Std
 par:Int
 side:Int
structure IB (W:aN) (T:List Nd) (S:Nat->Std) (ws:List Wt):Prop where
 tr:Hm W T S
 wt:∀w∈ws,j9 W w.st/\(w.par=-1\/∃(p:Nat) (x:Nd),w.par=(p:Int)/\T[p]?=some x/\((w.side=0/\w.st=L2.nxt W (S p) x.tie true)\/(w.side=1/\w.st=L2.nxt W (S p) x.tie false)))side:∀w∈ws,w.side=0\/w.side=1
theorem z0{W:List Nat}{fi:FI}{g:FG}{f:FS}{e e1:En}{items:List LS}{own:jY}(h:fi e=some (items,own,e1))(ho:(own.all λq=>!W.contains q.1)=true):eN W fi g f e=kc own g f items e1:=by unfold eN;rw[h];simp only[MH,ho,if_true]
theorem wB{α:Type}{xs:List α}{x:α}:atI (xs++[x]) (-1)=some x:=by unfold atI E5;rw[if_neg ⋯,if_pos ↥7];simp;rw[show(-1+((xs.length:Int)+1)).toNat=xs.length by lia];simp
def nm(nums:List Int)(l:Int):Int:=(atI nums l).getD (-1)
structure Ic (order:List Int) (n:Nat) (nums:List Int):Prop where
 len:nums.length=n+1
 top:nums[n]?=some (-1)at':∀(j:Nat) (v:Int),j<n->nums[j]?=some v->v=-1\/∃p:Nat,v=(p:Int)/\order[p]?=some (j:Int)
def y4(T:List Nd)(w:Int):Nd:=T.getD w.toNat ⟨0,0,0⟩
theorem lY{α β:Type}{f:α->β}:∀{xs:List α}{i:Nat},(xs.map f).eraseIdx i=(xs.eraseIdx i).map f|[],_=>by simp|x::r,0=>by simp|x::r,i+1=>by simp[lY (xs:=r) (i:=i)]
structure IL (S:Nat->Std) (n:Nat) (ss:List Std):Prop where
 len:ss.length=n
 at':∀(j:Nat) (s:Std),ss[j]?=some s->s.1.length<=(S j).1.length/\s.2.length<=2*s.1.length/\(∀k∈s.1,0<=k/\k<16)/\∀t∈s.2,0<=t/\t<12
theorem jB(s:String):Nk (Nv s)=true:=by rw[Str.ofString_eq_toList];unfold Nk;simp only[Mx,Mn];rw[show(OM Char.toNat s.toList).toArray.all (λa=>decide (a<1114112)) 0 s.toList.length=(OM Char.toNat s.toList).all (λa=>decide (a<1114112)) by simp];rw[List.all_map,ML];intro c _;show decide (c.toNat<1114112)=true;rw[decide_eq_true_eq];have:=c.valid;unfold UInt32.isValidChar Nat.isValidChar at this;show c.val.toNat<_;lia
theorem jW{a b:Str}(h1:Nk a=true)(h2:Nk b=true):Nk (a++b)=true:=by unfold Nk at*;rw[show(a++b).cps=a.cps++b.cps from rfl];simp only[Array.all_append,h1,h2,OL]
theorem o8{sep:Str}(h:Nk sep=true):∀(ts:List Str),(∀t∈ts,Nk t=true)->Nk (Str.join sep ts)=true|[],_=>by show Nk Oz=true;simp[Nk,Oz]|[x],hx=>hx x ↥1|x::y::r,hx=>jW (jW (hx x ↥1) h) (o8 h (y::r) λt ht=>hx t (by simp at ht⊢;exact .inr ht))
theorem xF{ts:List Str}(h:∀t∈ts,Nk t=true):Nk (tupleText ts)=true:=by unfold tupleText;exact jW (jW (jB _) (o8 (jB _) ts h)) (jB _)
structure Sz (n dep:Nat) (d:LS):Prop where
 fl:dG d=true
 sh:d.showable=true
 dp:d.depth<=dep
 ln:d.shown.length<=n
 so:Nk d.shown=true
theorem Sz.mono{n m dep e:Nat}{d:LS}(h:Sz n dep d)(h1:n<=m)(h2:dep<=e):Sz m e d:=⟨h.fl,h.sh,Mv h.dp h2,Mv h.ln h1,h.so⟩
theorem Sz.int{k:Int}(h0:0<=k)(h1:k<16):Sz 2 2 (.int k):=by
 have:k=0\/k=1\/k=2\/k=3\/k=4\/k=5\/k=6\/k=7\/k=8\/k=9\/k=10\/k=11\/k=12\/k=13\/k=14\/k=15:=by lia
 rcases this with rfl|rfl|rfl|rfl|rfl|rfl|rfl|rfl|rfl|rfl|rfl|rfl|rfl|rfl|rfl|rfl<;>exact⟨rfl,by decide,by simp[MT],by decide,jB _⟩
theorem Sz.all{n dep:Nat}:∀{ds:List LS},(∀d∈ds,Sz n dep d)->cw ds=true/\Pn ds=true/\Ni ds<=dep/\piled (Of ds)<=ds.length*(n+2)/\∀t∈Of ds,Nk t=true
 |[],_=>⟨rfl,rfl,by simp[Ni],by simp[Of,piled],by simp[Of]⟩|d::r,h=>by
  obtain⟨a1,a2,a3,a4,a5⟩:=h d ↥1;obtain⟨b1,b2,b3,b4,b5⟩:=Sz.all (ds:=r) λx hx=>h x (by simp[hx]);refine⟨?_,?_,?_,?_,?_⟩;·simp only[cw,a1,b1,OL]
  ·simp only[Pn,a2,b2,OL]
  ·simp only[Ni];lia
  ·simp only[Of,oK,Nj,Nat.succ_mul];lia
  ·intro t ht;simp only[Of,Nc]at ht;rcases ht with rfl|ht;·exact a5
   ·exact b5 t ht
theorem Sz.tup{n dep m:Nat}{ds:List LS}(h:∀d∈ds,Sz n dep d)(hl:ds.length<=m):Sz (m*(n+2)+3) (dep+2) (.tuple ds):=by obtain⟨b1,b2,b3,b4,b5⟩:=Sz.all h;refine⟨by simpa[dG]using b1,b2,by simp only[MT];lia,?_,by simp only[PyData.shown];exact xF b5⟩;have h2:=qy (Of ds);have:=Nat.mul_le_mul_right (n+2) hl;simp only[PyData.shown];lia
theorem Sz.ok{n dep:Nat}{d:LS}(h:Sz n dep d)(h1:n<=16777216)(h2:dep<=60):lO d=true:=by have sl:Mi=16777216:=MO;unfold lO;rw[h.fl,h.sh,decide_eq_true (Mv h.dp h2),decide_eq_true (show d.shown.length<=Mi by rw[sl];exact Mv h.ln h1)];rfl
theorem Sz.ints{ns:List Int}{m:Nat}(hl:ns.length<=m)(h:∀r∈ns,0<=r/\r<16):Sz (m*4+3) 4 (.tuple (ns.map .int)):=Sz.tup (n:=2) (dep:=2) (λd hd=>by obtain⟨x,hx,rfl⟩:=LM hd;exact Sz.int (h x hx).1 (h x hx).2) (by rw[Mn];exact hl)
theorem AU{e:En}{d:LS}(h:lO d=true):g1 mW e [.d d]=some (.d (.str d.shown)):=by simp[g1,mW,h]
theorem AQ{e:En}{s:Str}(h:Nk s=true):cS false e (.d (.str s)) (.d (.str s))=some (.d (.bool true)):=by simp[cS,jd,Nr,MM,MT,Nb,h]
theorem yw{e:En}{d:LS}{n:Nat}(h:Sh n d)(hn:n<=64)(hf:dG d=true):cS true e (.d d) (.d d)=some (.d (.bool false)):=by unfold cS;simp only[jd,MH,h.ok hn,OL,if_true,sP h.1 hf];rfl
theorem oh{ns:List Int}:cw (ns.map PyData.int)=true:=by induction ns with|nil=>rfl|cons a r ih=>simp[cw,dG,ih]
theorem yr{W:aN}:dG (ay W)=true:=by
 have:cw (W.ties.map b7)=true:=by induction W.ties with|nil=>rfl|cons a r ih=>simp[cw,dG,b7,ih]
 simp[ay,dG,cw,this,oh]
theorem Dx{e:En}{d:LS}{n:Int}(h0:0<=n)(h1:n<=100000):fJ e (.d (.tuple [d])) (.d (.int n))=some (.d (.tuple (Mh n.toNat d))):=by
 have a:sU e (.d (.tuple [d])) (.d (.int n))=some (.d (.tuple (Mh n.toNat d))):=by simp[sU,cV,bF,h0,h1]
 have b:sT e (.d (.tuple [d])) (.d (.int n))=none:=by simp[sT,gI,bF]
 unfold fJ AS;rw[b,a];rfl
def rn(T:List Nd)(ans:List Bool):Nat->Int->List (Int×Bool)|0,_=>[]|f+1,at'=>if at'<0 then[]else((y4 T at').tie,ans.getD (y4 T at').tie.toNat false)::rn T ans f (if ans.getD (y4 T at').tie.toNat false=true then(y4 T at').yes else(y4 T at').no)
def rt(T:List Nd):Int:=if T.length=0 then-1 else 0
structure Ih (W:aN) (T:List Nd) (S:Nat->Std) (ans:List Bool) (r:List (Int×Bool)) (a:Int):Prop where
 at':a=-1\/(0<=a/\a<(T.length:Int)/\r.length<=(S a.toNat).1.length)eq:r++rn T ans (17-r.length) a=rn T ans 17 (rt T)len:r.length<=16
 inw:∀p∈r,gG W p.1
abbrev Fr:=Int×Int
def dF(f:Fr):LS:=.tuple [.int f.1,.int f.2]
def tm(a b:Fr):Fr:=lowM (a.1*b.1) (a.2*b.2)
def pl(a b:Fr):Fr:=lowM (a.1*b.2+b.1*a.2) (a.2*b.2)
theorem rA{t b:Int}(hb:0<b)(ht:0<=t):∃d:Int,0<d/\(lowM t b).1*d=t/\(lowM t b).2*d=b/\0<(lowM t b).2/\0<=(lowM t b).1:=by
 obtain⟨d,h1,h2,h3,h4,h5⟩:=jO (t:=t) (b:=b) ↥0;have d0:0<d:=by
  rcases Int.lt_trichotomy d 0 with z|z|z;·have:=Int.mul_neg_of_pos_of_neg h5 z;lia
  ·exact absurd z h2
  ·exact z
 refine⟨d,d0,h3,h4,h5,?_⟩;rcases Int.lt_or_le (lowM t b).1 0 with z|z;·have:=Int.mul_neg_of_neg_of_pos z d0;lia
 ·exact z
theorem A_{t b i:Int}(hb:0<b)(ht:0<=t)(h:t<=i*b):(lowM t b).1<=i*(lowM t b).2:=by obtain⟨d,d0,h3,h4,h5,h6⟩:=rA hb ht;refine Int.le_of_mul_le_mul_right (a:=d) ?_ d0;rw[h3,Int.mul_assoc,h4];exact h
theorem yV{t b:Int}(hb:0<b)(ht:0<=t):(lowM t b).2∣b:=by obtain⟨d,d0,h3,h4,h5,h6⟩:=rA hb ht;exact⟨d,h4.symm⟩
structure xQ (M:Int) (f:Fr):Prop where
 pos:0<f.2
 lo:0<=f.1
 hi:f.1<=f.2
 dv:f.2∣M
theorem xQ.tm{M N:Int}{a b:Fr}(h:xQ M a)(k:xQ N b):xQ (M*N) (tm a b):=by have p:0<a.2*b.2:=Pp h.pos k.pos;have t:0<=a.1*b.1:=Int.mul_nonneg h.lo k.lo;obtain⟨d,d0,h3,h4,h5,h6⟩:=rA p t;refine⟨h5,h6,?_,Int.dvd_trans (yV p t) (Int.mul_dvd_mul h.dv k.dv)⟩;have:=A_ (i:=1) p t (by rw[Int.one_mul];exact Int.mul_le_mul h.hi k.hi k.lo (Int.le_of_lt h.pos));rw[Int.one_mul]at this;exact this
structure G0 (M i:Int) (f:Fr):Prop where
 pos:0<f.2
 lo:0<=f.1
 hi:f.1<=i*f.2
 dv:f.2∣M
theorem xQ.bt{M:Int}{f:Fr}{n:Nat}(h:xQ M f)(hM:Bt n M)(h0:0<M):Bt n f.1/\Bt n f.2:=by have l:=Int.le_of_dvd h0 h.dv;have:=h.pos;have:=h.lo;have:=h.hi;exact⟨hM.of_le ↥0,hM.of_le ↥0⟩
def bp(W:aN):List Int->Int|[]=>1|k::r=>(W.tie k).bot*bp W r
def Fk(W:aN):Int:=bp W W.rng
def ch(W:aN)(k:Int)(b:Bool):Fr:=if b then((W.tie k).top,(W.tie k).bot) else((W.tie k).bot-(W.tie k).top,(W.tie k).bot)
theorem yW{t b:Int}(hb:0<b)(hg:Mm t b=1):lowM (b-t) b=(b-t,b):=by
 have g:Mm (b-t) b=1:=by rw[show b-t=-(t-b) by lia,Int.neg_gcd,Int.gcd_sub_self_left,hg]
 unfold lowM;rw[if_neg ↥0,g];simp
structure IK (W:aN) (S:Nat->Std) (n:Nat) (rs:List Fr):Prop where
 len:rs.length=n
 at':∀(j:Nat) (f:Fr),rs[j]?=some f->xQ (bp W (S j).1) f
structure IC (W:aN) (i:Nat) (ss:List Fr):Prop where
 len:ss.length=W.ties.length
 at':∀(j:Nat) (f:Fr),ss[j]?=some f->G0 (Fk W) (i:Int) f
theorem Sz.intB{n:Nat}{k:Int}(h:Bt n k)(h0:0<n)(hn:n<=1900):Sz (n+1) 2 (.int k):=by
 have l:=h.log h0;refine⟨rfl,?_,by simp[MT],?_,jB _⟩;·show decide (k.natAbs.log2<1920)=true;rw[decide_eq_true_eq];lia
 ·have:=int_text_length_le h0 l;show(Nv (toString k)).length<=n+1;rw[PySem.ofString_length];exact this
theorem Sz.fr{n:Nat}{f:Fr}(h1:Bt n f.1)(h2:Bt n f.2)(h0:0<n)(hn:n<=1900):Sz (2*(n+3)+3) 4 (dF f):=Sz.tup (n:=n+1) (dep:=2) (m:=2) (λd hd=>by
 simp only[Nc,Nx,or_false]at hd;rcases hd with rfl|rfl;·exact Sz.intB h1 h0 hn
 ·exact Sz.intB h2 h0 hn) ↥1
def EW(sc:Mr)(x:Str):Bool:=match sc.names.lookup x with|some .local=>true|some .cell=>true|some .free=>true|_=>false
theorem Cf{sc:Mr}{x:Str}(h:EW sc x=true):E1 sc x:=by
 unfold EW at h;unfold E1;split at h;·rename_i e;exact .inl e
 ·rename_i e;exact .inr (.inl e)
 ·rename_i e;exact .inr (.inr e)
 ·cases h
section
variable{X:Cx}{K:⇑0}
theorem qw(i:Nat){x:Str}{pos:Pos}(hN:X.N[i]?=some x)(hv:EW X.env.scope x=true)(hd:((x==("__debug__":Str))||(x==("__classdict__":Str)))=false):PE X (.Name x pos) (fE K (af i)):=qv i hN (Cf hv) (Rf.mp hd).1 (Rf.mp hd).2
end
section
variable{X:Cx}{tg a b c:LU}{ta:TA}{p pos p2 pos2:Pos}
end
section
variable{K:⇑0}{σ:L2.St}
end
section
variable{X:Cx}{K:⇑0}{tg a b c:LU}{fs:FA}{pos p p2 pos2:Pos}
end
section
variable(P:Mc)(w:LV)
end
section
variable{P:Mc}{w:LV}{H H':Hp}{h h':LZ}{a:LQ}{o:HO}
end
section
variable{P:Mc}{w:LV}{H:Hp}{h h':LZ}{x e:LQ}{o':HO}
end
section
variable{fs fs' ex ex':List LQ}{H H1 H2:Hp}{h h1 h2 h':LZ}{a x e:LQ}{o:HO}
end
section
variable{X:Cx}{pins:List (LQ×Obj)}{σ:List (Option V)}{H H':Hp}{s:LR}{h':LZ}
end
section
variable{X:Cx}
variable{a b:LU}{ta tb:TE}{pos:Pos}
variable{tA tB':TT}{dc:List LU}
end
section
variable{X:Cx}{pins:List (LQ×Obj)}{σ:St}{H:Hp}{s:LR}{a:LQ}{xs ys:List V}
end
section
variable{X:Cx}{pins:List (LQ×Obj)}{σ:St}{H:Hp}{s:LR}{E:LP->LR->Prop}
end
section
variable{X:Cx}{st:Me}{dc:List Me}{t u:TS}{e:LU}{te:TE}{pos:Pos}
end
section
variable{X:Cx}{pos:Pos}
end
section
variable{X:Cx}{pos:Pos}
end
section
variable{X:Cx}{tg:LU}
end
section
variable{X:Cx}{a b c:LU}{ta tb tc:TE}{pos:Pos}
end
section
variable{X:Cx}{a b c:LU}{ta tb tc:TE}{pos:Pos}
end
section
variable{prog:Mc}{w:LV}{A:Md}{E:LP->LR->Prop}{s:LR}{K:⇑0}{x dx C f:LQ}{mA:Str->Option LP}{name:Str}{v:LP}
end
section
variable{P:Mc}{w:LV}{H H':Hp}{h h':LZ}{a C dx:LQ}{fs fs':List (Str×V)}
end
section
variable{X:Cx}{pins:List (LQ×Obj)}{σ:St}{H:Hp}{s:LR}{a C dx:LQ}{fs:List (Str×V)}{f:Str}{v:V}{A:Md}{E:LP->LR->Prop}
end
section
variable{X:Cx}{o e value:LU}{f:Str}{pos pos' tpos:Pos}{ta tv:TE}
end
section
variable{X:Cx}{pins:List (LQ×Obj)}{σ:St}{H:Hp}{s:LR}{A:Md}{E:LP->LR->Prop}{Q:LP->LR->Prop}{c:LP}{b:Bool}
end
section
variable{X:Cx}{e:LU}{es:List LU}{te:TE}{t:TA}{pos:Pos}
end
section
variable{X:Cx}{pins:List (LQ×Obj)}{σ:St}{H:Hp}{s s':LR}
end
section
variable{X:Cx}{CX:pk}{k:Nat}{f C:LQ}{fd:Mw}{ps:List Str}{sp:Sp}{dvs:List V}{ds:List LP}{E:XK}{x m:Str}{p pos apos:Pos}{e o:LU}{es:List LU}{ta:TE}{t:TA}
end
section
variable{X:Cx}{CX:pk}{k:Nat}{f C:LQ}{fd:Mw}{ps ks:List Str}{sp:Sp}{E:XK}{x m:Str}{p pos apos kpos:Pos}{e o:LU}{es:List LU}{kws:List NQ}{te ta:TE}{t tk:TA}{nm:Option Str}
variable{g:List LP->List LP->List LP}{gV:List V->List V->List V}
end
section
variable{X:Cx}{x:Str}{p pos:Pos}{e:LU}{es:List LU}{t:TA}{id T:String}{r:List V->Hp->VK->Prop}
end
section
variable{κ:Type}[DecidableEq κ]
def Gm(kvs:List (κ×V))(k:κ)(v:V):List (κ×V):=if (kvs.any λkv=>decide (kv.1=k))=true then kvs.map (λkv=>if kv.1=k then(kv.1,v) else kv) else kvs++[(k,v)]
end
section
variable{P:Mc}{w:LV}{H:Hp}{h:LZ}{a:LQ}
end
section
variable{X:Cx}{pins:List (LQ×Obj)}{σ:St}{H:Hp}{s:LR}{a:LQ}{y v:V}{u r:LP}{o:Option V}{A:Md}{E:LP->LR->Prop}
end
section
variable{X:Cx}{pins:List (LQ×Obj)}{σ:St}{H:Hp}{s:LR}{a:LQ}{kvs:List (j8×V)}{k:j8}{u:LP}{A:Md}{E:LP->LR->Prop}
end
section
variable{X:Cx}{o i e value:LU}{pos pos' tpos:Pos}{td ty tv:TE}
end
section
variable{X:Cx}{pos:Pos}
end
section
variable{X:Cx}{pins:List (LQ×Obj)}{σ:St}{H:Hp}{s:LR}{a:LQ}{y d:V}{u r:LP}{o:Option V}{A:Md}{E:LP->LR->Prop}
end
section
variable{X:Cx}{o e f:LU}{apos cpos:Pos}{td ty tx:TE}
end
section
variable{X:Cx}{pins:List (LQ×Obj)}{σ:St}{H:Hp}{s:LR}{a:LQ}{kvs:List (j8×V)}{A:Md}{E:LP->LR->Prop}
end
section
variable{X:Cx}{pins:List (LQ×Obj)}{σ:St}{H:Hp}{s:LR}{a:LQ}{y:V}{u:LP}{A:Md}{E:LP->LR->Prop}
end
end L2
namespace Att
open PySem PySem.W PySem.Calls PyProof.Rows
section
variable{prog:Mc}{w:LV}{A:Md}{E:LP->LR->Prop}{s:LR}{K:Frag}
end
end Att
namespace L2
open PySem PySem.Spec PyProof.Rows
section
variable{P:Mc}{w:LV}{K:⇑0}{mg:Str->Option LP}{base:LZ}
end
section
variable{X:Cx}
end
section
variable{κ:Type}[DecidableEq κ]
end
def IZ:LS->String|.none=>"NoneType"|.bool _=>"bool"|.int _=>"int"|.str _=>"str"|.tuple _=>"tuple"|.list _=>"list"|.dict _=>"dict"
def HM(t T:String):Bool:=t==T||(t=="bool"&&T=="int")
def Fz(T:String)(d:LS):Bool:=HM (IZ d) T
def Hs(T:String):En->Rv->Option Rv:=λ_ r=>match r with|.d x=>some (.d (.bool (Fz T x)))|_=>some (.d (.bool (Fz T (.list []))))
section
variable{X:Cx}{K:⇑0}{a:LU}{fa:FE}{pos p p2:Pos}
theorem zt{x:Str}{T:String}(hg:Gl X x)(hm:X.mg x=none)(hv:NL x=some (.type T))(hn:x≠"__name__")(hd:(x==("__debug__":Str))=false):PE X (.Name x pos) (tC (.ty T)):=λpins s σ H Q I h=>l_ I hg hm hv ⟨.ty T,H,I,rfl,h⟩ hn hd
end
section
variable{X:Cx}{K:⇑0}
def C8:FS:=λ_=>none
theorem BN{st:Me}:PS X st (fS K C8 []):=λpins s σ H D I h=>by obtain⟨F,e,fl,R,hf,_⟩:=h;cases hf
end
section
variable{X:Cx}{K:⇑0}{σ:L2.St}{F H:Hp}{e:En}{pos p1 p2:Pos}
end
section
variable{X:Cx}{K:⇑0}{a b c d:LU}{ta tb tc td:TE}{fa fb fc fd:FE}{pos:Pos}
end
section
variable{X:Cx}{K:⇑0}{a b:LU}{es:List LU}{fa fb:FE}{fs:FA}{pos p apos:Pos}
def qz:Rv->Option Str|.d (.str x)=>some x|_=>none
theorem pj{σ:L2.St}{H0 F H:Hp}{e:En}{r:Rv}{v:V}{x:Str}(h:cj K σ H0 F H e r v)(q:qz r=some x):v=.str x:=by
 unfold qz at q;split at q;·cases q;exact qW.mp (show DA K F (.str _) v from h)
 ·cases q
theorem zZ{σ:L2.St}{H0 F H:Hp}{e:En}{x:Str}:cj K σ H0 F H e (.d (.str x)) (.str x):=(show DA K F (.str x) (.str x) from qW.mpr rfl)
def q_:En->Rv->Option Rv:=λ_ x=>(bF x).bind λi=>if i.natAbs.log2<1900 then some (.d (.str (toString i:String))) else none
def HI:V->Hp->VK->Prop:=λv H Q=>∃i:Int,v=.int i/\i.natAbs.log2<1900/\Q (.str (toString i:String)) H
theorem Fq:Fe K HI q_:=by
 intro σ H0 F H e x z v Q R A hg q;unfold q_ at hg;obtain⟨i,h1,hg⟩:=LH hg;split at hg;case isFalse=>cases hg
 case isTrue hi=>cases hg;exact⟨i,ci A h1,hi,q F H _ (eP.refl _ _ _ _) R zZ⟩
theorem CY(ha:PE X a (fE K fa)):PE X (.FormattedValue a (-1) none pos) (fE K (ui q_ fa)):=λpins s σ H Q I h=>by have h1:=Ao Fq h;refine FormattedValue_plain (ck (ha pins s σ H _ I h1) λv s1⟨x,H1,I1,r1,i,e,hi,q1⟩=>?_);subst e;obtain⟨t,rfl⟩:=r1;exact formatField_int_small ↥0 ⟨.str _,H1,I1.tok _,⟨_,rfl⟩,q1⟩
def G8(fa fb fc:FE):FE:=λe=>(fa e).bind λp=>(qz p.1).bind λx=>(fb p.2).bind λq=>(qz q.1).bind λy=>(fc q.2).bind λr=>(qz r.1).bind λz=>if x.length+y.length+z.length<=1000000 then some (.d (.str (Oz++x++y++z)),r.2) else none
theorem oz(x y:Str):(x++y).length=x.length+y.length:=strLen_append x y
theorem HG{c:LU}{fc:FE}(ha:PE X a (fE K fa))(hb:PE X b (fE K fb))(hc:PE X c (fE K fc)):PE X (.JoinedStr [a,b,c] pos) (fE K (G8 fa fb fc)):=λpins s σ H Q I h=>by
 obtain⟨F,e,r,e',R,hf,q⟩:=h;unfold G8 at hf;obtain⟨⟨r1,e1⟩,g1,hf⟩:=LH hf;obtain⟨x,g2,hf⟩:=LH hf;obtain⟨⟨r2,e2⟩,g3,hf⟩:=LH hf;obtain⟨y,g4,hf⟩:=LH hf;obtain⟨⟨r3,e3⟩,g5,hf⟩:=LH hf;obtain⟨z,g6,hf⟩:=LH hf;split at hf;case isFalse=>cases hf
 case isTrue hl=>
 cases hf;have e0:(Oz).length=0:=rfl;have l1:(Oz++x).length=x.length:=by rw[oz,e0];lia
 have l2:(Oz++x++y).length=x.length+y.length:=by rw[oz,l1]
 have l3:(Oz++x++y++z).length=x.length+y.length+z.length:=by rw[oz,l2]
 refine JoinedStr_many (joinParts_cons (ck (ha pins s σ H (λv H1=>v=.str x/\∃F1,eP σ F H e F1 H1 e1/\aZ K F1 H1 σ e1) I ⟨F,e,r1,e1,R,g1,λF1 H1 v X1 R1 A1=>⟨pj A1 g2,F1,X1,R1⟩⟩) λv s1⟨xv,H1,I1,rv1,ex,F1,X1,R1⟩=>?_));subst ex;obtain⟨t1,rfl⟩:=rv1;refine⟨by rw[l1,MO];lia,joinParts_cons (ck (hb pins s1 σ H1 (λv H2=>v=.str y/\∃F2,eP σ F1 H1 e1 F2 H2 e2/\aZ K F2 H2 σ e2) I1 ⟨F1,e1,r2,e2,R1,g3,λF2 H2 v X2 R2 A2=>⟨pj A2 g4,F2,X2,R2⟩⟩) λv s2⟨yv,H2,I2,rv2,ey,F2,X2,R2⟩=>?_)⟩;subst ey;obtain⟨t2,rfl⟩:=rv2;refine⟨by rw[l2,MO];lia,joinParts_cons (ck (hc pins s2 σ H2 (λv H3=>v=.str z/\∃F3,eP σ F2 H2 e2 F3 H3 e3/\aZ K F3 H3 σ e3) I2 ⟨F2,e2,r3,e3,R2,g5,λF3 H3 v X3 R3 A3=>⟨pj A3 g6,F3,X3,R3⟩⟩) λv s3⟨zv,H3,I3,rv3,ez,F3,X3,R3⟩=>?_)⟩;subst ez;obtain⟨t3,rfl⟩:=rv3;refine⟨by rw[l3,MO];lia,joinParts_nil ⟨.str _,H3,I3.tok _,⟨_,rfl⟩,q F3 H3 _ ((X1.trans X2).trans X3) R3 zZ⟩ (by rw[l3,MO];lia)⟩
end
section
variable{X:Cx}{K:⇑0}{a b:LU}{fa fb:FE}{fs:FA}{pos p p2 p3:Pos}
end
def bq(W:aN)(as:List Int):Int:=bp W (W.rng.filter λk=>!as.contains k)
def wI(l:Nat):Int:=1000*(2^(16-l)-1)
structure Iu (W:aN) (k:Int) (as:List Int) (y n:Fr):Prop where
 y:G0 (bq W (aN.askd as k)) (wI (as.length+1)) y
 n:G0 (bq W (aN.askd as k)) (wI (as.length+1)) n
 len:as.length<=15
 inw:gG W k
 new:k∉as
def lk(ws:List Fr)(l:Int):Fr:=if l=-1 then(0,1) else ws.getD l.toNat (0,1)
structure IM (W:aN) (S:Nat->Std) (n:Nat) (ws:List Fr):Prop where
 len:ws.length=n
 at':∀(j:Nat) (f:Fr),ws[j]?=some f->G0 (bq W (S j).1) (wI (S j).1.length) f
def nS(n:Int):Str:=Nv (toString n)
theorem vO:∀n:Fin 1001,(Nv (toString ((n.val:Nat):Int))).length<=4:=by decide+kernel
theorem DR{n:Int}(h0:0<=n)(h1:n<=1000):n.natAbs.log2<1900:=by have:=Nat.log2_le_self n.natAbs;lia
theorem sS{e:En}{i:Int}(h0:0<=i)(h1:i<=1000):q_ e (.d (.int i))=some (.d (.str (nS i))):=by simp only[q_,bF,MH];rw[if_pos (DR h0 h1)];rfl
section
variable{X:Cx}{K:⇑0}{a:LU}{fa:FE}{pos p pos2 p2:Pos}
end
section
variable{X:Cx}{K:⇑0}{a:LU}{fa:FE}
end
abbrev Rn:=List (Int×Bool)
def AO(R:Rn):List Int:=R.map (·.1)
def Cz(W:aN)(R:Rn):List Int:=(R.filter (·.2)).flatMap λr=>[(W.tie r.1).one,(W.tie r.1).other]
structure IJ (W:aN) (R:Rn) (asked taken:List Int):Prop where
 pa:asked.Perm (AO R)pt:taken.Perm (Cz W R)inw:∀k∈AO R,gG W k
 nd:(AO R).Nodup
 nk:(Cz W R).Nodup
 bd:∀t:Int,0<=t->t<W.things->W.many (AO R) t<=W.pat.getD t.toNat 0
 ak:(R.length:Int)<=W.asks
 sa:asked.Pairwise (·<=·)st:taken.Pairwise (·<=·)
section
variable{prog:Mc}{w:LV}{A:Md}{R:Result->LR->Prop}
def kU(elt tg iter tg2 iter2:LU)(ifs ifs2:List LU)(scope:Mr)(pos:Pos)(acc:LP)(env:Env)(k:Sem OC):Sem OC:=do
 let x<-Ml iter2 env
 standAt iter2.pos let x<-NP iter2 env x let _<-runOwn (.compStart (.ListComp elt [⟨tg,iter,ifs,0⟩,⟨tg2,iter2,ifs2,0⟩] scope pos) 1 (<-holding [x] (pyIter x)) acc env) env
 k
theorem qT(elt tg iter tg2 iter2:LU)(ifs ifs2:List LU)(scope:Mr)(pos:Pos)(it acc:LP)(env:Env):compTurn (.ListComp elt [⟨tg,iter,ifs,0⟩,⟨tg2,iter2,ifs2,0⟩] scope pos) 0 it acc env=(do standAt iter.pos match<-pyNext it with
 |none=>pure (.done .next)|some v=>
  OU tg it v
  assign tg env v let mut ok:=true
  for c in ifs do if ok then ok<-isTrue c env (Ml c env)
  if ok then kU elt tg iter tg2 iter2 ifs ifs2 scope pos acc env (again (.compLoop (.ListComp elt [⟨tg,iter,ifs,0⟩,⟨tg2,iter2,ifs2,0⟩] scope pos) 0 it acc env))else again (.compLoop (.ListComp elt [⟨tg,iter,ifs,0⟩,⟨tg2,iter2,ifs2,0⟩] scope pos) 0 it acc env)):=by rfl
theorem sL(elt tg iter tg2 iter2:LU)(ifs ifs2:List LU)(scope:Mr)(pos:Pos)(it acc:LP)(env:Env):compTurn (.ListComp elt [⟨tg,iter,ifs,0⟩,⟨tg2,iter2,ifs2,0⟩] scope pos) 1 it acc env=(do standAt iter2.pos match<-pyNext it with
 |none=>pure (.done .next)|some v=>
  OU tg2 it v
  assign tg2 env v let mut ok:=true
  for c in ifs2 do if ok then ok<-isTrue c env (Ml c env)
  if ok then(do let _<-call (.builtin "list.append") [acc,<-Ml elt env])
  again (.compLoop (.ListComp elt [⟨tg,iter,ifs,0⟩,⟨tg2,iter2,ifs2,0⟩] scope pos) 1 it acc env)):=by rfl
def AJ(prog:Mc)(w:LV)(A:Md)(B:Sem OC->Sem OC)(tg:LU)(ifs:List LU)(env:Env)(it:LP)(onward:LR->Prop)(v:LP)(u:LR):Prop:=Ma (LY prog w) A (OU tg it v) (λ_ u1=>Ma (LY prog w) A (assign tg env v) (λ_ u2=>Ma (LY prog w) A (forIn ifs true λc r=>if r=true then do let ok<-isTrue c env (Ml c env);pure (OA ok) else pure (OA r)) (λok u3=>if ok=true then(∀(k:Sem OC) (Q:OC->LR->Prop) (E:LP->LR->Prop),(∀u5,onward u5->Ma (LY prog w) A k Q E u5)->Ma (LY prog w) A (B k) Q E u3) else onward u3) vQ u2) vQ u1) vQ u
theorem qR{elt tg iter tg2 iter2:LU}{ifs ifs2:List LU}{scope:Mr}{pos:Pos}{it acc:LP}{env:Env}(J:Nat->LR->Prop)(turn:∀n u,J n u->Ma (LY prog w) A (pyNext it) (λr u1=>(r=none->R (.ok .next) u1)/\∀v,r=some v->AJ prog w A (kU elt tg iter tg2 iter2 ifs ifs2 scope pos acc env) tg ifs env it (λu2=>∃m,m<n/\J m u2) v u1) vQ u){n0:Nat}{u0:LR}(dM:J n0 u0):ND (LY prog w) A (.compLoop (.ListComp elt [⟨tg,iter,ifs,0⟩,⟨tg2,iter2,ifs2,0⟩] scope pos) 0 it acc env) R u0:=by refine codeAny_loop rfl J (λn u ju=>?_) n0 dM;show Ma _ A ((compTurn (.ListComp elt [⟨tg,iter,ifs,0⟩,⟨tg2,iter2,ifs2,0⟩] scope pos) 0 it acc env).onRaise _) _ _ u;refine wpAny_noted ?_;rw[qT];refine Mb (OS (Mb (Ms (turn n u ju) (λr u1 k1=>?_) λ_ _ z=>z.elim)));cases r with|none=>exact Mj (k1.1 rfl)|some v=>refine Mb (Ms (k1.2 v rfl) (λ_ u2 k2=>Mb (Ms k2 (λ_ u3 k3=>Mb (Ms k3 (λok u4 k4=>?_) λ_ _ z=>z.elim)) λ_ _ z=>z.elim)) λ_ _ z=>z.elim);cases ok with|false=>rw[if_neg Oo]at k4;exact Mj ⟨rfl,k4⟩|true=>rw[if_pos rfl]at k4;exact k4 _ _ _ λu6 k6=>Mj ⟨rfl,k6⟩
theorem sJ{elt tg iter tg2 iter2:LU}{ifs ifs2:List LU}{scope:Mr}{pos:Pos}{it acc:LP}{env:Env}(J:Nat->LR->Prop)(turn:∀n u,J n u->Ma (LY prog w) A (pyNext it) (λr u1=>(r=none->R (.ok .next) u1)/\∀v,r=some v->yi prog w A elt tg2 ifs2 env it acc (λu2=>∃m,m<n/\J m u2) v u1) vQ u){n0:Nat}{u0:LR}(dM:J n0 u0):ND (LY prog w) A (.compLoop (.ListComp elt [⟨tg,iter,ifs,0⟩,⟨tg2,iter2,ifs2,0⟩] scope pos) 1 it acc env) R u0:=by refine codeAny_loop rfl J (λn u ju=>?_) n0 dM;show Ma _ A ((compTurn (.ListComp elt [⟨tg,iter,ifs,0⟩,⟨tg2,iter2,ifs2,0⟩] scope pos) 1 it acc env).onRaise _) _ _ u;refine wpAny_noted ?_;rw[sL];refine Mb (OS (Mb (Ms (turn n u ju) (λr u1 k1=>?_) λ_ _ z=>z.elim)));cases r with|none=>exact Mj (k1.1 rfl)|some v=>refine Mb (Ms (k1.2 v rfl) (λ_ u2 k2=>Mb (Ms k2 (λ_ u3 k3=>Mb (Ms k3 (λok u4 k4=>?_) λ_ _ z=>z.elim)) λ_ _ z=>z.elim)) λ_ _ z=>z.elim);cases ok with|false=>rw[if_neg Oo]at k4;exact Mj ⟨rfl,k4⟩|true=>rw[if_pos rfl]at k4;refine Mb (Mb (Ms k4 (λx u5 k5=>Mb (Ms k5 (λ_ u6 k6=>?_) λ_ _ z=>z.elim)) λ_ _ z=>z.elim));exact Mj (Mj ⟨rfl,k6⟩)
theorem qS{elt tg iter tg2 iter2:LU}{ifs ifs2:List LU}{scope:Mr}{pos:Pos}{it acc:LP}{env:Env}{s:LR}(h0:ND (LY prog w) A (.compLoop (.ListComp elt [⟨tg,iter,ifs,0⟩,⟨tg2,iter2,ifs2,0⟩] scope pos) 1 it acc env) R s)(h:Ma (LY prog w) A (pyIter it) (λit' s'=>ND (LY prog w) A (.compLoop (.ListComp elt [⟨tg,iter,ifs,0⟩,⟨tg2,iter2,ifs2,0⟩] scope pos) 1 it' acc env) R s') (notedBy (LY prog w) A env λx s'=>R (.error x) s') s):ND (LY prog w) A (.compStart (.ListComp elt [⟨tg,iter,ifs,0⟩,⟨tg2,iter2,ifs2,0⟩] scope pos) 1 it acc env) R s:=by
 refine codeAny_of_tree ?_;show Ma _ _ ((compStart (.ListComp elt [⟨tg,iter,ifs,0⟩,⟨tg2,iter2,ifs2,0⟩] scope pos) 1 it acc env).onRaise (λx=>do noteFrame x env;standAt theWindowsPlace)) _ _ s;refine wpAny_notedAt ?_;unfold compStart;show Ma _ _ (ask>>=_) _ _ s;refine Mb (wpAny_askSetting (wpAny_ite ?_));split;·first|exact Mb (Mj (Mj (And.intro rfl h0)))|exact Mj (And.intro rfl h0)
 ·first|exact Mb (NW (Mb (OS (Mb (Ms h (λit' s' h'=>Mj (And.intro rfl h')) λ_ _ x=>x)))))|(refine Mb (NW ?_);show Ma _ _ (standAt iter2.pos>>=_) _ _ s;exact Mb (OS (Mb (Ms h (λit' s' h'=>Mj (And.intro rfl h')) λ_ _ x=>x))))
end
def Ad(l:LQ)(wi:TI)(g:TG)(tc:TT)(te:TE)(σ:L2.St)(H:Hp)(N:L2.St->Hp->Prop):Prop:=wi σ H λJ H1=>∃W:Nat->Nat->L2.St->Hp->Prop,(∃m,W 0 m σ H1)/\∀i m σ' H',W i m σ' H'->(J.stop i H'/\N σ' H')\/(J.go i H'/\∃N2:L2.St->Hp->Prop,(∀σ2 H2,N2 σ2 H2->∃m',m'<m/\W (i+1) m' σ2 H2)/\∀x H2,J.yld i H' x H2->g x σ' H2 λσ2 H3=>tc σ2 H3 λb H4=>if b=true then te σ2 H4 λv H5=>∃ys,H5 l=some (.lst ys)/\ys.length<Mi/\N2 σ2 (bI H5 l (.lst (ys++[v]))) else N2 σ2 H4)
theorem yI{Y:Cx}{elt tg iter tg2 iter2:LU}{ifs ifs2:List LU}{scope:Mr}{pos:Pos}{wi:TI}{g:TG}{tc:TT}{te:TE}(hc:Y.calm=true)(hxe:Y.xe=vQ)(hi:PI Y tg2 iter2 wi)(hg:PG Y tg2 g)(ht:sr Y ifs2 tc)(he:PE Y elt te)(hs:∀x,NP iter2 Y.env x=pure x){pins:List (LQ×Obj)}{s:LR}{σ:L2.St}{H:Hp}{D:LQ}{N:L2.St->Hp->Prop}(I:aA Y pins σ H s)(h:Ad D wi g tc te σ H N)(k:Sem OC)(Q:OC->LR->Prop)(E:LP->LR->Prop)(hk:∀s',(∃σ' H',aA Y pins σ' H' s'/\N σ' H')->Ma (LY Y.prog Y.w) Y.A k Q E s'):Ma (LY Y.prog Y.w) Y.A (kU elt tg iter tg2 iter2 ifs ifs2 scope pos (.ref D) Y.env k) Q E s:=by
 unfold kU;have hi':=hi pins s σ H _ I h;rw[hxe]at hi';refine Mb (Ms hi' (λv s1 h1=>Mb (OS (Mb (wpAny_of_eq (hs v) (Mb (Pk (Ms h1 (λitv s2 h2=>?_) λ_ _ z=>z.elim))))))) λ_ _ z=>z.elim);obtain⟨it,fp,tn,J,H2,rfl,I2,T,st2,f2,W,⟨m0,w0⟩,turn⟩:=h2;have stat:∀{H':Hp},(∀b∈fp,H' b=none)->∀b∈fp,j7 Y pins H' b:=λhn b hb=>⟨hn b hb,(f2 b hb).2⟩;have loop:ND (LY Y.prog Y.w) Y.A (.compLoop (.ListComp elt [⟨tg,iter,ifs,0⟩,⟨tg2,iter2,ifs2,0⟩] scope pos) 1 (.ref it) (.ref D) Y.env) (λr s'=>match r with|.ok f=>Ma (LY Y.prog Y.w) Y.A k Q E s'|.error e=>cameBackBy (LY Y.prog Y.w) Y.A Y.env E e s') s2:=by
  refine sJ (λn s'=>∃i σ' H',aA Y pins σ' H' s'/\tn i s'.heap/\(∀b∈fp,H' b=none)/\W i n σ' H') ?_ (n0:=m0) ⟨0,σ,H2,I2,st2,λb hb=>(f2 b hb).1,w0⟩;rintro n s3⟨i,σ3,H3,I3,st3,fr3,w3⟩;rcases turn i n σ3 H3 w3 with⟨stop,qn⟩|⟨go,N2,hN,step⟩;·refine ck (T.done Y rfl rfl rfl hc i pins s3 σ3 H3 vQ I3 (stat fr3) st3 stop) λr s4⟨hr,I4⟩=>?_;subst hr;exact⟨λ_=>hk _ ⟨σ3,H3,I4,qn⟩,λv z=>by cases z⟩
  ·refine ck (T.item Y rfl rfl rfl hc i pins s3 σ3 H3 vQ I3 (stat fr3) st3 go) λr s4⟨u,hr,h4⟩=>?_;subst hr;refine⟨λz=>(by cases z),λv z=>?_⟩;cases z;refine ck h4 λ_ s5⟨x,H5,I5,r5,y5,st5,fr5⟩=>?_;have I5':=I5.pinned (stat fr5) (T.obj _ _ st5);have again:∀{σ8:L2.St}{H8:Hp}{s8:LR},aA Y (pins++kh fp s5.heap) σ8 H8 s8->N2 σ8 H8->∃m,m<n/\∃i σ' H',aA Y pins σ' H' s8/\tn i s8.heap/\(∀b∈fp,H' b=none)/\W i m σ' H':=fun{σ8 H8 s8}I8 n8=>by obtain⟨m',hm,w8⟩:=hN σ8 H8 n8;refine⟨m',hm,i+1,σ8,H8,I8.unpinned,T.keep _ _ _ st5 λb hb o e=>(I8.pin (b,o) (MR _ (MR _ (cA hb e)))).1,λb hb=>?_,w8⟩;obtain⟨o,e,d⟩:=T.obj _ _ st5 b hb;exact(I8.pin (b,o) (MR _ (MR _ (cA hb e)))).2.1
   have hg':=hg _ s5 σ3 H5 x u _ I5' r5 (step x H5 y5);rw[hxe]at hg';refine ck hg' λ_ s8⟨σ8,H8,I8,q8⟩=>?_;have ht':=ht _ s8 σ8 H8 _ I8 q8;rw[hxe]at ht';refine ck ht' λok s9⟨H9,I9,q9⟩=>?_;cases ok with|false=>rw[if_neg Oo]at q9⊢;exact again I9 q9|true=>rw[if_pos rfl]at q9⊢;have he':=he _ s9 σ8 H9 _ I9 q9;rw[hxe]at he';refine ck he' λv s10⟨xv,H10,I10,r10,ys,hl,hz,n10⟩=>?_;have ha:=me _ s10 σ8 H10 (.ref D) [xv] (.ref D) [v] (λ_ H=>N2 σ8 H) I10 rfl (.cons r10 .nil) ⟨D,ys,xv,rfl,rfl,hl,hz,n10⟩;rw[hxe]at ha;refine ck ha λ_ s11⟨_,H11,I11,_,q11⟩=>?_;exact again I11 q11
 exact Mb (wpAny_runOwn (qS loop (T.self Y.A 0 _ _ _ st2 loop)))
structure vd (cp:List (Nat×Str)) (nT:Nat) (wi:TI) (g:TG) (tc:TT) (wi2:TI) (g2:TG) (tc2:TT) (te:TE) (σ:L2.St) (H:Hp) (Q:VK):Prop where go:wi σ H λJ H1=>∀l,H1 l=none->∃W:Nat->Nat->L2.St->Hp->Prop,(∃m,W 0 m (e_ cp nT σ) (bI H1 l (.lst [])))/\∀i m σ' H',W i m σ' H'->(J.stop i H'/\Q (.ref l) H')\/(J.go i H'/\∃N:L2.St->Hp->Prop,(∀σ2 H2,N σ2 H2->∃m',m'<m/\W (i+1) m' σ2 H2)/\∀x H2,J.yld i H' x H2->g x σ' H2 λσ2 H3=>tc σ2 H3 λb H4=>if b=true then Ad l wi2 g2 tc2 te σ2 H4 N else N σ2 H4)
def iC(g:FG)(ft:FT)(fi2:FI)(g2:FG)(ft2:FT)(fe:FE):List LS->En->List LS->Option (List LS×En)|[],e,acc=>some (acc,e)|x::r,e,acc=>(g x e).bind λe1=>(ft e1).bind λb=>if b.1=true then(fi2 b.2).bind λp=>if p.2.1=[]then(dk g2 ft2 fe p.1 p.2.2 acc).bind λz=>iC g ft fi2 g2 ft2 fe r z.2 z.1 else none else iC g ft fi2 g2 ft2 fe r b.2 acc
def mz(cp:List (Nat×Str))(nT:Nat)(fi:FI)(g:FG)(ft:FT)(fi2:FI)(g2:FG)(ft2:FT)(fe:FE):FE:=λe=>(fi e).bind λp=>if (p.2.1.all λq=>!(cp.any λc=>c.1==q.1))=true then(iC g ft fi2 g2 ft2 fe p.1 (m5 cp nT p.2.2) []).bind λz=>if jc cp z.2 p.2.2=true then some (.l z.1,mx (lq cp) z.2 p.2.2) else none else none
section
variable{K:⇑0}{F H:Hp}{σ:L2.St}{e:En}{cp:List (Nat×Str)}{nT:Nat}
theorem xN{Q:VK}{fi fi2:FI}{g g2:FG}{W:List Nat}{ft ft2:FT}{fe:FE}(hn:(cp.map (·.1)).Nodup)(hW:∀j∈W,cp.length<=j)(h:fE K (mz cp nT fi g ft fi2 g2 ft2 fe) σ H Q):vd cp nT (fI K fi) (fG K g W) (fT K ft) (fI K fi2) (fG K g2 W) (fT K ft2) (fE K fe) σ H Q:=by
 obtain⟨F0,e0,z,e',R0,hf,q⟩:=h;unfold mz at hf;obtain⟨⟨items,own,e1⟩,h1,hf⟩:=LH hf;dsimp only at hf;split at hf;case isFalse=>cases hf
 case isTrue hO=>
 obtain⟨⟨out,eo⟩,h2,hf⟩:=LH hf;dsimp only at hf;split at hf;case isFalse=>cases hf
 case isTrue hB=>
 cases hf;refine⟨⟨F0,e0,items,own,e1,R0,h1,λJ F1 H1 X1 R1 kp ok=>?_⟩⟩;intro l hl;obtain⟨Ri,sub⟩:=R1.inn (nT:=nT) hn;have hFl:F1 l=none:=R1.freeF hl;let Iv:Nat->L2.St->Hp->Prop:=λi=>CI K W (e_ cp nT σ) F1 H1 (m5 cp nT e1) l λ_ ei acc=>iC g ft fi2 g2 ft2 fe (items.drop i) ei acc=some (out,eo);have notown:∀p∈own,∀a,σ[p.1]?=some (some (.ref a))->¬cn (e_ cp nT σ) (m5 cp nT e1) H1 a:=by rintro p hp a ha⟨k,zf⟩;obtain⟨xs,c1,c2⟩:=zf.resolve_right λ⟨xss,_,_,z,_⟩=>iF k xss z;obtain⟨i,s,d1,d2⟩:=iE c1;have e2:=lQ d1 c2;have:p.1=i:=R1.inj p.1 i p.2 xs a (kp p hp) d2 ha e2;have hh:=ML.mp hO p hp;simp only[Oa,List.any_eq_false,beq_iff_eq]at hh;exact hh (i,s) (LO d1) this.symm
 refine⟨λi m σ' H'=>m=items.length-i/\i<=items.length/\Iv i σ' H',⟨items.length,by simp,Np _,.mk (Ri.putT hFl (λz=>(Ri.ownH l z) hl)).1 (cL.refl.putT hl (Ri.putT hFl (λz=>(Ri.ownH l z) hl)).2) hFl (λz=>(Ri.ownH l (((Ri.putT hFl (λz=>(Ri.ownH l z) hl)).2 l).mp z)) hl) aC aL.nil h2⟩,?_⟩;rintro i m σ' H'⟨rfl,hi,⟨R',X',fl,no,hl',da,hc⟩⟩;rename_i F' ei acc vs;have held:wz K σ F' H' own:=λp hp=>by obtain⟨a,us,c1,c2,c3,c4⟩:=R1.own p.1 p.2 (kp p hp);exact⟨a,us,c1,X'.tmp a _ c3 (notown p hp a c1),c4.mono X'.sf⟩
 obtain⟨go,stop,yld⟩:=ok F' H' X'.sf R'.sm held;by_cases hlt:i<items.length
 ·have hd:items.drop i=items[i]::items.drop (i+1):=Os hlt;rw[hd]at hc;unfold iC at hc;obtain⟨e2,c2,hc⟩:=LH hc;obtain⟨⟨b,e3⟩,c3,hc⟩:=LH hc;refine .inr ⟨go i hlt,Iv (i+1),λσ2 H2 r=>⟨items.length-(i+1),by lia,rfl,hlt,r⟩,λx H2 hy=>?_⟩;obtain⟨F2,sH,sF2,sm2,fz,hx⟩:=yld i items[i] x H2 (My hlt) hy;obtain⟨R2,X2⟩:=R'.step sH sF2 sm2 fz;refine⟨F2,ei,items[i],e2,R2,hx,c2,λσ3 X3 R3=>⟨F2,e2,b,e3,R3,c3,λF4 H4 X4 R4=>?_⟩⟩;have hlH2:H2 l=some (.lst vs):=sH _ _ hl';have no2:¬cn σ' ei H2 l:=λz=>by
   rcases X2.ow l z with z|z;·exact no z
   ·rw[hl']at z;cases z
  have no3:¬cn σ3 e2 H2 l:=λz=>by
   rcases X3.own l z with z|z;·exact no2 z
   ·rw[hlH2]at z;cases z
  have fl2:F2 l=none:=fz l fl (by rw[hl'];simp);have hlH4:H4 l=some (.lst vs):=X4.tmp l _ hlH2 no3;have fl4:F4 l=none:=X4.fr l vs fl2 hlH2 no3;have no4:¬cn σ3 e3 H4 l:=λz=>by
   rcases X4.ow l z with z|z;·exact no3 z
   ·rw[hlH2]at z;cases z
  have E4:cL W (e_ cp nT σ) F1 H1 (m5 cp nT e1) σ3 F4 H4 e3:=((X'.trans X2.s).trans X3).trans X4.s;have da4:=da.mono (sF2.trans X4.sf);cases b with|false=>rw[if_neg ↥1]at hc;exact wX (.mk R4 E4 fl4 no4 hlH4 da4 hc)|true=>
   rw[if_pos rfl]at hc;obtain⟨⟨its2,own2,e5⟩,c5,hc⟩:=LH hc;dsimp only at hc;split at hc;case isFalse=>cases hc
   case isTrue ho2=>
   subst ho2;obtain⟨⟨acc2,e6⟩,c6,hc⟩:=LH hc;refine wY ⟨F4,e3,its2,[],e5,R4,c5,λJ2 F5 H5 X5 R5 _ ok2=>?_⟩;have hlH5:H5 l=some (.lst vs):=X5.tmp l _ hlH4 no4;have fl5:F5 l=none:=X5.fr l vs fl4 hlH4 no4;have no5:¬cn σ3 e5 H5 l:=λz=>by
    rcases X5.ow l z with z|z;·exact no4 z
    ·rw[hlH4]at z;cases z
   let Iv2:Nat->L2.St->Hp->Prop:=λj=>CI K W (e_ cp nT σ) F1 H1 (m5 cp nT e1) l λF' ei acc=>av F5 F'/\dk g2 ft2 fe (its2.drop j) ei acc=some (acc2,e6);refine⟨λj m σ' H'=>m=its2.length-j/\j<=its2.length/\Iv2 j σ' H',⟨its2.length,by simp,Np _,.mk R5 (E4.trans X5.s) fl5 no5 hlH5 (da4.mono X5.sf) ⟨av.refl _,c6⟩⟩,?_⟩;rintro j m σ6 H6⟨rfl,hj,⟨R6,X6,fl6,no6,hl6,da6,s6,hc6⟩⟩;rename_i F6 ei6 acc6 vs6;obtain⟨go2,stop2,yld2⟩:=ok2 F6 H6 s6 R6.sm (λp hp=>by cases hp);by_cases hjt:j<its2.length
   ·have hd2:its2.drop j=its2[j]::its2.drop (j+1):=Os hjt;rw[hd2]at hc6;unfold dk at hc6;obtain⟨e7,c7,hc6⟩:=LH hc6;obtain⟨⟨b8,e8⟩,c8,hc6⟩:=LH hc6;refine .inr ⟨go2 j hjt,Iv2 (j+1),λσ2 H2 r=>⟨its2.length-(j+1),by lia,rfl,hjt,r⟩,λx7 H7 hy7=>?_⟩;obtain⟨F7,sH7,sF7,sm7,fz7,hx7⟩:=yld2 j its2[j] x7 H7 (My hjt) hy7;obtain⟨R7,X7⟩:=R6.step sH7 sF7 sm7 fz7;refine⟨F7,ei6,its2[j],e7,R7,hx7,c7,λσ8 X8 R8=>⟨F7,e7,b8,e8,R8,c8,λF9 H9 X9 R9=>?_⟩⟩;have hlH7:H7 l=some (.lst vs6):=sH7 _ _ hl6;have no7:¬cn σ6 ei6 H7 l:=λz=>by
     rcases X7.ow l z with z|z;·exact no6 z
     ·rw[hl6]at z;cases z
    have no8:¬cn σ8 e7 H7 l:=λz=>by
     rcases X8.own l z with z|z;·exact no7 z
     ·rw[hlH7]at z;cases z
    have fl7:F7 l=none:=fz7 l fl6 (by rw[hl6];simp);have hlH9:H9 l=some (.lst vs6):=X9.tmp l _ hlH7 no8;have fl9:F9 l=none:=X9.fr l vs6 fl7 hlH7 no8;have no9:¬cn σ8 e8 H9 l:=λz=>by
     rcases X9.ow l z with z|z;·exact no8 z
     ·rw[hlH7]at z;cases z
    have E9:cL W (e_ cp nT σ) F1 H1 (m5 cp nT e1) σ8 F9 H9 e8:=((X6.trans X7.s).trans X8).trans X9.s;have s9:av F5 F9:=(s6.trans sF7).trans X9.sf;cases b8 with|false=>rw[if_neg ↥1]at hc6;exact wX (.mk R9 E9 fl9 no9 hlH9 (da6.mono (sF7.trans X9.sf)) ⟨s9,hc6⟩)|true=>
     rw[if_pos rfl]at hc6;obtain⟨⟨r,e10⟩,c10,hc6⟩:=LH hc6;obtain⟨d,c11,hc6⟩:=LH hc6;split at hc6;case isFalse=>cases hc6
     case isTrue hlen=>
     refine wY ⟨F9,e8,r,e10,R9,c10,λFa Ha v Xa Ra Aa=>?_⟩;have hlHa:Ha l=some (.lst vs6):=Xa.tmp l _ hlH9 no9;have fla:Fa l=none:=Xa.fr l vs6 fl9 hlH9 no9;have noa:¬cn σ8 e10 Ha l:=λz=>by
      rcases Xa.ow l z with z|z;·exact no9 z
      ·rw[hlH9]at z;cases z
     obtain⟨Fb,Rb,sb,db,fb⟩:=cu.frozen Ra (rs:=[r]) (vs:=[v]) ⟨v,[],rfl,Aa,rfl⟩ (pZ c11);have flb:Fb l=none:=fb l fla (by rw[hlH9];simp);have Xb:=Xa.frz sb fb;have ll:=da6.len;have sl:Mi=16777216:=MO;have dv:DA K Fb d v:=by simp only[aL]at db;obtain⟨v',r',e',hv,_⟩:=db;cases e';exact hv
     obtain⟨Rc,oc⟩:=Rb.putT (ws:=vs6++[v]) flb noa;exact⟨vs6,hlHa,by lia,.mk Rc ((E9.trans Xb.s).putT hl oc) flb (λz=>noa ((oc l).mp z)) aC ((da6.mono (sF7.trans (X9.sf.trans (Xa.sf.trans sb)))).append (aL.one dv)) ⟨s9.trans (Xa.sf.trans sb),hc6⟩⟩
   ·have hd2:its2.drop j=[]:=QC ↥0;rw[hd2]at hc6;cases hc6;exact .inl ⟨stop2 j ↥0,.mk R6 X6 fl6 no6 hl6 da6 hc⟩
 ·have hd:items.drop i=[]:=QC ↥0;rw[hd]at hc;cases hc;refine .inl ⟨stop i ↥0,?_⟩;obtain⟨R9,X9,o9⟩:=o_ R1 sub iF X'.sf X'.dom X'.fr X'.lst X'.tmp X'.fd R' (λi k xs g1 g2=>X'.wr k λz=>by obtain⟨s,g⟩:=dz g2;have:=(LJ g).1;have:=hW k z;lia) λi k xs g1 g2=>by obtain⟨s,g⟩:=dz g2;unfold jc at hB;have hb:=ML.mp hB _ (LO g);simp only[g1,g2,Og,wV,QE,Bool.false_or]at hb;exact vL.mp hb
  exact q F' H' (.ref l) (X1.trans X9) R9 ⟨l,vs,rfl,X1.dom l hl,fl,hl',da,λz=>R1.ownH l (o9 l z) hl⟩
end
theorem PG.wide{X:Cx}{K:⇑0}{tg:LU}{g:FG}{W W':List Nat}(h:PG X tg (fG K g W))(hw:∀j,j∈W->j∈W'):PG X tg (fG K g W'):=h.mono λv σ H Q⟨F,e,x,e',R,d,hg,q⟩=>⟨F,e,x,e',R,d,hg,λσ' x=>q σ' (x.mono hw)⟩
section
variable{X:Cx}{K:⇑0}{pos:Pos}
end
section
variable{X:Cx}{K:⇑0}{pos:Pos}
variable{o:LU}{fo:FE}{apos cpos:Pos}
end
section
variable{X:Cx}{K:⇑0}
end
structure Cr (f:Fr):Prop where
 pos:0<f.2
 cop:Mm f.1 f.2=1
theorem Cr.lowM{t b:Int}(h:0<b):Cr (L2.lowM t b):=by obtain⟨d,_,_,_,_,h5⟩:=jO (t:=t) (b:=b) ↥0;exact⟨h5,tf ↥0⟩
def ce(t:lV)(b:Bool):Fr:=if b then(t.top,t.bot) else(t.bot-t.top,t.bot)
theorem qP{n:Int}{t:lV}(o:t.Ok n)(b:Bool):xQ t.bot (ce t b):=by have:=o.c0;have:=o.c1;have:=o.b0;unfold ce;cases b with|true=>exact⟨by show 0<t.bot;lia,by show 0<=t.top;lia,by show t.top<=t.bot;lia,Int.dvd_refl _⟩|false=>exact⟨by show 0<t.bot;lia,by show 0<=t.bot-t.top;lia,by show t.bot-t.top<=t.bot;lia,Int.dvd_refl _⟩
abbrev Pg:=List Int×Int
structure Ig (k:Nat) (ps:List Pg):Prop where
 ne:ps≠[]len:ps.length<=2^k
 pt:∀p∈ps,p.1.length<=2*k/\0<=p.2/\p.2<=1000*(k:Int)
section
variable{prog:Mc}{w:LV}{A:Md}{E:LP->LR->Prop}{s:LR}
end
section
variable{X:Cx}{a:LU}{ta:TA}{p p2 pos pos2:Pos}
variable{K:⇑0}{fs:FA}{p3:Pos}
end
theorem ka{α:Type}:∀(l:List α) (i:Nat) (h:i<l.length),(l[i]::l.eraseIdx i).Perm l|x::r,0,_=>.refl _|x::r,i+1,h=>(List.Perm.swap x _ _).trans ((ka r i (by simpa using h)).cons x)|[],_,h=>by simp at h
mutual
def wt:LS->Nat|.list xs=>As xs+1|.tuple xs=>As xs+1|.dict _=>1|.none=>1|.bool _=>1|.int _=>1|.str _=>1
def As:List LS->Nat|[]=>0|x::r=>wt x+As r
end
structure I_ (d:LS) (k:Nat):Prop where
 lay:d.canLay0=true
 sh:d.showable=true
 dp:d.depth<=k
 ln:d.shown.length+2<=104*wt d
 so:Nk d.shown=true
section
variable{X:Cx}{K:⇑0}
variable{a b:LU}{fa fb:FE}{pos:Pos}
end
def tx(s:Str):List Nat:=s.cps.toList
section
variable{X:Cx}{K:⇑0}{es:List LU}{k0:Nat}{tp:Pos}{a b:LU}{fs:FA}{p pos:Pos}
end
def IT(x:Nd)(b:Bool):Int:=if b=true then x.yes else x.no
def CO(T:List Nd)(i:Nat)(b:Bool):Int:=match T[i]? with|some x=>IT x b|none=>-1
def Hn(T:List Nd):Prop:=∀(i j:Nat) (a b:Bool),CO T i a=CO T j b->CO T i a≠-1->i=j/\a=b
def HY(w:Wt):Int×Int:=(w.par,w.side)
structure Jd (T:List Nd) (ws:List Wt):Prop where
 unq:Hn T
 rng:∀i a,CO T i a=-1\/(0<CO T i a/\CO T i a<(T.length:Int))free:∀w∈ws,w.par=-1\/(0<=w.par/\w.par<(T.length:Int)/\CO T w.par.toNat (w.side==0)=-1)dst:(ws.map HY).Nodup
 side:∀w∈ws,w.side=0\/w.side=1
structure Jf (T:List Nd) (w0 ws order:List Int):Prop where
 nd:(order++ws).Nodup
 par:∀v∈order++ws,v=0\/∃u∈order,∃b,CO T u.toNat b=v/\v≠-1
 fst:(order=[]/\ws=w0)\/order[0]?=some 0
theorem xK{cp:List (Nat×Str)}{nT:Nat}{fi fi2:FI}{g g2:FG}{ft ft2:FT}{fe:FE}{e e1 cs:En}{t t':En}{items out:List LS}(h1:fi e=some (items,[],e1))(hc:m5 cp nT e1=cs++t)(hl:cs.length=cp.length)(h3:iC g ft fi2 g2 ft2 fe items (m5 cp nT e1) []=some (out,cs++t')):mz cp nT fi g ft fi2 g2 ft2 fe e=some (.l out,e1):=by
 have key:=lS (cp:=cp) (nT:=nT) (fi:=λ_=>some ([.none],[],e1)) (g:=λ_ _=>some (cs++t')) (ft:=λe=>some (false,e)) (fe:=fe) (e:=e) (cs:=cs) (t:=t) (t':=t') (out:=[]) rfl hc hl rfl;have c0:dk (λ_ _=>some (cs++t')) (λe=>some (false,e)) fe [.none] (m5 cp nT e1) []=some ([],cs++t'):=rfl;unfold ig at key;unfold mz;rw[h1];simp only[MH,List.all_nil,if_true,h3,c0]at key⊢;split at key;·rename_i q;rw[if_pos q];have:=Nm key;have e2:mx (lq cp) (cs++t') e1=e1:=(Prod.ext_iff.mp this).2;rw[e2]
 ·cases key
section
variable{prog:Mc}{w:LV}{A:Md}{E:LP->LR->Prop}{s:LR}
end
section
variable{X:Cx}{tg a:LU}{ta:TA}{p pos:Pos}
end
section
variable{X:Cx}{K:⇑0}{σ:L2.St}{tg a:LU}{fs:FA}{p pos:Pos}
end
section
variable{X:Cx}{a k:LU}{p2 pos:Pos}{fa fk:FE}{K:⇑0}
section
variable{prog:Mc}{w:LV}{A:Md}{E:LP->LR->Prop}{s:LR}
end
end
section
variable{X:Cx}{a b:LU}{ta:TA}{p p2 pos pos2:Pos}{K:⇑0}{fs:FA}
end
section
variable{X:Cx}{o i e:LU}{fo fi:FE}{tpos pos:Pos}{K:⇑0}
end
section
variable{X:Cx}{o i e:LU}{fo fi fv:FE}{tpos pos:Pos}{K:⇑0}
end
section
variable{X:Cx}{K:⇑0}
end
section
open PySem.MeetsSeq2 PySem.AutoSeq1 PySem.SeqAt
end
section
variable{X:Cx}{K:⇑0}{o a:LU}{to te:TE}{name:Str}{apos cpos:Pos}{T id:String}{r:V->List V->Hp->VK->Prop}{fo fa:FE}
end
section
variable{X:Cx}{K:⇑0}{o a:LU}{apos cpos:Pos}{fo fa:FE}
end
section
variable{K:⇑0}{F H:Hp}{σ:L2.St}{e:En}{cp:List (Nat×Str)}{nT:Nat}
end
section
variable{X:Cx}{K:⇑0}{a b:LU}{es:List LU}{fa fb:FE}{fs:FA}{pos p p2 p3:Pos}{lo hi:Option LU}
end
section
variable{X:Cx}{K:⇑0}
end
section
variable{X:Cx}{K:⇑0}{a b:LU}{fa fb:FE}{pos:Pos}
end
section
variable{X:Cx}{K:⇑0}
theorem mF{prog:Mc}{w:LV}{A:Md}{E:LP->LR->Prop}{s:LR}{t:LQ}{vs:List LP}{Q:List LP->LR->Prop}(ht:s.heap.IsList t vs.toArray)(h:Q vs {s with heap:=(s.heap.push (Mo "list" #[] 0)).update ↑s (MK (·++vs.toArray))})(hsz:vs.length<=Mi):Ma (LY prog w) A (collect (.ref t)) Q E s:=by obtain⟨o,ho,hc,n,hd⟩:=id ht;unfold collect;refine Mb (wpAny_runValue (PR entry_proto_collect' ?_));show Ma _ _ (do again (.builtin "list.__iadd__" ⟨[<-newList [],.ref t],[]⟩)) _ _ s;refine Mb (PU (Mj ⟨QW _ ↥2,?_⟩));refine PR entry_list_iadd' ?_;show Ma _ _ (Qv (.ref ↑s) (.ref t) (.ref ↑s)) _ _ {s with heap:=s.heap.push (Mo "list" #[] 0)};unfold Qv;have ho':(s.heap.push (Mo "list" #[] 0)).get? t=some o:=MJ _ ho;refine Mb (PL (T:="list") ⟨o,ho',hc⟩ ?_);rw[if_pos (by rw[show(PB "list"==PB "list")=true from rfl,Bool.or_true,Bool.true_or])];refine Mb (PV ho' hd ?_);refine Mb (PV (xs:=#[]) (n:=0) (Nl _ rfl) rfl ?_);rw[if_neg ↥1];refine Mb (PX (xs:=#[]) (n:=0) (Nl _ rfl) rfl ?_ (Np _) (by show(#[]++vs.toArray).size<=Mi+1;simp only[Array.size_append,Mx,List.length_nil];lia));refine Mj ?_;show Ma (LY prog w) A (load ↑s>>=λo=>match o.data with|.seq xs _=>pure xs.toList|_=>unsupported "internal:collect") Q E {s with heap:=(s.heap.push (Mo "list" #[] 0)).update ↑s (MK (·++vs.toArray))};refine Mb (wpAny_load (get?_update_seq (Nl _ rfl) _) ?_);show Ma _ _ (pure ((#[]:Array LP)++vs.toArray).toList) Q E _;rw[show((#[]:Array LP)++vs.toArray).toList=vs by simp];exact Mj h
end
structure Sw (b:Bool) (n dep:Nat) (d:LS):Prop where
 dl:bif b then kf d=true else d.hasDict=false
 sh:d.showable=true
 dp:d.depth<=dep
 ln:d.shown.length+2<=n
 so:Nk d.shown=true
structure S1 (n:Nat) (f:Fr):Prop where
 low:Cr f
 lo:0<=f.1
 hi:f.1<=f.2
 bt:Bt n f.2
def IS(e:Int)(t:lV):Bool:=t.one==e||t.other==e
structure Jg (b f g:Fr):Prop where
 pf:0<f.2
 pg:0<g.2
 eq:g.1*(f.2*b.1)=g.2*(f.1*b.2)
def vR(f:Fr):Rat:=(f.1:Rat)/(f.2:Rat)
def cR(t:lV)(b:Bool):Rat:=vR (ce t b)
def hR(t:lV):Rat:=cR t true*(t.worth:Rat)
structure Je (O:aN) (ss ws:List Std):Prop where
 len:ss.length=ws.length
 at':∀j,(ss.getD j ([],[])).1=(ws.getD j ([],[])).1/\(ss.getD j ([],[])).2.length<=2*(ss.getD j ([],[])).1.length/\∀k∈(ss.getD j ([],[])).1,gG O k
structure Jb (O:aN) (T:List Nd):Prop where
 tie:∀(i:Nat) (x:Nd),T[i]?=some x->gG O x.tie
 lk:∀(i:Nat) (x:Nd),T[i]?=some x->(-1<=x.yes/\x.yes<(T.length:Int))/\(-1<=x.no/\x.no<(T.length:Int))
section
variable{K:⇑0}
variable{X:Cx}{σ:L2.St}{H0 H:Hp}{e:En}
end
section
variable{X:Cx}{a b:LU}{ta:TA}{p p2 pos pos2:Pos}
end
section
variable{X:Cx}{K:⇑0}{fs:FA}{a b:LU}{p p2 pos pos2:Pos}
end
theorem bv:∀(names:List (Str×Nn)) (n:Nat) (acc:List (Str×LQ)),MB n names acc=MB n names []++acc
 |[],_,_=>rfl|(x,k)::r,n,acc=>by
  unfold MB;split;·rw[bv r (n+1) ((x,n)::acc),bv r (n+1) [(x,n)],MA];rfl
  ·exact bv r n acc
theorem iB:∀(names:List (Str×Nn)) (n:Nat) (x:Str) (c:LQ),(MB n names []).lookup x=some c->∃y∈names,y.1=x/\y.2=.cell
 |[],_,_,_,h=>by simp[MB]at h|(z,k)::r,n,x,c,h=>by
  unfold MB at h;split at h;·rename_i hk;rw[bv,Qa]at h;cases q:(MB (n+1) r []).lookup x with|some d=>obtain⟨y,hy,e⟩:=iB r _ x d q;exact⟨y,Nt _ hy,e⟩|none=>rw[q]at h;have h':Oq x [(z,n)]=some c:=h;rw[Oh]at h';cases hx:x==z with|true=>exact⟨(z,k),Oy,(by simpa using hx:x=z).symm,by simpa using hk⟩|false=>rw[hx]at h';simp at h'
  ·obtain⟨y,hy,e⟩:=iB r n x c h;exact⟨y,Nt _ hy,e⟩
theorem gJ:∀(names:List (Str×Nn)) (n:Nat) (x:Str),(∃y∈names,y.1=x/\y.2=.cell)->∃c,(MB n names []).lookup x=some c
 |[],_,_,⟨_,h,_⟩=>by cases h|(z,k)::r,n,x,⟨y,hy,e1,e2⟩=>by
  unfold MB;split;·rename_i hk;rw[bv,Qa];cases q:(MB (n+1) r []).lookup x with|some d=>exact⟨d,rfl⟩|none=>
   rcases LN hy with w|w;·subst w;subst e1;exact⟨n,by simp[Oh]⟩
   ·obtain⟨c,hc⟩:=gJ r (n+1) x ⟨y,w,e1,e2⟩;rw[q]at hc;cases hc
  ·rename_i hk;rcases LN hy with w|w;·subst w;exact absurd (by simpa using e2) hk
   ·exact gJ r n x ⟨y,w,e1,e2⟩
theorem pV{env:Env}:∀(names:List (Str×Nn)) (cs:List (Str×LQ)) (x:Str),(¬∃y∈names,y.1=x/\y.2=.free)->cs.lookup x=none->(gT env names cs).lookup x=none
 |[],_,_,_,h=>h|(n,k)::r,cs,x,hn,hcs=>by
  refine pV r _ x (λ⟨y,hy,z⟩=>hn ⟨y,Nt _ hy,z⟩) ?_;by_cases hk:(k==Nw)=true;·rw[if_pos hk,Oh];cases hx:x==n with|true=>exact absurd ⟨(n,k),Oy,(by simpa using hx:x=n).symm,by simpa using hk⟩ hn|false=>exact hcs
  ·rw[if_neg hk];exact hcs
theorem oP{env:Env}:∀{names:List (Str×Nn)}{x:Str},(names.map fun(n,k)=>if (k==Nw&&env.scope.kind==.function&&env.kindOf n==some .cell) then(n,OZ) else(n,k)).lookup x=some .cell\/(names.map fun(n,k)=>if (k==Nw&&env.scope.kind==.function&&env.kindOf n==some .cell) then(n,OZ) else(n,k)).lookup x=some .free->∃y∈names,y.1=x/\(y.2=.free\/y.2=.cell)
 |[],x,h=>by simp at h|(n,k)::r,x,h=>by
  have ih:=@oP env r x;rw[Mp]at h;cases hx:x==n with|true=>
   have e1:x=n:=by simpa using hx
   subst e1;refine⟨(x,k),Oy,rfl,?_⟩;by_cases q:(k==Nw&&env.scope.kind==.function&&env.kindOf x==some .cell)=true;·simp only[MC,beq_iff_eq]at q;exact .inl q.1.1
   ·simp only[q,PQ,if_false,Oh,beq_self_eq_true,OQ]at h;exact h.symm|false=>
   have e2:∀(l:List (Str×Nn)),((if (k==Nw&&env.scope.kind==.function&&env.kindOf n==some .cell)=true then(n,OZ) else(n,k))::l).lookup x=l.lookup x:=λl=>by split<;>simp[Oh,hx]
   simp only[e2]at h;obtain⟨y,hy,z⟩:=ih h;exact⟨y,Nt _ hy,z⟩
theorem vP{M:Model}{A:Md}{E:LP->LR->Prop}{s:LR}{scope:Mr}{globals:LQ}{closure:List (Str×LQ)}{qual:Str}{func:Option LQ}{code:LP}{env:Env}{builtins:LQ}{Q:Env->LR->Prop}(hQ:∀h',h'.Ns ↑s (λ_=>none)->(∀b o,s.heap.get? b=some o->h'.get? b=some o)->(∀n c,(MB (↑s+1) scope.names []).lookup n=some c->h'.IsCell c none/\↑s+1<=c)->((MB (↑s+1) scope.names []).Pairwise λx y=>x.2≠y.2)->Q (newEnv scope ↑s globals (MB (↑s+1) scope.names closure) qual func code (some env) builtins) {s with heap:=h'}):Ma M A (newFunctionEnv scope globals closure [] qual func code (some env) builtins) Q E s:=by simp only[newFunctionEnv,Option.isSome_some,if_true];refine Mb (wpAny_alloc ?_);refine Mb (wpAny_layCells _ (λname kind cells=>by cases hkc:kind==OZ<;>simp[hkc]) _ _ _ _ ?_);have ok:=cellsFrom_ok scope.names (s.heap.push {cls:=.type "dict",data:=.dict #[]}) (↑s+1) [] ⟨λ_ _ hm=>(nomatch hm),List.Pairwise.nil⟩ (by rw[QA];exact MU _);rw[QA]at ok;rw[show({s with heap:=s.heap.push {cls:=.type "dict",data:=.dict #[]}}:LR).heap.objs.size=↑s+1 from QA ..];refine Mb ?_;rw[List.forIn_nil];refine Mj (Mj ?_);exact hQ _ ((Heap.Ns.new s.heap (.type "dict")).keeps (pushCells_keeps _ _)) (λb o e=>pushCells_keeps _ _ b o (MJ _ e)) (λn c e=>ok.empty n c (mem_of_lookup e)) ok.apart
def ar(X:Cx)(scope:Mr)(cp:List (Nat×Str))(tgN:List Str)(C:LQ)(s0:LR)(H0:Hp)(fp:List LQ):Cx where prog:=X.prog;w:=X.w;K:=X.K;mg:=X.mg;base:=X.base;A:=X.A;N:=cp.map (·.2)++tgN;s₀:=s0;H₀:=H0;env:=compEnvC scope (MB (C+1) scope.names (gT X.env scope.names [])) C X.env;outer:=X.stack;stack:=X.stack;ex:=fp;fn:=λx=>scope.names.lookup x==some .local||scope.names.lookup x==some .cell;calm:=X.calm;pn:=[];xe:=λ_ _=>False
theorem pX{X:Cx}{scope:Mr}{sc0:Mr}{N0:List Str}{cp:List (Nat×Str)}{tgN:List Str}{pins:List (LQ×Obj)}{σ:L2.St}{H3:Hp}{s₃:LR}{C:LQ}{h₁:LZ}{fp:List LQ}(hsc:X.env.scope=sc0)(hN0:X.N=N0)(hk:scope.kind=.function)(hown:∀y∈scope.names,y.2=.cell->scope.names.lookup y.1=some .cell)(hfr:∀y∈scope.names,y.2=.free->scope.names.lookup y.1=some .free/\sc0.names.lookup y.1=some .cell)(hcp:∀p∈cp,N0[p.1]?=some p.2)(hcq:∀p∈cp,sc0.names.lookup p.2=some .cell/\scope.names.lookup p.2=some .free)(I3:aA X pins σ H3 s₃)(f3:∀b∈fp,j7 X pins H3 b)(hob:∀b∈fp,∃o,s₃.heap.get? b=some o)(hC:↑s₃=C)(hns₁:h₁.Ns C (λ_=>none))(old:∀b o,s₃.heap.get? b=some o->h₁.get? b=some o)(hownC:∀n c,(MB (C+1) scope.names []).lookup n=some c->h₁.IsCell c none/\C+1<=c)(apC:(MB (C+1) scope.names []).Pairwise λx y=>x.2≠y.2):(ar X scope cp tgN C s₃ H3 fp).Ok/\aA (ar X scope cp tgN C s₃ H3 fp) [] (e_ cp tgN.length σ) H3 {s₃ with heap:=h₁}:=by
 have hkind:∀x,X.env.kindOf x=sc0.names.lookup x:=λx=>by unfold Env.kindOf;rw[hsc]
 have hfree:∀y∈scope.names,y.2=.free->∃c,X.env.cells.lookup y.1=some c:=λy hy e=>I3.ok.has y.1 (.inl (by rw[hkind];exact(hfr y hy e).2));have nC:∀b o,s₃.heap.get? b=some o->b≠C:=λb o e=>by rw[<-hC];exact MI (Mq e)
 have hHC:H3 C=none:=I3.hok.fresh (by rw[hC];exact MU _);have clS:∀x c,(gT X.env scope.names []).lookup x=some c->X.env.cells.lookup x=some c:=λx c e=>nZ _ _ x c hfree (λ_ _ z=>by simp at z) e;have clH:∀x,(∃y∈scope.names,y.1=x/\y.2=.free)->∃c,(gT X.env scope.names []).lookup x=some c:=λx e=>sI _ _ x (.inl e);have clN:∀x,(¬∃y∈scope.names,y.1=x/\y.2=.free)->(gT X.env scope.names []).lookup x=none:=λx q=>pV _ _ x q rfl;have two:∀x c,(MB (C+1) scope.names (gT X.env scope.names [])).lookup x=some c->(MB (C+1) scope.names []).lookup x=some c\/(gT X.env scope.names []).lookup x=some c:=λx c e=>by rw[bv,Qa]at e;cases q:(MB (C+1) scope.names []).lookup x with|some d=>rw[q]at e;exact .inl e|none=>rw[q]at e;exact .inr e
 have ltC:∀x c,(gT X.env scope.names []).lookup x=some c->c<C:=λx c e=>by obtain⟨v,o,ho,_⟩:=I3.cell x c (clS x c e);rw[<-hC];exact Mq ho
 have clF:∀x,(∃y∈scope.names,y.1=x/\y.2=.free)->(MB (C+1) scope.names (gT X.env scope.names [])).lookup x=(gT X.env scope.names []).lookup x:=λx⟨y,hy,e1,e2⟩=>by rw[bv,Qa];cases q:(MB (C+1) scope.names []).lookup x with|none=>rfl|some d=>exfalso;obtain⟨z,hz,z1,z2⟩:=iB scope.names _ x d q;have a1:=hown z hz z2;have a2:=(hfr y hy e2).1;rw[z1]at a1;rw[e1,a1]at a2;cases a2
 have hasC:∀x,(∃y∈scope.names,y.1=x/\(y.2=.free\/y.2=.cell))->∃c,(MB (C+1) scope.names (gT X.env scope.names [])).lookup x=some c:=λx⟨y,hy,e1,e2⟩=>by
  rcases e2 with e2|e2;·rw[clF x ⟨y,hy,e1,e2⟩];exact clH x ⟨y,hy,e1,e2⟩
  ·rw[bv,Qa];obtain⟨c,hc⟩:=gJ scope.names (C+1) x ⟨y,hy,e1,e2⟩;exact⟨c,by rw[hc];rfl⟩
 have ok':(ar X scope cp tgN C s₃ H3 fp).Ok:=by
  refine⟨I3.ok.mod,hk,I3.ok.glob,I3.ok.blt,by rw[<-hC];exact MU _,λx y c e1 e2=>?_,λx e=>hasC x (oP e),λx c e1 e2=>?_,I3.ok.hd,I3.ok.frames,.inl rfl,λb hb=>?_,λb o e=>I3.bs b o e,?_,λb o e hb=>?_,λb hb z=>?_,I3.stack,λb hb=>I3.stkFree b hb⟩
  ·rcases two x c e1 with e1|e1<;>rcases two y c e2 with e2|e2;·exact name_of_addr apC (mem_of_lookup e1) (mem_of_lookup e2)
   ·exact(On _ (Nat.lt_trans (ltC y c e2) (hownC x c e1).2)).elim
   ·exact(On _ (Nat.lt_trans (ltC x c e1) (hownC y c e2).2)).elim
   ·exact I3.ok.inj x y c (clS _ _ e1) (clS _ _ e2)
  ·rcases two x c e2 with e2|e2;·show↑s₃<=c;rw[hC];exact Nat.le_of_succ_le (hownC x c e2).2
   ·exfalso;have e1':scope.names.lookup x=some .local\/scope.names.lookup x=some .cell:=by simpa[ar]using e1
    by_cases q:∃y∈scope.names,y.1=x/\y.2=.free;·obtain⟨y,hy,y1,y2⟩:=q;have z:=(hfr y hy y2).1;rw[y1]at z;rcases e1' with w|w<;>(rw[z]at w;cases w)
    ·rw[clN x q]at e2;cases e2
  ·obtain⟨f0,f1,f4,f5,f6,f7⟩:=f3 b hb;obtain⟨o,ho⟩:=hob b hb;exact⟨nC b o ho,λx c e=>(two x c e).elim (λe z=>absurd (hownC x c e).2 (by rw[z,<-hC];exact Nat.not_le.mpr (QF (Mq ho)))) (λe=>f6 x c (clS x c e))⟩
  ·exact Mv I3.ok.bsz I3.sz
  ·obtain⟨f0,f1,f4,f5,f6,f7⟩:=f3 b hb;rcases f5 with z|z;·exact I3.ok.noex b o e z
   ·have:=(I3.ok.bs b o e).1;exact absurd (MW (Mq this) z) (On _)
  ·obtain⟨f0,f1,f4,f5,f6,f7⟩:=f3 b hb;rcases LN (I3.stkSub b z) with z|z;·exact f1 z
   ·exact f4 z
 have I4:aA (ar X scope cp tgN C s₃ H3 fp) [] (e_ cp tgN.length σ) H3 {s₃ with heap:=h₁}:=by
  refine⟨ok',rfl,I3.bare,Un.kept old,⟨_,hns₁,λi x v e1 e2 e3=>?_⟩,λx c e=>?_,hHC,λx c e=>(two x c e).elim (λe=>I3.hok.fresh (by rw[hC];exact Nat.le_of_succ_le (hownC x c e).2)) (λe=>I3.freeC x c (clS x c e)),λp hp=>by simp[ar]at hp,I3.hok.kept old,by simp[e_,ar]⟩
  ·have hlt:i<cp.length:=by
    by_cases q:i<cp.length;·exact q
    ·exfalso;unfold e_ at e2;rw[Qn ↥7]at e2;rw[QT]at e2;split at e2<;>cases e2
   have e1':(cp.map (·.2))[i]?=some x:=by have e1'':(cp.map (·.2)++tgN)[i]?=some x:=e1;rwa[Oe (by simp;exact hlt)]at e1''
   have e2':(cp.map (λp=>(σ[p.1]?).join))[i]?=some (some v):=by unfold e_ at e2;rwa[Oe (by simp;exact hlt)]at e2
   rw[MS,My hlt]at e1' e2';have ex:(cp[i]).2=x:=by simpa using e1'
   have ev:(σ[(cp[i]).1]?).join=some v:=by simpa using e2'
   have ev':σ[(cp[i]).1]?=some (some v):=by cases q:σ[(cp[i]).1]? with|none=>rw[q]at ev;cases ev|some z=>rw[q]at ev;simp only[Option.join_some]at ev;rw[ev]
   have hN:=hcp cp[i] (Qz hlt);rw[<-hN0]at hN;obtain⟨hcl,hcf⟩:=hcq cp[i] (Qz hlt);rw[ex]at hN hcl hcf;obtain⟨m,hn,hl⟩:=I3.loc;obtain⟨u,r,l⟩:=hl _ x v hN ev' (.inr (.inl (by rw[hsc];exact hcl)));refine⟨u,r,.inr ?_⟩;rcases l with⟨k1,_⟩|⟨k1,c,hcc,o,ho,hd⟩;·rw[hkind,hcl]at k1;cases k1
   ·have e3':(relabel scope X.env).names.lookup x=some .local\/(relabel scope X.env).names.lookup x=some .cell\/(relabel scope X.env).names.lookup x=some .free:=e3;have nl:(relabel scope X.env).names.lookup x=some .cell\/(relabel scope X.env).names.lookup x=some .free:=by
     rcases e3' with z|z|z;·exact absurd z (iZ hcf)
     ·exact .inl z
     ·exact .inr z
    have fr:∃y∈scope.names,y.1=x/\y.2=.free:=⟨(x,.free),mem_of_lookup hcf,rfl,rfl⟩;obtain⟨c',hc'⟩:=clH x fr;have:=clS x c' hc';rw[hcc]at this;cases this;exact⟨nl,c,(clF x fr).trans hc',o,old c o ho,hd⟩
  ·rcases two x c e with e|e;·exact⟨none,(hownC x c e).1⟩
   ·obtain⟨v,o,ho,hd⟩:=I3.cell x c (clS x c e);exact⟨v,o,old c o ho,hd⟩
 exact⟨ok',I4⟩
theorem pY{X:Cx}{scope:Mr}{cp:List (Nat×Str)}{tgN:List Str}{pins:List (LQ×Obj)}{σ σ5:L2.St}{H3 H5:Hp}{s₃ s6:LR}{C:LQ}{fp:List LQ}(I3:aA X pins σ H3 s₃)(f3:∀b∈fp,j7 X pins H3 b)(nC:∀b o,s₃.heap.get? b=some o->b≠C)(I6:aA (ar X scope cp tgN C s₃ H3 fp) [] σ5 H5 s6)(h':LZ)(sb:Pi C s6.heap h'):aA X pins σ H5 {s6 with heap:=h'}:=by
 have ub:=I6.base;have kp:∀b u,b≠C->s6.heap.get? b=some u->h'.get? b=some u:=λb u ne e=>sb.extBut b u ne e;have nit:∀b u,H5 b=some u->b≠C:=λb u e z=>by have:=I6.free;rw[z]at e;rw[show H5 C=none from this]at e;cases e
 refine I3.call' (s':={s6 with heap:=h'}) (ch:=fp) I6.os ⟨λb o e n hb hx=>kp b o (nC b o e) (ub.keep b o e n hb hx),λb o e n hb hx=>?_,ub.free,λb o e hx=>?_,ub.tups,ub.frzs,ub.tbls⟩ (λb u e=>?_) I6.bare (λb hb=>?_);·obtain⟨sl,q⟩:=ub.slot b o e n hb hx;exact⟨sl,kp b _ (nC b o e) q⟩
 ·obtain⟨o',q⟩:=ub.there b o e hx;exact⟨o',kp b _ (nC b o e) q⟩
 ·refine(I6.hok b u e).stay (λc v hc q=>kp c v ?_ q) (λ_ q=>q) λ_ _ q=>q;rcases hc with z|z;·rw[z];exact nit b u e
  ·exact nit c _ z
 ·obtain⟨f0,f1,f4,f5,f6,f7⟩:=f3 b hb;exact⟨f5,f1,f6,f7⟩
theorem yj{X:Cx}{use:Option (LP->Sem Unit)}{RR:LP->LR->Prop}{pins:List (LQ×Obj)}{s:LR}{σ:L2.St}{H:Hp}{Q:VK}{elt iter tg:LU}{ifs:List LU}{scope:Mr}{pos:Pos}{wi:TI}{g:TG}{tc:TT}{te:TE}(sc0:Mr)(N0:List Str)(cp:List (Nat×Str))(tgN:List Str)(hc:X.calm=true)(hsc:X.env.scope=sc0)(hN0:X.N=N0)(hi:PI X tg iter wi)(hg:∀C s0 H0 fp,PG (ar X scope cp tgN C s0 H0 fp) tg g)(ht:∀C s0 H0 fp,sr (ar X scope cp tgN C s0 H0 fp) ifs tc)(he:∀C s0 H0 fp,PE (ar X scope cp tgN C s0 H0 fp) elt te)(hk:scope.kind=.function)(hown:∀y∈scope.names,y.2=.cell->scope.names.lookup y.1=some .cell)(hnames:∀y∈scope.names,y.2=.local->scope.names.lookup y.1=some .local)(hfr:∀y∈scope.names,y.2=.free->scope.names.lookup y.1=some .free/\sc0.names.lookup y.1=some .cell)(hcp:∀p∈cp,N0[p.1]?=some p.2)(hcq:∀p∈cp,sc0.names.lookup p.2=some .cell/\scope.names.lookup p.2=some .free)(hs:∀x,NP iter X.env x=pure x)(I:aA X pins σ H s)(h:Ac cp tgN.length wi g tc te σ H Q)(fin:∀(C D:LQ) (H5:Hp) (s6:LR),(∃m,s6.heap.Ns C m)->Q (.ref D) H5->j7 X pins H5 C->(∀h',Pi C s6.heap h'->aA X pins σ H5 {s6 with heap:=h'})->compPost (LY X.prog X.w) X.A X.xe use RR (.ref D) C (.ok .next) s6):Ma (LY X.prog X.w) X.A (comprehension (.ListComp elt [⟨tg,iter,ifs,0⟩] scope pos) scope X.env (firstIterPos [⟨tg,iter,ifs,0⟩] pos) (newList []) (firstAsync [⟨tg,iter,ifs,0⟩]) (firstIter [⟨tg,iter,ifs,0⟩] X.env) use) RR X.xe s:=by
 have hkind:∀x,X.env.kindOf x=sc0.names.lookup x:=λx=>by unfold Env.kindOf;rw[hsc]
 have hfree:∀y∈scope.names,y.2=.free->∃c,X.env.cells.lookup y.1=some c:=λy hy e=>I.ok.has y.1 (.inl (by rw[hkind];exact(hfr y hy e).2));refine wpAny_comprehension_free (use:=use) rfl hs (n5 hfree) hk hnames (Ms (hi pins s σ H _ I h.go) (λxv s₁ h₁=>Ms h₁ (λitv s₂ h₂=>?_) λ_ _ e=>e) λ_ _ e=>e);obtain⟨it,fp,tn,J,H2,rfl,I2,T,st2,f2,hq⟩:=h₂;refine OG ?_;have hlF:H2 ↑s₂=none:=I2.hok.fresh ↥8;have I3:aA X pins σ (bI H2 ↑s₂ (.lst [])) {s₂ with heap:=s₂.heap.push {cls:=.type "list",data:=.seq ([]:List LP).toArray}}:=I2.lnew (t':=s₂.toks) .nil (Np _);obtain⟨W,⟨m0,w0⟩,turn⟩:=hq _ hlF;have f3:∀b∈fp,j7 X pins (bI H2 ↑s₂ (.lst [])) b:=λb hb=>by obtain⟨f0,fr⟩:=f2 b hb;obtain⟨o,ho,_⟩:=T.obj _ _ st2 b hb;exact⟨by rw[aJ (MI (Mq ho))];exact f0,fr⟩
 have st3:tn 0 (s₂.heap.push {cls:=.type "list",data:=.seq ([]:List LP).toArray}):=T.keep _ _ _ st2 λb _ o e=>MJ _ e;generalize hD:↑s₂=D at*;generalize hs3:({s₂ with heap:=s₂.heap.push {cls:=.type "list",data:=.seq ([]:List LP).toArray}}:LR)=s₃ at*;have hst3:tn 0 s₃.heap:=by rw[<-hs3];exact st3
 refine vP (λh₁ hns₁ old hownC apC=>?_);generalize hC:↑s₃=C at*;have nC:∀b o,s₃.heap.get? b=some o->b≠C:=λb o e=>by rw[<-hC];exact MI (Mq e)
 obtain⟨ok',I4⟩:=pX (cp:=cp) (tgN:=tgN) hsc hN0 hk hown hfr hcp hcq I3 f3 (λb hb=>let⟨o,e,_⟩:=T.obj _ _ hst3 b hb;⟨o,e⟩) hC hns₁ old hownC apC;have hst4:tn 0 h₁:=T.keep _ _ _ hst3 λb _ o e=>old b o e;have loop:ND (LY X.prog X.w) X.A (.compLoop (.ListComp elt [⟨tg,iter,ifs,0⟩] scope pos) 0 (.ref it) (.ref D) (compEnvC scope (MB (C+1) scope.names (gT X.env scope.names [])) C X.env)) (compPost (LY X.prog X.w) X.A X.xe use RR (.ref D) C) {s₃ with heap:=h₁}:=by
  refine qQ (λn s'=>∃i σ' H',aA (ar X scope cp tgN C s₃ (bI H2 D (.lst [])) fp) [] σ' H' s'/\tn i s'.heap/\(∀b∈fp,H' b=none)/\W i n σ' H') ?_ (n0:=m0) ⟨0,_,_,I4,hst4,λb hb=>(f3 b hb).1,w0⟩;rintro n s5⟨i,σ5,H5,I5,st5,fr5,w5⟩;have stat:∀{H':Hp},(∀b∈fp,H' b=none)->∀b∈fp,j7 (ar X scope cp tgN C s₃ (bI H2 D (.lst [])) fp) [] H' b:=λhn b hb=>⟨hn b hb,(ok'.exf b hb).1,ok'.exfs b hb,.inl hb,(ok'.exf b hb).2,λp hp=>by simp[ar]at hp⟩;rcases turn i n σ5 H5 w5 with⟨stop,qn⟩|⟨go,N,hN,step⟩;·refine ck (T.done (ar X scope cp tgN C s₃ (bI H2 D (.lst [])) fp) rfl rfl rfl hc i [] s5 σ5 H5 (λ_ _=>False) I5 (stat fr5) st5 stop) λr s6⟨hr,I6⟩=>?_;subst hr;refine⟨λ_=>?_,λv z=>by cases z⟩;obtain⟨m,hn,_⟩:=I6.loc;exact fin C D H5 s6 ⟨m,hn⟩ qn (I3.fpOk (by rw[hC];exact MU _) I6.free) (pY I3 f3 nC I6)
  ·refine ck (T.item (ar X scope cp tgN C s₃ (bI H2 D (.lst [])) fp) rfl rfl rfl hc i [] s5 σ5 H5 (λ_ _=>False) I5 (stat fr5) st5 go) λr s6⟨u,hr,h6⟩=>?_;subst hr;refine⟨λz=>(by cases z),λv z=>?_⟩;cases z;refine ck h6 λ_ s7⟨x,H7,I7,r7,y7,st7,fr7⟩=>?_;have I7':=I7.pinned (stat fr7) (T.obj _ _ st7);have again:∀{σ8:L2.St}{H8:Hp}{s8:LR},aA (ar X scope cp tgN C s₃ (bI H2 D (.lst [])) fp) ([]++kh fp s7.heap) σ8 H8 s8->N σ8 H8->∃m,m<n/\∃i σ' H',aA (ar X scope cp tgN C s₃ (bI H2 D (.lst [])) fp) [] σ' H' s8/\tn i s8.heap/\(∀b∈fp,H' b=none)/\W i m σ' H':=fun{σ8 H8 s8}I8 n8=>by obtain⟨m',hm,w8⟩:=hN σ8 H8 n8;refine⟨m',hm,i+1,σ8,H8,I8.unpinned,T.keep _ _ _ st7 λb hb o e=>(I8.pin (b,o) (MR _ (MR _ (cA hb e)))).1,λb hb=>?_,w8⟩;obtain⟨o,e,d⟩:=T.obj _ _ st7 b hb;exact(I8.pin (b,o) (MR _ (MR _ (cA hb e)))).2.1
   refine ck (hg C s₃ (bI H2 D (.lst [])) fp _ s7 σ5 H7 x u _ I7' r7 (step x H7 y7)) λ_ s8⟨σ8,H8,I8,q8⟩=>?_;refine ck (ht C s₃ (bI H2 D (.lst [])) fp _ s8 σ8 H8 _ I8 q8) λok s9⟨H9,I9,q9⟩=>?_;cases ok with|false=>rw[if_neg Oo]at q9⊢;exact again I9 q9|true=>rw[if_pos rfl]at q9⊢;refine ck (he C s₃ (bI H2 D (.lst [])) fp _ s9 σ8 H9 _ I9 q9) λv s10⟨xv,H10,I10,r10,ys,hl,hz,n10⟩=>?_;refine ck (me _ s10 σ8 H10 (.ref D) [xv] (.ref D) [v] (λ_ H=>N σ8 H) I10 rfl (.cons r10 .nil) ⟨D,ys,xv,rfl,rfl,hl,hz,n10⟩) λ_ s11⟨_,H11,I11,_,q11⟩=>?_;exact again I11 q11
 exact codeAny_compStart_list loop (T.self X.A 0 _ _ _ hst4 loop)
theorem zp{X:Cx}{elt iter tg:LU}{ifs:List LU}{scope:Mr}{pos:Pos}{wi:TI}{g:TG}{tc:TT}{te:TE}(sc0:Mr)(N0:List Str)(cp:List (Nat×Str))(tgN:List Str)(hc:X.calm=true)(hsc:X.env.scope=sc0)(hN0:X.N=N0)(hi:PI X tg iter wi)(hg:∀C s0 H0 fp,PG (ar X scope cp tgN C s0 H0 fp) tg g)(ht:∀C s0 H0 fp,sr (ar X scope cp tgN C s0 H0 fp) ifs tc)(he:∀C s0 H0 fp,PE (ar X scope cp tgN C s0 H0 fp) elt te)(hk:scope.kind=.function)(hown:∀y∈scope.names,y.2=.cell->scope.names.lookup y.1=some .cell)(hnames:∀y∈scope.names,y.2=.local->scope.names.lookup y.1=some .local)(hfr:∀y∈scope.names,y.2=.free->scope.names.lookup y.1=some .free/\sc0.names.lookup y.1=some .cell)(hcp:∀p∈cp,N0[p.1]?=some p.2)(hcq:∀p∈cp,sc0.names.lookup p.2=some .cell/\scope.names.lookup p.2=some .free)(hs:∀x,NP iter X.env x=pure x:=by intro _;rfl):PE X (.ListComp elt [⟨tg,iter,ifs,0⟩] scope pos) (Ac cp tgN.length wi g tc te):=by intro pins s σ H Q I h;rw[eval_ListComp];exact yj sc0 N0 cp tgN hc hsc hN0 hi hg ht he hk hown hnames hfr hcp hcq hs I h λC D H5 s6⟨m,hn⟩q _ key=>⟨m,hn,λh' sb=>⟨.ref D,H5,key h' sb,rfl,q⟩⟩
def AH(sc0 scope:Mr)(N0:List Str)(cp:List (Nat×Str))(W:List Nat):Bool:=(scope.names.all λy=>(!(y.2==.local)||scope.names.lookup y.1==some .local)&&(!(y.2==.cell)||scope.names.lookup y.1==some .cell)&&(!(y.2==.free)||(scope.names.lookup y.1==some .free&&sc0.names.lookup y.1==some .cell)))&&(cp.all λp=>N0[p.1]?==some p.2&&sc0.names.lookup p.2==some .cell&&scope.names.lookup p.2==some .free)&&decide ((cp.map (·.1)).Nodup)&&W.all λj=>decide (cp.length<=j)
theorem vA{sc0 scope:Mr}{N0:List Str}{cp:List (Nat×Str)}{W:List Nat}(hch:AH sc0 scope N0 cp W=true):(∀y∈scope.names,y.2=.cell->scope.names.lookup y.1=some .cell)/\(∀y∈scope.names,y.2=.local->scope.names.lookup y.1=some .local)/\(∀y∈scope.names,y.2=.free->scope.names.lookup y.1=some .free/\sc0.names.lookup y.1=some .cell)/\(∀p∈cp,N0[p.1]?=some p.2)/\(∀p∈cp,sc0.names.lookup p.2=some .cell/\scope.names.lookup p.2=some .free)/\(cp.map (·.1)).Nodup/\∀j∈W,cp.length<=j:=by
 simp only[AH,MC,ML,decide_eq_true_eq]at hch;obtain⟨⟨⟨h1,h2⟩,h3⟩,h4⟩:=hch;refine⟨λy hy e=>?_,λy hy e=>?_,λy hy e=>?_,λp hp=>?_,λp hp=>?_,h3,h4⟩;·have:=(h1 y hy).1.2;rw[e]at this;simpa using this
 ·have:=(h1 y hy).1.1;rw[e]at this;simpa using this
 ·have:=(h1 y hy).2;rw[e]at this;simpa using this
 ·have:=(h2 p hp).1.1;simpa using this
 ·have a:=(h2 p hp).1.2;have c:=(h2 p hp).2;exact⟨by simpa using a,by simpa using c⟩
theorem nM{X:Cx}{K:⇑0}{pos:Pos}{elt iter tg:LU}{ifs:List LU}{scope:Mr}{fi:FI}{g:FG}{ft:FT}{fe:FE}{W:List Nat}(cp:List (Nat×Str))(tgN:List Str)(hKx:X.K=K)(hc:X.calm=true)(hi:PI X tg iter (fI K fi))(hg:∀C s0 H0 fp,PG (ar X scope cp tgN C s0 H0 fp) tg (fG K g W))(ht:∀C s0 H0 fp,sr (ar X scope cp tgN C s0 H0 fp) ifs (fT K ft))(he:∀C s0 H0 fp,PE (ar X scope cp tgN C s0 H0 fp) elt (fE K fe))(hk:scope.kind=.function)(hch:AH X.env.scope scope X.N cp W=true)(hs:∀x,NP iter X.env x=pure x):PE X (.ListComp elt [⟨tg,iter,ifs,0⟩] scope pos) (fE K (ig cp tgN.length fi g ft fe)):=by subst hKx;obtain⟨h0,h1,h2,h3,h4,h5,h6⟩:=vA hch;exact(zp X.env.scope X.N cp tgN hc rfl rfl hi hg ht he hk h0 h1 h2 h3 h4 hs).mono λ_ _ _ h=>Am h5 h6 h
open PySem PySem.Spec PyProof.Rows PySem.W
structure nj (lt:Nat->Nat->Bool):Prop where
 irr:∀i,lt i i=false
 tr:∀{i j k},lt i j=false->lt j k=false->lt i k=false
 asy:∀{i j},lt i j=true->lt j i=false
abbrev gA(p:Array Nat)(i:Nat):Nat:=p.getD i 0
structure Dm (n:Nat) (p:Array Nat):Prop where
 sz:p.size=n
 pm:p.Perm (MV (MD n))
theorem Dm.lt{n:Nat}{p:Array Nat}(h:Dm n p){i:Nat}(hi:i<n):gA p i<n:=by
 have hi':i<p.size:=by rw[h.sz];exact hi
 have e:gA p i=p[i]:=by simp[gA,NI,hi']
 rw[e];have:=(h.pm.mem_iff (a:=p[i])).mp (Array.getElem_mem hi');simpa using this
def SA(lt:Nat->Nat->Bool)(p:Array Nat)(m:Nat):Prop:=∀i j,i<j->j<m->lt (gA p j) (gA p i)=false
theorem p7{p q:Array Nat}{i j:Nat}(h:p[i]?=q[j]?):gA p i=gA q j:=by unfold gA;rw[Array.getD_eq_getD_getElem?,Array.getD_eq_getD_getElem?,h]
section
variable{lt:Nat->Nat->Bool}{n:Nat}(O:nj lt)
include O
theorem Dv{p:Array Nat}{k d i:Nat}(hk:k<p.size)(hd:d<=k):gA (bubble p k d) i=if i=k-d then gA p k else if k-d<i/\i<=k then gA p (i-1) else gA p i:=by
 have h:=getElem?_bubble hk d hd i;by_cases c:i=k-d;·rw[if_pos c]at h⊢;exact p7 h
 ·rw[if_neg c]at h⊢;by_cases c2:k-d<i/\i<=k;·rw[if_pos c2]at h⊢;exact p7 h
  ·rw[if_neg c2]at h⊢;exact p7 h
end
open PySem PySem.Spec PyProof.Rows PySem.W
section
variable{prog:Mc}{w:LV}{A:Md}{E:LP->LR->Prop}{s:LR}
end
open PySem PySem.Spec PyProof.Rows PySem.W
section
variable{X:Cx}{K:⇑0}
def Hl(h:LZ)(v:LP)(r:List Int):Prop:=∃(a:LQ) (o:Obj) (xs:List LP) (n:Nat),v=.ref a/\h.get? a=some o/\o.cls=.type "tuple"/\o.data=.seq xs.toArray n/\NF xs r
theorem jq{α:Type}(l:List α)(d:α):(MD l.length).map (λi=>l.getD i d)=l:=by
 refine Pc λi=>?_;rw[MS];by_cases h:i<l.length;·rw[List.getElem?_range h];simp[h]
 ·rw[Rg ↥7,Rg ↥0];rfl
theorem qB{us:List V}{vs:List LP}(h:aR us vs):∀(p:List Nat),(∀i∈p,i<us.length)->aR (p.map λi=>us.getD i .non) (p.map λi=>vs.getD i Value.none)|[],_=>.nil|i::p,hp=>by refine .cons ?_ (qB h p λj hj=>hp j (Nt _ hj));have hi:=hp i ↥1;obtain⟨u,h1,h2⟩:=h.get (i:=i) (x:=us[i]) (My hi);simp only[NT,h1,My hi,Og];exact h2
def fW(r:List Int):LS:=.tuple (r.map .int)
theorem sO{F:Hp}{ds:List LS}{us:List V}(h:aL K F ds us):∀(p:List Nat),(∀i∈p,i<ds.length)->aL K F (p.map λi=>ds.getD i .none) (p.map λi=>us.getD i .non)|[],_=>aL.nil|i::p,hp=>by have hi:=hp i ↥1;obtain⟨v,h1,h2⟩:=h.get (My hi);refine aL.cons ?_ (sO h p λj hj=>hp j (Nt _ hj));simp only[NT,h1,My hi,Og];exact h2
end
open PySem PySem.Spec PyProof.Rows PySem.W PySem.SeqAt
open PySem.AutoSeq1 (wpAny_loadPart')
open MeetsSeq MeetsSeq2 MeetsSeq3 SeqRoads2
def lU(A:Md)(s:LR)(y x:LP)(b:Bool):Prop:=∀(prog:Mc) (w:LV) (E:LP->LR->Prop) (Q:LP->LR->Prop),Q (.bool b) s->Ma (LY prog w) A (richCompare .Lt y x) Q E s
def wM(e lt:Nat->Bool)(fin:Bool):List Nat->Bool|[]=>fin|j::r=>if e j=true then wM e lt fin r else lt j
theorem ve(l b:LQ)(items items2:Array LP)(n n2:Nat)(dd dd2:Option LQ)(sl sl2:Array (Option LP))(e lt:Nat->Bool):Meets (NH.«tuple.__lt__» ⟨[.ref l,.ref b],[]⟩) (λA R s=>s.heap.get? l=some {cls:=.type "tuple",dict:=dd,data:=.seq items n,slots:=sl}/\s.heap.get? b=some {cls:=.type "tuple",dict:=dd2,data:=.seq items2 n2,slots:=sl2}/\(∀j (h1:j<items.size) (h2:j<items2.size),EqAt A.in1 s items[j] items2[j] (e j))/\(∀j (h1:j<items.size) (h2:j<items2.size),e j=false->lU A.in1 s items[j] items2[j] (lt j))/\R (.ok (.ret (.bool (wM e lt (decide (items.size<items2.size)) (MD (min items.size items2.size)))))) s):=.of_wp λprog w A R s h=>by
 obtain⟨hp,g,d,tk,os⟩:=s;obtain⟨hl,hb,he,hlt,h⟩:=h;have f2:=AutoSeq1.sub_tuple_tuple;have hZ:(items.toList.zip items2.toList).length=min items.size items2.size:=by simp
 wp_walk using OB hl,OB hb,wpAny_forIn_list _ (λdc b s'=>b.1=none/\s'=⟨hp,g,d,tk,os⟩/\∃i,dc=(items.toList.zip items2.toList).drop i/\R (.ok (.ret (.bool (wM e lt (decide (items.size<items2.size)) ((MD (min items.size items2.size)).drop i))))) ⟨hp,g,d,tk,os⟩) _;case turn=>
  rintro⟨y,x⟩dc b s'⟨hb',rfl,i,hz,hR⟩;have hlt':i<(items.toList.zip items2.toList).length:=by
   rcases Nat.lt_or_ge i (items.toList.zip items2.toList).length with h'|h';·exact h'
   ·rw[List.drop_of_length_le h']at hz;cases hz
  have hm:i<min items.size items2.size:=hZ▸hlt';have h1:i<items.size:=MW hm (Nat.min_le_left _ _);have h2:i<items2.size:=MW hm (Nat.min_le_right _ _);rw[Os hlt']at hz;injection hz with hyx hrest;have hy:y=items[i]:=by have:=congrArg Prod.fst hyx;simpa using this
  have hx:x=items2[i]:=by have:=congrArg Prod.snd hyx;simpa using this
  subst hy hx;have hd:(MD (min items.size items2.size)).drop i=i::(MD (min items.size items2.size)).drop (i+1):=by simp[Os,hm]
  rw[hd]at hR;unfold wM at hR;refine Mb (he i h1 h2 prog w _ _ ?_);cases hy:e i with|true=>rw[hy,if_pos rfl]at hR;wp_walk;exact⟨rfl,rfl,i+1,hrest,hR⟩|false=>rw[hy,if_neg ⋯]at hR;simp only[Bool.not_false,if_true];refine Mb (NW (Mb (hlt i h1 h2 hy prog w _ _ ?_)));wp_walk;exact⟨_,rfl,by simpa using hR⟩
 case fin=>
  rintro⟨b1,b2⟩s'⟨hb',rfl,i,hz,hR⟩;simp only at hb';subst hb';have hge:min items.size items2.size<=i:=by
   rcases Nat.lt_or_ge i (items.toList.zip items2.toList).length with h'|h';·rw[Os h']at hz;cases hz
   ·exact hZ▸h'
  rw[List.drop_of_length_le (by simpa using hge)]at hR;wp_walk;exact⟨_,rfl,by simpa[Builtin.Tuple.tupleCompareSizes,wM]using hR⟩
 case h=>exact⟨rfl,rfl,0,rfl,by simpa using h⟩
theorem lU.tuples{A:Md}{s:LR}{l b:LQ}{items items2:Array LP}{e lt:Nat->Bool}(hl:s.heap.IsTuple l items)(hb:s.heap.IsTuple b items2)(hu:A.units<cLine)(he:∀j (h1:j<items.size) (h2:j<items2.size),EqAt A.in1 s items[j] items2[j] (e j))(hlt:∀j (h1:j<items.size) (h2:j<items2.size),e j=false->lU A.in1 s items[j] items2[j] (lt j)):lU A s (.ref l) (.ref b) (wM e lt (decide (items.size<items2.size)) (MD (min items.size items2.size))):=λprog w E Q h=>by obtain⟨⟨cls,dd,data,sl⟩,ho,hc,n,hd⟩:=id hl;obtain⟨⟨cls2,dd2,data2,sl2⟩,ho2,hc2,n2,hd2⟩:=id hb;simp only at hc hd hc2 hd2;subst hc hd hc2 hd2;exact richCompare_meets_room (op:=.Lt) ⟨_,ho,rfl⟩ ⟨_,ho2,rfl⟩ F.slot_tuple_lt F.entry_tuple_lt (F.args_tuple_lt_2 _ _) (ve l b items items2 n n2 dd dd2 sl sl2 e lt) ⟨ho,ho2,he,hlt,show Value.bool _≠Value.notImplemented/\Q (.bool _) s from⟨(λx=>nomatch x),h⟩⟩ hu
open PySem PySem.Spec PyProof.Rows PySem.W PySem.SeqAt
def pG{α:Type}(E L:α->α->Bool)(fin:Bool):List α->List α->Bool|x::xs,y::ys=>if E x y=true then pG E L fin xs ys else L x y|_,_=>fin
theorem vH{e lt:Nat->Bool}{fin:Bool}{f:Nat->Nat}:∀l:List Nat,wM e lt fin (l.map f)=wM (λj=>e (f j)) (λj=>lt (f j)) fin l|[]=>rfl|j::r=>by simp only[Mp,wM,vH r]
theorem q5{α:Type}{E L:α->α->Bool}{fin:Bool}{d:α}:∀xs ys:List α,wM (λj=>E (xs.getD j d) (ys.getD j d)) (λj=>L (xs.getD j d) (ys.getD j d)) fin (MD (min xs.length ys.length))=pG E L fin xs ys|[],_=>by simp[wM,pG]|_::_,[]=>by simp[wM,pG]|x::xs,y::ys=>by rw[show min (x::xs).length (y::ys).length=min xs.length ys.length+1 by simp only[Nj];lia,List.range_succ_eq_map];have ih:=q5 (E:=E) (L:=L) (fin:=fin) (d:=d) xs ys;simp only[wM,vH,pG,List.getD_cons_zero,List.getD_cons_succ,Nat.succ_eq_add_one];rw[ih]
theorem rm{α:Type}[DecidableEq α][LT α][DecidableLT α](hi:∀a:α,¬a<a):∀xs ys:List α,pG (λa b=>decide (a=b)) (λa b=>decide (a<b)) (decide (xs.length<ys.length)) xs ys=decide (xs<ys)
 |[],[]=>by simp[pG]|[],_::_=>by simp[pG]|_::_,[]=>by simp[pG]|x::xs,y::ys=>by
  have e:decide ((x::xs).length<(y::ys).length)=decide (xs.length<ys.length):=by simp
  unfold pG;rw[e];by_cases c:x=y;·rw[if_pos (decide_eq_true c),rm hi xs ys,decide_eq_decide,Pq];subst c;exact⟨λh=>.inr ⟨rfl,h⟩,λh=>h.elim (λz=>(hi _ z).elim) λz=>z.2⟩
  ·rw[if_neg (by simpa using c),decide_eq_decide,Pq];exact⟨.inl,λh=>h.elim id λz=>(c z.1).elim⟩
theorem gB{h:LZ}:∀{vs:List LP}{ds:List LS}{as:List LQ},ReadsAll h vs ds as->vs.length=ds.length/\∀(j:Nat) (h1:j<vs.length) (h2:j<ds.length),∃bs,MZ h vs[j] ds[j] bs|_,_,_,.nil=>⟨rfl,λj h1 _=>by simp at h1⟩|_,_,_,.cons r rs=>by obtain⟨l,q⟩:=gB rs;refine⟨by simp[l],λj h1 h2=>?_⟩;cases j with|zero=>exact⟨_,r⟩|succ j=>exact q j (by simpa using h1) (by simpa using h2)
theorem dY{h:LZ}{v:LP}{ds:List LS}{as:List LQ}(r:MZ h v (.tuple ds) as):∃(a:LQ) (o:Obj) (vs:Array LP) (n:Nat),v=.ref a/\h.get? a=some o/\o.cls=.type "tuple"/\o.data=.seq vs n/\vs.size=ds.length/\∀(j:Nat) (h1:j<vs.size) (h2:j<ds.length),∃bs,MZ h vs[j] ds[j] bs:=by cases r with|tuple h1 h2 h3 h4=>obtain⟨l,q⟩:=gB h4;exact⟨_,_,_,_,rfl,h1,h2,h3,by simpa using l,λj a b=>by have z:=q j (by simpa using a) b;rw[Array.getElem_toList]at z;exact z⟩
section
variable{A:Md}{s:LR}
theorem lU.int(a:Int)(t:Tok)(b:Int)(u:Tok):lU A s (.int a t) (.int b u) (decide (a<b)):=λprog w E Q h=>wpAny_lt_int h
theorem tu{v v':LP}{f f':List Int}{as bs:List LQ}(r:MZ s.heap v (fW f) as)(r':MZ s.heap v' (fW f') bs)(hu:A.units<cLine):lU A s v v' (decide (f<f')):=by
 obtain⟨a,o,vs,n,rfl,o1,o2,o3,l1,q1⟩:=dY r;obtain⟨b,p,ws,m,rfl,p1,p2,p3,l2,q2⟩:=dY r';rw[Mn]at l1 l2;have it:∀(j:Nat) (h:j<vs.size),∃t,vs[j]=.int (f.getD j 0) t:=λj h=>by
  have hf:j<f.length:=by lia
  obtain⟨_,z⟩:=q1 j h (by simpa using hf);rw[QG]at z;rw[NT,My hf];generalize vs[j]=x at z⊢;cases z with|int i t=>exact⟨t,rfl⟩
 have iw:∀(j:Nat) (h:j<ws.size),∃t,ws[j]=.int (f'.getD j 0) t:=λj h=>by
  have hf:j<f'.length:=by lia
  obtain⟨_,z⟩:=q2 j h (by simpa using hf);rw[QG]at z;rw[NT,My hf];generalize ws[j]=x at z⊢;cases z with|int i t=>exact⟨t,rfl⟩
 have z:=lU.tuples (A:=A) (s:=s) (l:=a) (b:=b) (items:=vs) (items2:=ws) (e:=λj=>decide (f.getD j 0=f'.getD j 0)) (lt:=λj=>decide (f.getD j 0<f'.getD j 0)) ⟨o,o1,o2,n,o3⟩ ⟨p,p1,p2,m,p3⟩ hu (λj h1 h2=>by obtain⟨t,e1⟩:=it j h1;obtain⟨u,e2⟩:=iw j h2;rw[e1,e2];exact EqAt.int_int _ _ _ _) (λj h1 h2 _=>by obtain⟨t,e1⟩:=it j h1;obtain⟨u,e2⟩:=iw j h2;rw[e1,e2];exact lU.int _ _ _ _);rw[l1,l2]at z;rw[q5 (E:=λa b=>decide (a=b)) (L:=λa b=>decide (a<b)) (d:=(0:Int)) f f',rm (λa=>Int.lt_irrefl a)]at z;exact z
theorem nK:∀(f f':List Int),Oj (f.map .int) (f'.map .int)=decide (f=f')
 |[],[]=>rfl|[],_::_=>rfl|_::_,[]=>rfl|a::f,b::f'=>by
  show((a==b)&&Oj (f.map .int) (f'.map .int))=_;rw[nK f f'];by_cases c:a=b;·subst c;simp
  ·simp[c]
theorem sQ:∀(R R':List (List Int)),Oj (R.map fW) (R'.map fW)=decide (R=R')
 |[],[]=>rfl|[],_::_=>rfl|_::_,[]=>rfl|a::f,b::f'=>by
  show(Oj (a.map .int) (b.map .int)&&Oj (f.map fW) (f'.map fW))=_;rw[nK,sQ f f'];by_cases c:a=b;·subst c;simp
  ·simp[c]
theorem iI(f:List Int):(fW f).canLay0=true/\(fW f).depth<=1:=by
 have h1:Na (f.map PyData.int)=true:=by induction f with|nil=>rfl|cons n r ih=>simp[Na,MM,ih]
 have h2:Ni (f.map PyData.int)=0:=by clear h1;induction f with|nil=>rfl|cons n r ih=>simp[Ni,MT,ih]
 exact⟨by show MM (.tuple (f.map .int))=true;simp[MM,h1],by show MT (.tuple (f.map .int))<=1;simp[MT,h2]⟩
theorem yU(R:List (List Int)):(PyData.tuple (R.map fW)).canLay0=true/\(PyData.tuple (R.map fW)).depth<=2:=by
 have h1:Na (R.map fW)=true:=by induction R with|nil=>rfl|cons n r ih=>simp[Na,(iI n).1,ih]
 have h2:Ni (R.map fW)<=1:=by clear h1;induction R with|nil=>simp[Ni]|cons n r ih=>have:=(iI n).2;simp only[Mp,Ni];lia
 exact⟨by simp[MM,h1],by simp only[MT];lia⟩
theorem xf{v v':LP}{R R':List (List Int)}{as bs:List LQ}(r:MZ s.heap v (.tuple (R.map fW)) as)(r':MZ s.heap v' (.tuple (R'.map fW)) bs)(hu:A.units+8<cLine):lU A s v v' (decide (R<R')):=by
 obtain⟨a,o,vs,n,rfl,o1,o2,o3,l1,q1⟩:=dY r;obtain⟨b,p,ws,m,rfl,p1,p2,p3,l2,q2⟩:=dY r';rw[Mn]at l1 l2;have it:∀(j:Nat) (h:j<vs.size),∃bs,MZ s.heap vs[j] (fW (R.getD j [])) bs:=λj h=>by
  have hf:j<R.length:=by lia
  obtain⟨c,z⟩:=q1 j h (by simpa using hf);rw[QG]at z;rw[NT,My hf];exact⟨c,z⟩
 have iw:∀(j:Nat) (h:j<ws.size),∃bs,MZ s.heap ws[j] (fW (R'.getD j [])) bs:=λj h=>by
  have hf:j<R'.length:=by lia
  obtain⟨c,z⟩:=q2 j h (by simpa using hf);rw[QG]at z;rw[NT,My hf];exact⟨c,z⟩
 have z:=lU.tuples (A:=A) (s:=s) (l:=a) (b:=b) (items:=vs) (items2:=ws) (e:=λj=>decide (R.getD j []=R'.getD j [])) (lt:=λj=>decide (R.getD j []<R'.getD j [])) ⟨o,o1,o2,n,o3⟩ ⟨p,p1,p2,m,p3⟩ ↥0 (λj h1 h2=>by obtain⟨t,e1⟩:=it j h1;obtain⟨u,e2⟩:=iw j h2;have:=eqAt_reads _ _ A.in1 s _ _ _ _ e1 e2 (iI _).1 (iI _).1 (by have:=(iI (R.getD j [])).2;rw[QH];lia);rw[show Nb (fW (R.getD j [])) (fW (R'.getD j []))=decide (R.getD j []=R'.getD j []) from nK _ _]at this;exact this) (λj h1 h2 _=>by obtain⟨t,e1⟩:=it j h1;obtain⟨u,e2⟩:=iw j h2;exact tu e1 e2 (by rw[QH];lia));rw[l1,l2]at z;rw[q5 (E:=λa b=>decide (a=b)) (L:=λa b=>decide (a<b)) (d:=([]:List Int)) R R',rm (λa=>Qb a)]at z;exact z
end
inductive Cm|i (k:Int)|r (f:List Int)|rs (R:List (List Int))
def Cm.d:Cm->LS|.i k=>.int k|.r f=>fW f|.rs R=>.tuple (R.map fW)
def Cm.k:Cm->List (List Int)|.i k=>[[k]]|.r f=>[f]|.rs R=>R
def Cm.s:Cm->Nat|.i _=>0|.r _=>1|.rs R=>2+R.length
theorem Cm.kl{c c':Cm}(h:c.s=c'.s):c.k.length=c'.k.length:=by cases c<;>cases c'<;>simp only[Cm.s,Cm.k]at*<;>first|rfl|lia
theorem zi{f f':List Int}:[f]<[f']↔f<f':=by rw[Pq];simp[Qb]
theorem Bl{a b:Int}:[a]<[b]↔a<b:=by rw[Pq];simp[Qb]
section
variable{A:Md}{s:LR}
theorem Cm.ltAt{c c':Cm}{v v':LP}{as bs:List LQ}(h:c.s=c'.s)(r:MZ s.heap v c.d as)(r':MZ s.heap v' c'.d bs)(hu:A.units+8<cLine):lU A s v v' (decide (c.k<c'.k)):=by cases c with
 |i k=>cases c' with
  |i k'=>cases r with|int _ t=>cases r' with|int _ u=>rw[show decide (Cm.k (.i k)<Cm.k (.i k'))=decide (k<k') by rw[decide_eq_decide];exact zi.trans Bl];exact lU.int _ _ _ _
  |r f=>simp[Cm.s]at h|rs R=>simp only[Cm.s]at h;lia
 |r f=>cases c' with|r f'=>rw[show decide (Cm.k (.r f)<Cm.k (.r f'))=decide (f<f') by rw[decide_eq_decide];exact zi];exact tu r r' ↥0|i k=>simp[Cm.s]at h|rs R=>simp only[Cm.s]at h;lia
 |rs R=>cases c' with|rs R'=>exact xf r r' hu|i k=>simp only[Cm.s]at h;lia|r f=>simp only[Cm.s]at h;lia
theorem Cm.lay(c:Cm):c.d.canLay0=true/\c.d.depth<=2:=by cases c with|i k=>exact⟨rfl,by simp[Cm.d,MT]⟩|r f=>exact⟨(iI f).1,Mv (iI f).2 ⋯⟩|rs R=>exact yU R
theorem Cm.eqv{c c':Cm}(h:c.s=c'.s):Nb c.d c'.d=decide (c.k=c'.k):=by cases c with
 |i k=>cases c' with
  |i k'=>
   show(k==k')=decide ([[k]]=[[k']]);by_cases z:k=k';·subst z;simp
   ·simp[z]|r f=>simp[Cm.s]at h|rs R=>simp only[Cm.s]at h;lia
 |r f=>cases c' with|r f'=>show Oj _ _=decide ([f]=[f']);rw[nK];simp|i k=>simp[Cm.s]at h|rs R=>simp only[Cm.s]at h;lia
 |rs R=>cases c' with|rs R'=>exact sQ R R'|i k=>simp only[Cm.s]at h;lia|r f=>simp only[Cm.s]at h;lia
theorem Cm.eqAt{c c':Cm}{v v':LP}{as bs:List LQ}(h:c.s=c'.s)(r:MZ s.heap v c.d as)(r':MZ s.heap v' c'.d bs)(hu:A.units+8<cLine):EqAt A s v v' (decide (c.k=c'.k)):=by have:=eqAt_reads _ _ A s _ _ _ _ r r' c.lay.1 c'.lay.1 (by have:=c.lay.2;lia);rw[Cm.eqv h]at this;exact this
end
abbrev p9(cs:List Cm):List (List Int):=cs.flatMap Cm.k
theorem xV:∀{u v u' v':List (List Int)},u.length=v.length->(u++u'<v++v'↔u<v\/u=v/\u'<v')
 |[],[],u',v',_=>by simp|[],_::_,_,_,h=>by simp at h|_::_,[],_,_,h=>by simp at h|a::u,b::v,u',v',h=>by
  rw[Oi,Oi,Pq,Pq,xV (u:=u) (v:=v) (by simpa using h)];constructor
  ·rintro(z|⟨z,y|⟨y,x⟩⟩);·exact .inl (.inl z)
   ·exact .inl (.inr ⟨z,y⟩)
   ·exact .inr ⟨by rw[z,y],x⟩
  ·rintro((z|⟨z,y⟩)|⟨z,y⟩);·exact .inl z
   ·exact .inr ⟨z,.inl y⟩
   ·injection z with z1 z2;exact .inr ⟨z1,.inr ⟨z2,y⟩⟩
theorem FQ{prog:Mc}{w:LV}{A:Md}{Q:Bool->LR->Prop}{s:LR}(hu:A.units+8<cLine):∀{cs cs':List Cm}{xs ys:List LP}{as bs:List LQ}(i:Nat),cs.map Cm.s=cs'.map Cm.s->ReadsAll s.heap xs (cs.map Cm.d) as->ReadsAll s.heap ys (cs'.map Cm.d) bs->Q (decide (p9 cs<p9 cs')) s->KatLex prog w A false false Q (xs.zip ys) i s
 |[],[],_,_,_,_,i,_,.nil,.nil,h=>kat_nil (by simpa[p9]using h)|[],_::_,_,_,_,_,_,h,_,_,_=>by simp at h|_::_,[],_,_,_,_,_,h,_,_,_=>by simp at h|c::cs,c'::cs',_,_,_,_,i,hs,.cons r rs,.cons r' rs',h=>by
  have h1:c.s=c'.s:=by simpa using (Qc hs).1
  have h2:cs.map Cm.s=cs'.map Cm.s:=(Qc hs).2;have hl:=Cm.kl h1;have al:=xV (u':=p9 cs) (v':=p9 cs') hl;rw[show p9 (c::cs)=c.k++p9 cs from rfl,show p9 (c'::cs')=c'.k++p9 cs' from rfl]at h;refine kat_cons (Cm.eqAt h1 r r' hu _ _ _ _ ?_);by_cases e:c.k=c'.k;·rw[decide_eq_true e];refine kat_yes (FQ hu (i+1) h2 rs rs' ?_);rw[show decide (c.k++p9 cs<c'.k++p9 cs')=decide (p9 cs<p9 cs') by rw[decide_eq_decide,al];exact⟨λz=>z.elim (λz=>by rw[e]at z;exact(Qb _ z).elim) λz=>z.2,λz=>.inr ⟨e,z⟩⟩]at h;exact h
  ·rw[decide_eq_false e];refine kat_no (kat_one _ _ (Cm.ltAt h1 r r' hu _ _ _ _ ?_));rw[show decide (c.k++p9 cs<c'.k++p9 cs')=decide (c.k<c'.k) by rw[decide_eq_decide,al];exact⟨λz=>z.elim id λz=>(e z.1).elim,.inl⟩]at h;exact h
open PySem PySem.Spec PyProof.Rows PySem.W PySem.SeqAt
def EE:LS->Option (List Int)|.tuple ds=>jo ds|_=>none
def tO:List LS->Option (List (List Int))|[]=>some []|d::r=>(EE d).bind λa=>(tO r).map (a::·)
def wH:LS->Option Cm
 |.int k=>some (.i k)|.tuple ds=>match jo ds with|some f=>some (.r f)|none=>(tO ds).map .rs
 |_=>none
def yk:List LS->Option (List Cm)|[]=>some []|d::r=>(wH d).bind λa=>(yk r).map (a::·)
def tM:LS->Option (List Cm)|.tuple ds=>yk ds|_=>none
theorem BR{d:LS}{f:List Int}(h:EE d=some f):d=fW f:=by cases d with|tuple ds=>exact congrArg PyData.tuple (jp h)|_=>cases h
theorem tP:∀{ds:List LS}{R:List (List Int)},tO ds=some R->ds=R.map fW|[],_,h=>by cases h;rfl|d::r,R,h=>by obtain⟨a,h1,h2⟩:=LH h;obtain⟨R',h3,rfl⟩:=LI h2;rw[Mp,<-BR h1,<-tP h3]
theorem AI{d:LS}{c:Cm}(h:wH d=some c):d=c.d:=by cases d with
 |int k=>cases h;rfl|tuple ds=>dsimp only[wH]at h;cases e:jo ds with|some f=>rw[e]at h;cases h;exact congrArg PyData.tuple (jp e)|none=>rw[e]at h;obtain⟨R,h3,rfl⟩:=LI h;exact congrArg PyData.tuple (tP h3)
 |_=>cases h
theorem vD:∀{ds:List LS}{cs:List Cm},yk ds=some cs->ds=cs.map Cm.d|[],_,h=>by cases h;rfl|d::r,cs,h=>by obtain⟨a,h1,h2⟩:=LH h;obtain⟨R',h3,rfl⟩:=LI h2;rw[Mp,<-AI h1,<-vD h3]
theorem jT{d:LS}{cs:List Cm}(h:tM d=some cs):d=.tuple (cs.map Cm.d):=by cases d with|tuple ds=>exact congrArg PyData.tuple (vD h)|_=>cases h
def iH(d:LS):List (List Int):=match tM d with|some cs=>p9 cs|none=>[]
def m9(ds:List LS):List LS:=ds.mergeSort λa b=>decide (iH a<=iH b)
theorem kr(ds:List LS):(m9 ds).Perm ds:=Qx ds _
theorem HD(ks:Nat->List (List Int)):nj λi j=>decide (ks i<ks j) where
 irr i:=decide_eq_false (Qb _);tr{i j k}h1 h2:=by simp only[decide_eq_false_iff_not,List.not_lt]at*;exact List.le_trans h2 h1
 asy{i j}h:=by simp only[decide_eq_true_eq,decide_eq_false_iff_not]at*;exact List.lt_asymm h
theorem Cm.inj{c c':Cm}(h:c.s=c'.s)(k:c.k=c'.k):c=c':=by cases c with
 |i a=>cases c' with|i b=>simp[Cm.k]at k;rw[k]|r f=>simp[Cm.s]at h|rs R=>simp only[Cm.s]at h;lia
 |r f=>cases c' with|r f'=>simp[Cm.k]at k;rw[k]|i a=>simp[Cm.s]at h|rs R=>simp only[Cm.s]at h;lia
 |rs R=>cases c' with|rs R'=>rw[show R=R' from k]|i a=>simp only[Cm.s]at h;lia|r f=>simp only[Cm.s]at h;lia
theorem vM:∀{cs cs':List Cm},cs.map Cm.s=cs'.map Cm.s->p9 cs=p9 cs'->cs=cs'|[],[],_,_=>rfl|[],_::_,h,_=>by simp at h|_::_,[],h,_=>by simp at h|c::cs,c'::cs',h,k=>by have h1:c.s=c'.s:=(Qc h).1;have hk:c.k++p9 cs=c'.k++p9 cs':=k;obtain⟨k1,k2⟩:=List.append_inj hk (Cm.kl h1);rw[Cm.inj h1 k1,vM (Qc h).2 k2]
def xB(sh:List Nat)(ds:List LS):Prop:=∀d∈ds,∃cs,tM d=some cs/\cs.map Cm.s=sh
theorem xB.inj{sh:List Nat}{ds:List LS}(h:xB sh ds){a b:LS}(ha:a∈ds)(hb:b∈ds)(e:iH a=iH b):a=b:=by obtain⟨cs,h1,h2⟩:=h a ha;obtain⟨cs',h3,h4⟩:=h b hb;unfold iH at e;rw[h1,h3]at e;have:=vM (h2.trans h4.symm) e;rw[jT h1,jT h3,this]
theorem t5{sh:List Nat}{ds ds':List LS}(h:xB sh ds)(p:ds'.Perm ds)(hs:ds'.Pairwise λa b=>iH a<=iH b):ds'=m9 ds:=by have h2:=QY (le:=λa b:LS=>decide (iH a<=iH b)) (λa b c h1 h2=>by simp only[decide_eq_true_eq]at*;exact List.le_trans h1 h2) (λa b=>by simp only[PZ,decide_eq_true_eq];exact List.le_total _ _) ds;refine List.Perm.eq_of_pairwise (le:=λa b=>iH a<=iH b) (λa b ha hb h1 h2=>h.inj (p.mem_iff.mp ha) ((kr ds).mem_iff.mp hb) (List.le_antisymm h1 h2)) hs (h2.imp λh=>by simpa using h) (p.trans (kr ds).symm)
theorem rW{sh:List Nat}{ds:List LS}(h:xB sh ds){p:Array Nat}(hp:Dm ds.length p)(hs:SA (λi j=>decide (iH (ds.getD i .none)<iH (ds.getD j .none))) p ds.length):(p.toList.map λi=>ds.getD i .none)=m9 ds:=by
 refine t5 h ?_ ?_
 ·have q:p.toList.Perm (MD ds.length):=by simpa using QI.mp hp.pm
  have:=q.map λi=>ds.getD i .none;rwa[jq]at this
 ·rw[Pr];intro i j hi hj hij;rw[Mn,MQ,hp.sz]at hi hj;have:=hs i j hij hj;simp only[decide_eq_false_iff_not,List.not_lt]at this;have ei:gA p i=p[i]'(by rw[hp.sz];exact hi):=by simp[gA,NI,hp.sz,hi]
  have ej:gA p j=p[j]'(by rw[hp.sz];exact hj):=by simp[gA,NI,hp.sz,hj]
  rw[ei,ej]at this;simpa using this
theorem xc(cs:List Cm):(PyData.tuple (cs.map Cm.d)).canLay0=true:=by
 have h1:Na (cs.map Cm.d)=true:=by induction cs with|nil=>rfl|cons n r ih=>simp[Na,n.lay.1,ih]
 simp[MM,h1]
theorem j6{h:LZ}{n0:Nat}{sh:List Nat}(n1:n0≠0):∀(vs:List LP) (ds:List LS),vs.length=ds.length->(∀d∈ds,∃cs,tM d=some cs/\cs.map Cm.s=n0::sh)->(∀(i:Nat) (v:LP) (d:LS),vs[i]?=some v->ds[i]?=some d->∃as,MZ h v d as)->∃fs,KatTups h vs fs/\fs.length=vs.length/\∀v∈fs,∃a,v=.ref a/\KitAt a "tuple" h|[],[],_,_,_=>⟨[],KatTups.nil,rfl,λv h=>by cases h⟩|[],_::_,h,_,_=>by simp at h|_::_,[],h,_,_=>by simp at h|v::vs,d::ds,hl,hd,hr=>by obtain⟨fs,t,l,q⟩:=j6 n1 vs ds (by simpa using hl) (λx hx=>hd x (by simp[hx])) λi v d a b=>hr (i+1) v d (by simpa using a) (by simpa using b);obtain⟨cs,h1,h2⟩:=hd d ↥1;obtain⟨as,r⟩:=hr 0 v d rfl rfl;rw[jT h1]at r;obtain⟨a,o,xs,n,rfl,o1,o2,o3,lx,qx⟩:=dY r;cases cs with|nil=>simp at h2|cons c cs=>
 have c0:c.s≠0:=by have:=(Qc h2).1;rw[this];exact n1
 have x0:0<xs.size:=by rw[lx];simp
 obtain⟨bs,r0⟩:=qx 0 x0 ↥1;have r1:MZ h xs[0] c.d bs:=by simpa using r0
 have ex:∃b,xs[0]=.ref b/\KitAt b "tuple" h:=by cases c with|i k=>exact(c0 rfl).elim|r f=>obtain⟨b,o',_,_,e1,e2,e3,_⟩:=dY (show MZ h xs[0] (.tuple (f.map .int)) bs from r1);exact⟨b,e1,o',e2,e3⟩|rs R=>obtain⟨b,o',_,_,e1,e2,e3,_⟩:=dY (show MZ h xs[0] (.tuple (R.map fW)) bs from r1);exact⟨b,e1,o',e2,e3⟩
 refine⟨xs[0]::fs,KatTups.cons o1 o2 o3 (by simp[x0]) t,by simp[l],λz hz=>?_⟩;rcases LN hz with rfl|hz;·exact ex
 ·exact q z hz
section
variable{X:Cx}{K:⇑0}
def Ga:List LS->Bool|[]=>true|d::r=>match tM d with|some (c::cs)=>(c.s !=0)&&(d::r).all λx=>(tM x).map (OM Cm.s)==some ((c::cs).map Cm.s)|_=>false
theorem ze{ds:List LS}(h:Ga ds=true):∃n0 sh,n0≠0/\xB (n0::sh) ds:=by cases ds with|nil=>exact⟨1,[],by decide,λd h=>by cases h⟩|cons d r=>dsimp only[Ga]at h;cases e:tM d with|none=>rw[e]at h;cases h|some cs=>rw[e]at h;cases cs with|nil=>cases h|cons c cs=>simp only[MC,bne_iff_ne]at h;refine⟨c.s,cs.map Cm.s,h.1,λx hx=>?_⟩;have:=ML.mp h.2 x hx;rw[beq_iff_eq]at this;obtain⟨cs',h1,h2⟩:=LI this;exact⟨cs',h1,h2⟩
end
open PySem PySem.Spec PyProof.Rows PySem.W
def Fu:Bool->MP->Array MP->Nat->Nat->Nat->StateT Mz Sem (Option Nat):=sortPriv% PySem.Builtin.gallop
structure xU (prog:Mc) (w:LV) (A:Md) (s:LR) (κ:Ob) (it:Array MP) (N:Nat) (lt:Nat->Nat->Bool):Prop where
 ask:∀i j (C:Bool->LR->Prop),i<N->j<N->C (lt i j) s->Ma (LY prog w) A (keyLt' κ (kas_item it i).1 (kas_item it j).1) C (λ_ _=>False) s
 ord:nj lt
section
variable{prog:Mc}{w:LV}{A:Md}{E:LP->LR->Prop}{s:LR}{κ:Ob}{it:Array MP}{N:Nat}{lt:Nat->Nat->Bool}{st:Mz}
theorem uk(O:xU prog w A s κ it N lt){i j:Nat}{Q:Option Bool->Mz->Prop}(hk:MX st=κ)(hi:i<N)(hj:j<N)(h:Q (some (lt i j)) st):wpS (LY prog w) A E s (lt' (kas_item it i) (kas_item it j)) Q st:=by rw[lt'_eq];refine LX (Ol ?_);rw[hk];refine LX (ON (wpAny_attempt (Ms (O.ask i j (λb s'=>b=lt i j/\s'=s) hi hj ⟨rfl,rfl⟩) (λc s' hc=>?_) λ_ _ z=>z.elim)));obtain⟨rfl,rfl⟩:=hc;exact⟨rfl,LW h⟩
theorem bo{q:Array Nat}{i:Nat}{Q:MP->Mz->Prop}(hi:i<q.size)(h:Q (kas_item it (gA q i)) st):wpS (LY prog w) A E s (elem' (q.map (kas_item it)) i) Q st:=by
 rw[elem'_eq];have e:(q.map (kas_item it))[i]?=some (kas_item it (gA q i)):=by simp[gA,NI,hi]
 rw[e];exact LW h
def eR(left:Bool)(lt:Nat->Nat->Bool)(k x:Nat):Bool:=if left=true then lt x k else !lt k x
theorem Ap(O:xU prog w A s κ it N lt){left:Bool}{k base i:Nat}{q:Array Nat}{Q:Option Bool->Mz->Prop}(hk:MX st=κ)(hi:base+i<q.size)(hq:∀j,j<q.size->gA q j<N)(hkN:k<N)(h:Q (some (eR left lt k (gA q (base+i)))) st):wpS (LY prog w) A E s (elem' (q.map (kas_item it)) (base+i)>>=λx=>if left=true then lt' x (kas_item it k) else lt' (kas_item it k) x>>=λr=>pure (Option.map (λb=>!b) r)) Q st:=by refine LX (bo hi ?_);unfold eR at h;cases left with|true=>exact uk O hk (hq _ hi) hkN h|false=>exact LX (uk O hk hkN (hq _ hi) (LW h))
theorem Aq{n lo0 hi0:Nat}{B:Nat->Bool}{f:Nat->Option (Option Nat)×Nat×Nat->StateT Mz Sem (ForInStep (Option (Option Nat)×Nat×Nat))}{Q:Option (Option Nat)×Nat×Nat->Mz->Prop}(h1:∀x lo hi R,hi<=lo->R (.done (none,lo,hi)) st->wpS (LY prog w) A E s (f x (none,lo,hi)) R st)(h2:∀x lo hi R,lo<hi->hi<=n->R (if B (lo+(hi-lo)/2)=true then .yield (none,lo+(hi-lo)/2+1,hi) else .yield (none,lo,lo+(hi-lo)/2)) st->wpS (LY prog w) A E s (f x (none,lo,hi)) R st)(mono:∀i j,i<j->j<n->B j=true->B i=true)(l0:lo0<=hi0)(hn:hi0<=n)(a:∀i,i<lo0->B i=true)(b:∀i,hi0<=i->i<n->B i=false)(h:∀r,r<=n->(∀i,i<r->B i=true)->(∀i,r<=i->i<n->B i=false)->Q (none,r,r) st):wpS (LY prog w) A E s (forIn [:n] (none,lo0,hi0) f) Q st:=by
 refine Nq (I:=λx c st'=>st'=st/\∃lo hi,c=(none,lo,hi)/\lo<=hi/\hi<=n/\(∀i,i<lo->B i=true)/\(∀i,hi<=i->i<n->B i=false)/\hi-lo<=n-x) ?_ ?_ ⟨rfl,lo0,hi0,rfl,l0,hn,a,b,by lia⟩
 ·rintro x c st' _ hx⟨rfl,lo,hi,rfl,c1,c2,c3,c4,c5⟩;by_cases c:lo<hi
  ·refine h2 x lo hi _ c c2 ?_;have m1:lo+(hi-lo)/2<hi:=by lia
   by_cases d:B (lo+(hi-lo)/2)=true
   ·rw[if_pos d];refine⟨rfl,_,_,rfl,by lia,c2,λi hi'=>?_,c4,by lia⟩;by_cases e:i=lo+(hi-lo)/2;·rw[e];exact d
    ·exact mono i _ ↥0 ↥0 d
   ·rw[if_neg d];refine⟨rfl,_,_,rfl,by lia,by lia,c3,λi h1 h2=>?_,by lia⟩;cases e:B i with|false=>rfl|true=>
    refine absurd ?_ d;by_cases z:i=lo+(hi-lo)/2;·rw[<-z];exact e
    ·exact mono _ i ↥0 h2 e
  ·have:lo=hi:=by lia
   subst this;exact h1 x lo lo _ ↥8 (h lo c2 c3 c4)
 ·rintro c st'⟨rfl,lo,hi,rfl,c1,c2,c3,c4,c5⟩;have:lo=hi:=by lia
  subst this;exact h lo c2 c3 c4
theorem dN(O:xU prog w A s κ it N lt){left:Bool}{k:Nat}{q:Array Nat}{base n hint:Nat}{Q:Option Nat->Mz->Prop}(hk:MX st=κ)(hq:∀j,j<q.size->gA q j<N)(hkN:k<N)(hb:base+n<=q.size)(hh:hint<n)(mono:∀i j,i<j->j<n->eR left lt k (gA q (base+j))=true->eR left lt k (gA q (base+i))=true)(h:∀r,r<=n->(∀i,i<r->eR left lt k (gA q (base+i))=true)->(∀i,r<=i->i<n->eR left lt k (gA q (base+i))=false)->Q (some r) st):wpS (LY prog w) A E s (Fu left (kas_item it k) (q.map (kas_item it)) base n hint) Q st:=by
 generalize hB:(λi=>eR left lt k (gA q (base+i)))=B at*;have eB:∀i,eR left lt k (gA q (base+i))=B i:=λi=>by rw[<-hB]
 simp only[eB]at mono h;have up:∀i j,i<=j->j<n->B j=true->B i=true:=λi j a b c=>by
  by_cases e:i=j;·rw[e];exact c
  ·exact mono i j (by omega) b c
 have dn:∀i j,i<=j->j<n->B i=false->B j=false:=λi j a b c=>by cases e:B j with|false=>rfl|true=>rw[up i j a b e]at c;cases c
 unfold Fu;refine LX (Ap O hk (by omega) hq hkN ?_)
 rw[eB];dsimp only;cases c:B hint with|true=>
  rw[if_pos rfl];refine LX (Ny (Nq (I:=λx c st'=>st'=st/\∃la of,c=(none,la,of)/\la<of/\x<of/\hint+la<n/\B (hint+la)=true) (Q:=λc st'=>st'=st/\∃la of,c=(none,la,of)/\la<of/\hint+la<n/\B (hint+la)=true/\(n-hint<=of\/B (hint+of)=false)) ?step ?fin ⟨rfl,0,1,rfl,by omega,by omega,by omega,c⟩) ?post);case fin=>rintro c st'⟨rfl,la,of,rfl,c1,c2,c3,c4⟩;exact⟨rfl,la,of,rfl,c1,c3,c4,.inl (by omega)⟩
  case step=>
   rintro x c st' _ hx⟨rfl,la,of,rfl,c1,c2,c3,c4⟩;dsimp only;by_cases d:n-hint<=of;·rw[if_pos d];exact LW ⟨rfl,la,of,rfl,c1,c3,c4,.inl d⟩
   ·rw[if_neg d];refine LX (Ap O hk (by omega) hq hkN ?_);rw[eB];dsimp only;cases e:B (hint+of) with|true=>rw[if_neg ⋯];exact LW ⟨rfl,of,2*of+1,rfl,by omega,by omega,by omega,e⟩|false=>rw[if_pos ⋯];exact LW ⟨rfl,la,of,rfl,c1,c3,c4,.inr e⟩
  case post=>
   rintro c st'⟨rfl,la,of,rfl,c1,c3,c4,c5⟩;dsimp only;refine LX (Aq (B:=B) (λx lo hi R c h=>?_) (λx lo hi R c hn h=>?_) mono (by omega) (by omega) (λi hi=>up i (hint+la) (by omega) c3 c4) (λi h1 h2=>?_) λr a b c=>LW (h r a b c));·dsimp only;rw[if_pos c];exact LW h
   ·dsimp only;rw[if_neg (by omega)];refine LX (Ap O hk (by omega) hq hkN ?_);rw[eB];dsimp only;cases e:B (lo+(hi-lo)/2) with|true=>rw[e,if_pos rfl]at h;rw[if_pos rfl];exact LW h|false=>rw[e,if_neg ⋯]at h;rw[if_neg ⋯];exact LW h
   ·rcases c5 with z|z;·omega
    ·exact dn (hint+of) i (by omega) h2 z|false=>
  rw[if_neg ⋯];refine LX (Ny (Nq (I:=λx c st'=>st'=st/\∃la of,c=(none,la,of)/\la<of/\x<of/\la<=hint/\B (hint-la)=false) (Q:=λc st'=>st'=st/\∃la of,c=(none,la,of)/\la<of/\la<=hint/\B (hint-la)=false/\(hint+1<=of\/(of<=hint/\B (hint-of)=true))) ?step2 ?fin2 ⟨rfl,0,1,rfl,by omega,by omega,by omega,c⟩) ?post2);case fin2=>rintro c st'⟨rfl,la,of,rfl,c1,c2,c3,c4⟩;exact⟨rfl,la,of,rfl,c1,c3,c4,.inl (by omega)⟩
  case step2=>
   rintro x c st' _ hx⟨rfl,la,of,rfl,c1,c2,c3,c4⟩;dsimp only;by_cases d:hint+1<=of;·rw[if_pos d];exact LW ⟨rfl,la,of,rfl,c1,c3,c4,.inl d⟩
   ·rw[if_neg d];refine LX (Ap O hk (by omega) hq hkN ?_);rw[eB];dsimp only;cases e:B (hint-of) with|true=>rw[if_pos rfl];exact LW ⟨rfl,la,of,rfl,c1,c3,c4,.inr ⟨by omega,e⟩⟩|false=>rw[if_neg ⋯];exact LW ⟨rfl,of,2*of+1,rfl,by omega,by omega,by omega,e⟩
  case post2=>
   rintro c st'⟨rfl,la,of,rfl,c1,c3,c4,c5⟩;dsimp only;refine LX (Aq (B:=B) (λx lo hi R c h=>?_) (λx lo hi R c hn h=>?_) mono (by omega) (by omega) (λi hi=>?_) (λi h1 h2=>dn (hint-la) i (by omega) h2 c4) λr a b c=>LW (h r a b c));·dsimp only;rw[if_pos c];exact LW h
   ·dsimp only;rw[if_neg (by omega)];refine LX (Ap O hk (by omega) hq hkN ?_);rw[eB];dsimp only;cases e:B (lo+(hi-lo)/2) with|true=>rw[e,if_pos rfl]at h;rw[if_pos rfl];exact LW h|false=>rw[e,if_neg ⋯]at h;rw[if_neg ⋯];exact LW h
   ·rcases c5 with z|⟨z1,z2⟩;·omega
    ·exact up i (hint-of) (by omega) (by omega) z2
end
open PySem PySem.Spec PyProof.Rows PySem.W
section
variable{lt:Nat->Nat->Bool}(O:nj lt)
abbrev a8(lt:Nat->Nat->Bool)(x y:Nat):Prop:=lt y x=false
include O
theorem a8.rf(x:Nat):a8 lt x x:=O.irr x
theorem a8.tr{x y z:Nat}(h1:a8 lt x y)(h2:a8 lt y z):a8 lt x z:=O.tr h2 h1
theorem a8.of{x y:Nat}(h:lt x y=true):a8 lt x y:=O.asy h
end
structure Fn (lt:Nat->Nat->Bool) (A B r:List Nat):Prop where pm:r.Perm (A++B)so:r.Pairwise (a8 lt)
structure Mg (lt:Nat->Nat->Bool) (A B o:List Nat) (ia ib:Nat):Prop where
 pm:o.Perm (A.take ia++B.take ib)so:o.Pairwise (a8 lt)la:∀x∈o,∀y∈A.drop ia,a8 lt x y
 lb:∀x∈o,∀y∈B.drop ib,a8 lt x y
section
variable{lt:Nat->Nat->Bool}{A B o:List Nat}{ia ib:Nat}
theorem Mg.first:Mg lt A B [] 0 0:=⟨by simp,List.Pairwise.nil,λx h=>(by cases h),λx h=>(by cases h)⟩
theorem je(A:List Nat)(i k:Nat):A.drop i=(A.drop i).take k++A.drop (i+k):=by rw[<-List.drop_drop,OD]
theorem take_add(A:List Nat)(i k:Nat):A.take (i+k)=A.take i++(A.drop i).take k:=by rw[List.take_add]
theorem Mg.extA(h:Mg lt A B o ia ib)(sA:A.Pairwise (a8 lt))(k:Nat)(hc:∀x∈(A.drop ia).take k,∀y∈B.drop ib,a8 lt x y):Mg lt A B (o++(A.drop ia).take k) (ia+k) ib:=by
 have sd:(A.drop ia).Pairwise (a8 lt):=Pd (List.drop_sublist _ _) sA;have sd':=sd;rw[je A ia k,Nz]at sd';refine⟨?_,?_,λx hx y hy=>?_,λx hx y hy=>?_⟩;·rw[take_add];refine(h.pm.append_right _).trans ?_;rw[MA,MA];exact Ot _ Oc
 ·rw[Nz];exact⟨h.so,sd'.1,λx hx y hy=>h.la x hx y (Rh hy)⟩
 ·rcases LK hx with hx|hx;·refine h.la x hx y ?_;rw[je A ia k];exact MR _ hy
  ·exact sd'.2.2 x hx y hy
 ·rcases LK hx with hx|hx;·exact h.lb x hx y hy
  ·exact hc x hx y hy
theorem Mg.sw(h:Mg lt A B o ia ib):Mg lt B A o ib ia:=⟨h.pm.trans Oc,h.so,h.lb,h.la⟩
theorem Mg.extB(h:Mg lt A B o ia ib)(sB:B.Pairwise (a8 lt))(k:Nat)(hc:∀x∈(B.drop ib).take k,∀y∈A.drop ia,a8 lt x y):Mg lt A B (o++(B.drop ib).take k) ia (ib+k):=(h.sw.extA sB k hc).sw
theorem Mg.doneB(h:Mg lt A B o ia B.length)(sA:A.Pairwise (a8 lt)):Fn lt A B (o++A.drop ia++B.drop B.length):=by
 rw[QJ,Mu];refine⟨?_,?_⟩;·have:=h.pm.append_right (A.drop ia);rw[List.take_length]at this;refine this.trans ?_;rw[MA];refine(Ot _ Oc).trans ?_;rw[<-MA,OD]
 ·rw[Nz];exact⟨h.so,Pd (List.drop_sublist _ _) sA,h.la⟩
theorem Mg.doneA(h:Mg lt A B o A.length ib)(sB:B.Pairwise (a8 lt)):Fn lt A B (o++A.drop A.length++B.drop ib):=by have:=h.sw.doneB sB;rw[QJ,Mu]at this⊢;exact⟨this.pm.trans Oc,this.so⟩
theorem Mg.lastA(h:Mg lt A B o ia ib)(sB:B.Pairwise (a8 lt))(e:ia+1=A.length)(hl:∀x∈B,∀y∈A.drop ia,a8 lt x y):Fn lt A B (o++B.drop ib++A.drop ia):=by
 refine⟨?_,?_⟩;·have:=(h.pm.append_right (B.drop ib)).append_right (A.drop ia);refine this.trans ?_;rw[MA (A.take ia),OD,MA];refine(Ot _ Oc).trans ?_;rw[<-MA,OD]
 ·rw[Nz,Nz];have l1:(A.drop ia).length=1:=by rw[NY];lia
  obtain⟨z,hz⟩:=List.length_eq_one_iff.mp l1;refine⟨⟨h.so,Pd (List.drop_sublist _ _) sB,h.lb⟩,by rw[hz];simp,λx hx y hy=>?_⟩;rcases LK hx with hx|hx;·exact h.la x hx y hy
  ·exact hl x (List.mem_of_mem_drop hx) y hy
end
section
variable{it:Array MP}
theorem pU(o:List Nat)(x:Nat):((o.map (kas_item it)).toArray).push (kas_item it x)=((o++[x]).map (kas_item it)).toArray:=by simp
theorem aP(o p:List Nat):(o.map (kas_item it)).toArray++(p.map (kas_item it)).toArray=((o++p).map (kas_item it)).toArray:=by simp
theorem xM(a:Array Nat)(i j:Nat):(a.map (kas_item it)).extract i j=(((a.toList.drop i).take (j-i)).map (kas_item it)).toArray:=by refine Array.ext' ?_;simp[Rj]
theorem xT(a:Array Nat)(i:Nat):(a.map (kas_item it)).extract i a.size=((a.toList.drop i).map (kas_item it)).toArray:=by rw[xM];congr 2;refine Rk ?_;simp
theorem E3(a:Array Nat){i:Nat}(h:i<a.size):(a.toList.drop i).take 1=[gA a i]:=by
 have e:gA a i=a.toList[i]'(by simpa using h):=by simp[gA,NI,h]
 rw[e,Os (by simpa using h)];rfl
theorem fF(a:Array Nat){y:Nat}{i:Nat}(h:y∈a.toList.drop i):∃j,i<=j/\j<a.size/\y=gA a j:=by
 obtain⟨j,hj,e⟩:=List.mem_iff_getElem.mp h;rw[Pt]at e;rw[NY,MQ]at hj;refine⟨i+j,by lia,by lia,?_⟩;have h1:i+j<a.size:=by lia
 rw[<-e];simp[gA,NI,h1]
theorem du(a:Array Nat){y i k:Nat}(h:y∈(a.toList.drop i).take k):∃t,t<k/\i+t<a.size/\y=gA a (i+t):=by
 obtain⟨t,ht,e⟩:=List.mem_iff_getElem.mp h;rw[Qd,Pt]at e;rw[Nh,NY,MQ]at ht;have h1:i+t<a.size:=by lia
 refine⟨t,by lia,h1,?_⟩;rw[<-e];simp[gA,NI,h1]
theorem f9{lt:Nat->Nat->Bool}{a:Array Nat}(sA:a.toList.Pairwise (a8 lt)){i j:Nat}(h1:i<j)(h2:j<a.size):a8 lt (gA a i) (gA a j):=by
 have:=Pr.mp sA i j ↥7 (by simpa using h2) h1;have hi:i<a.size:=by lia
 simpa[gA,NI,h2,hi]using this
theorem cH{lt:Nat->Nat->Bool}(O:nj lt){a:Array Nat}(sA:a.toList.Pairwise (a8 lt)){i j:Nat}(h1:i<=j)(h2:j<a.size):a8 lt (gA a i) (gA a j):=by
 by_cases e:i=j;·subst e;exact a8.rf O _
 ·exact f9 sA ↥0 h2
end
open PySem PySem.Spec PyProof.Rows PySem.W
def FX:Array MP->Array MP->StateT Mz Sem (Array MP):=sortPriv% PySem.Builtin.mergeLo
abbrev lN(st:Mz)(g:Nat):Mz:=Ou (MX st) (arrOf st) (pendingOf st) g (failedOf st)
section
variable{prog:Mc}{w:LV}{A:Md}{E:LP->LR->Prop}{s:LR}{κ:Ob}{it:Array MP}{N:Nat}{lt:Nat->Nat->Bool}{st:Mz}{a b:Array Nat}
structure ur (lt:Nat->Nat->Bool) (a b:Array Nat) (o:List Nat) (ia ib:Nat):Prop where
 m:Mg lt a.toList b.toList o ia ib
 ha:ia+1<a.size
 hb:ib<b.size
structure nV (N:Nat) (lt:Nat->Nat->Bool) (a b:Array Nat):Prop where
 o:nj lt
 sa:a.toList.Pairwise (a8 lt)sb:b.toList.Pairwise (a8 lt)qa:∀j,j<a.size->gA a j<N
 qb:∀j,j<b.size->gA b j<N
 a0:0<a.size
 b0:0<b.size
 fst:lt (gA b 0) (gA a 0)=true
 lst:∀j,j<b.size->lt (gA b j) (gA a (a.size-1))=true
theorem nV.pB(T:nV N lt a b){o:List Nat}{ia ib:Nat}(h:Mg lt a.toList b.toList o ia ib)(hb:ib<b.size)(hc:ia<a.size->a8 lt (gA b ib) (gA a ia)):Mg lt a.toList b.toList (o++[gA b ib]) ia (ib+1):=by
 have:=h.extB T.sb 1 λx hx y hy=>by rw[E3 b hb]at hx;rw[Pa]at hx;subst hx;obtain⟨j,j1,j2,rfl⟩:=fF a hy;exact a8.tr T.o (hc ↥0) (cH T.o T.sa j1 j2)
 rw[E3 b hb]at this;exact this
theorem nV.pA(T:nV N lt a b){o:List Nat}{ia ib:Nat}(h:Mg lt a.toList b.toList o ia ib)(ha:ia<a.size)(hc:ib<b.size->a8 lt (gA a ia) (gA b ib)):Mg lt a.toList b.toList (o++[gA a ia]) (ia+1) ib:=by
 have:=h.extA T.sa 1 λx hx y hy=>by rw[E3 a ha]at hx;rw[Pa]at hx;subst hx;obtain⟨j,j1,j2,rfl⟩:=fF b hy;exact a8.tr T.o (hc ↥0) (cH T.o T.sb j1 j2)
 rw[E3 a ha]at this;exact this
theorem nV.endB(T:nV N lt a b){o:List Nat}{ia ib:Nat}(h:Mg lt a.toList b.toList o ia ib)(e:ib=b.size):Fn lt a.toList b.toList (o++a.toList.drop ia++b.toList.drop ib):=by
 have e':ib=b.toList.length:=by simpa using e
 subst e';exact h.doneB T.sa
theorem nV.endA(T:nV N lt a b){o:List Nat}{ia ib:Nat}(h:Mg lt a.toList b.toList o ia ib)(e:ia=a.size):Fn lt a.toList b.toList (o++a.toList.drop ia++b.toList.drop ib):=by
 have e':ia=a.toList.length:=by simpa using e
 subst e';exact h.doneA T.sb
theorem nV.endL(T:nV N lt a b){o:List Nat}{ia ib:Nat}(h:Mg lt a.toList b.toList o ia ib)(e:ia+1=a.size):Fn lt a.toList b.toList (o++b.toList.drop ib++a.toList.drop ia):=by refine h.lastA T.sb (by simpa using e) λx hx y hy=>?_;obtain⟨j,j1,j2,rfl⟩:=fF a hy;rw[<-Pu (l:=b.toList)]at hx;obtain⟨i,_,i2,rfl⟩:=fF b hx;rw[show j=a.size-1 by lia];exact a8.of T.o (T.lst i i2)
theorem HW(Or:xU prog w A s κ it N lt)(T:nV N lt a b)(hk:MX st=κ){Q:Array MP->Mz->Prop}(h:∀r g,Fn lt a.toList b.toList r->Q ((r.map (kas_item it)).toArray) (lN st g)):wpS (LY prog w) A E s (FX (a.map (kas_item it)) (b.map (kas_item it))) Q st:=by
 have a0:=T.a0;have b0:=T.b0;have m0:Mg lt a.toList b.toList [gA b 0] 0 1:=by have:=T.pB (Mg.first (A:=a.toList) (B:=b.toList) (lt:=lt)) b0 λ_=>a8.of T.o T.fst;exact this
 unfold FX;refine LX (ON (NW ⟨rfl,?_⟩));refine LX (bo b0 ?_);simp only[QK];rw[show#[kas_item it (gA b 0)]=(([gA b 0]:List Nat).map (kas_item it)).toArray from rfl];by_cases c1:1=b.size;·rw[if_pos (by simpa using c1)];refine LW ?_;rw[xT,xT,aP,aP];have:=h _ (gallopOf st) (T.endB m0 c1);exact this
 rw[if_neg (by simpa using c1)];by_cases c2:0+1=a.size;·rw[if_pos (by simpa using c2)];refine LW ?_;rw[xT,xT,aP,aP];exact h _ (gallopOf st) (T.endL m0 c2)
 rw[if_neg (by simpa using c2)];refine LX (Ol ?_);refine LX (Ny (Nq (I:=λx c st'=>∃o ia ib mg g,c=(none,(o.map (kas_item it)).toArray,ia,ib,mg)/\ur lt a b o ia ib/\x<ia+ib/\st'=lN st g) (Q:=λc st'=>∃r g,c.1=some ((r.map (kas_item it)).toArray)/\Fn lt a.toList b.toList r/\st'=lN st g) ?step ?fin ⟨[gA b 0],0,1,gallopOf st,gallopOf st,rfl,⟨m0,by lia,by lia⟩,by lia,rfl⟩) ?post);case fin=>rintro c st'⟨o,ia,ib,mg,g,rfl,R,hx,rfl⟩;have:=R.ha;have:=R.hb;lia
 case post=>rintro⟨c1,c2⟩st'⟨r,g,e,F,rfl⟩;dsimp only at e;subst e;exact LW (h r g F)
 case step=>
  rintro x c st' _ hx⟨o,ia,ib,mg,g,rfl,R,hp,rfl⟩;dsimp only;refine LX (Ny (Nq (I:=λy c st'=>st'=lN st g/\∃o ia ib ac bc,c=(none,(o.map (kas_item it)).toArray,ia,ib,ac,bc)/\ur lt a b o ia ib/\x<ia+ib/\(1<=y->x+1<ia+ib)) (Q:=λc st'=>st'=lN st g/\((∃r,c.1=some ((r.map (kas_item it)).toArray)/\Fn lt a.toList b.toList r)\/∃o ia ib ac bc,c=(none,(o.map (kas_item it)).toArray,ia,ib,ac,bc)/\ur lt a b o ia ib/\x+1<ia+ib)) ?s1 ?f1 ⟨rfl,o,ia,ib,0,0,rfl,R,hp,by lia⟩) ?p1);case f1=>rintro c st'⟨rfl,o,ia,ib,ac,bc,rfl,R,h1,h2⟩;exact⟨rfl,.inr ⟨o,ia,ib,ac,bc,rfl,R,h2 ↥0⟩⟩
  case s1=>
   rintro y c st' _ hy⟨rfl,o,ia,ib,ac,bc,rfl,R,h1,h2⟩;have ha:=R.ha;have hb:=R.hb;dsimp only;refine LX (bo hb (LX (bo ↥0 (LX (uk Or hk (T.qb _ hb) (T.qa _ ↥0) ?_)))))
   dsimp only;cases c:lt (gA b ib) (gA a ia) with|true=>
    rw[if_pos rfl];refine LX (bo hb ?_);have m1:=T.pB R.m hb λ_=>a8.of T.o c;rw[pU];by_cases c3:ib+1=b.size;·rw[if_pos (by simpa using c3)];refine LW ⟨rfl,.inl ⟨_,?_,T.endB m1 c3⟩⟩;rw[xT,xT,aP,aP]
    ·rw[if_neg (by simpa using c3)];have R1:ur lt a b (o++[gA b ib]) ia (ib+1):=⟨m1,ha,by lia⟩;by_cases c5:bc+1>=mg;·rw[if_pos c5];exact LW ⟨rfl,.inr ⟨o++[gA b ib],_,_,_,_,rfl,R1,by lia⟩⟩
     ·rw[if_neg c5];exact LW ⟨rfl,o++[gA b ib],_,_,_,_,rfl,R1,by lia,by lia⟩|false=>
    rw[if_neg ⋯];refine LX (bo ↥0 ?_);have m1:=T.pA R.m ↥0 λ_=>c;rw[pU];by_cases c3:ia+1+1=a.size;·rw[if_pos (by simpa using c3)];refine LW ⟨rfl,.inl ⟨_,?_,T.endL m1 c3⟩⟩;rw[xT,xT,aP,aP]
    ·rw[if_neg (by simpa using c3)];have R1:ur lt a b (o++[gA a ia]) (ia+1) ib:=⟨m1,by lia,hb⟩;by_cases c5:ac+1>=mg;·rw[if_pos c5];exact LW ⟨rfl,.inr ⟨o++[gA a ia],_,_,_,_,rfl,R1,by lia⟩⟩
     ·rw[if_neg c5];exact LW ⟨rfl,o++[gA a ia],_,_,_,_,rfl,R1,by lia,by lia⟩
  case p1=>
   rintro⟨c1,c2⟩st'⟨rfl,⟨r,e,F⟩|⟨o,ia,ib,ac,bc,e,R,h1⟩⟩;·dsimp only at e;subst e;exact LW ⟨r,g,rfl,F,rfl⟩
   ·cases e;dsimp only;refine LX (ON (NW ⟨rfl,?_⟩));refine LX (Ny (Nq (I:=λy c st'=>∃o ia ib mg ac bc g,c=(none,(o.map (kas_item it)).toArray,ia,ib,mg,ac,bc)/\ur lt a b o ia ib/\x+1<ia+ib/\st'=lN st g) (Q:=λc st'=>∃g,st'=lN st g/\((∃r,c.1=some ((r.map (kas_item it)).toArray)/\Fn lt a.toList b.toList r)\/∃o ia ib mg ac bc,c=(none,(o.map (kas_item it)).toArray,ia,ib,mg,ac,bc)/\ur lt a b o ia ib/\x+1<ia+ib)) ?s2 ?f2 ⟨o,ia,ib,_,ac,bc,g,rfl,R,h1,rfl⟩) ?p2);case f2=>rintro c st'⟨o,ia,ib,mg,ac,bc,g,rfl,R,h1,rfl⟩;exact⟨g,rfl,.inr ⟨o,ia,ib,mg,ac,bc,rfl,R,h1⟩⟩
    case p2=>
     rintro⟨c1,c2⟩st'⟨g,rfl,⟨r,e,F⟩|⟨o,ia,ib,mg,ac,bc,e,R,h1⟩⟩;·dsimp only at e;subst e;exact LW ⟨r,g,rfl,F,rfl⟩
     ·cases e;dsimp only;refine LX (NU (LW ⟨o,ia,ib,_,_,rfl,R,by lia,rfl⟩))
    case s2=>
     rintro y c st' _ hy⟨o,ia,ib,mg,ac,bc,g,rfl,R,h1,rfl⟩;have ha:=R.ha;have hb:=R.hb;dsimp only;have moA:∀i j,i<j->j<a.size-ia->eR false lt (gA b ib) (gA a (ia+j))=true->eR false lt (gA b ib) (gA a (ia+i))=true:=λi j h1 h2 h3=>by unfold eR at*;rw[if_neg ⋯,Oa]at*;exact a8.tr T.o (f9 T.sa (show ia+i<ia+j by lia) ↥0) h3
     by_cases cm:mg>1
     ·rw[if_pos cm];refine LX (NU ?_);refine LX (bo hb ?_);refine LX (dN Or hk T.qa (T.qb _ hb) ↥0 ↥0 moA λk kn k1 k2=>?_);dsimp only;have m1:=R.m.extA T.sa k λx hx y hy=>by obtain⟨t,t1,t2,rfl⟩:=du a hx;obtain⟨j,j1,j2,rfl⟩:=fF b hy;have e:=k1 t t1;unfold eR at e;rw[if_neg ⋯,Oa]at e;exact a8.tr T.o e (cH T.o T.sb j1 j2)
      have hba:ia+k<a.size->a8 lt (gA b ib) (gA a (ia+k)):=λz=>by have e:=k2 k ↥8 ↥0;unfold eR at e;rw[if_neg ⋯,Qe]at e;exact a8.of T.o e
      rcases NS k with z|z
      ·subst z;rw[if_neg ⋯];rw[Ov]at m1 hba;rw[NA,Mu]at m1;refine LX (bo hb ?_);rw[pU];have m2:=T.pB m1 hb hba;by_cases c4:ib+1=b.size;·rw[if_pos (by simpa using c4)];refine LW ⟨_,rfl,.inl ⟨_,?_,T.endB m2 c4⟩⟩;rw[xT,xT,aP,aP]
       rw[if_neg (by simpa using c4)];refine LX (bo ↥0 ?_);refine LX (dN Or hk T.qb (T.qa _ ↥0) ↥0 ↥0 (λi j h1 h2 h3=>by unfold eR at*;rw[if_pos rfl]at*;cases e:lt (gA b (ib+1+i)) (gA a (ia)) with|true=>rfl|false=>have:=a8.tr T.o e (f9 T.sb (show ib+1+i<ib+1+j by lia) ↥0);exact Om (h3.symm.trans this)) λk3 kn3 e1 e2=>?_);dsimp only;have m3:=m2.extB T.sb k3 λx hx y hy=>by obtain⟨t,t1,t2,rfl⟩:=du b hx;obtain⟨j,j1,j2,rfl⟩:=fF a hy;have e:=e1 t t1;unfold eR at e;rw[if_pos rfl]at e;exact a8.tr T.o (a8.of T.o e) (cH T.o T.sa j1 j2)
       have hab:ib+1+k3<b.size->a8 lt (gA a (ia)) (gA b (ib+1+k3)):=λz=>by have e:=e2 k3 ↥8 ↥0;unfold eR at e;rw[if_pos rfl]at e;exact e
       rcases NS k3 with z3|z3
       ·subst z3;rw[if_neg ⋯];rw[Ov]at m3 hab;rw[NA,Mu]at m3;refine LX (bo ↥0 ?_);rw[pU];have m4:=T.pA m3 ↥0 hab;by_cases c6:ia+1+1=a.size;·rw[if_pos (by simpa using c6)];refine LW ⟨_,rfl,.inl ⟨_,?_,T.endL m4 c6⟩⟩;rw[xT,xT,aP,aP]
        rw[if_neg (by simpa using c6)];have R1:ur lt a b ((o++[gA b ib])++[gA a (ia)]) (ia+1) (ib+1):=⟨m4,by lia,by lia⟩;by_cases c7:(decide (0<7)&&decide (0<7))=true;·rw[if_pos c7];exact LW ⟨_,rfl,.inr ⟨(o++[gA b ib])++[gA a (ia)],_,_,_,_,_,rfl,R1,by lia⟩⟩
        ·rw[if_neg c7];exact LW ⟨(o++[gA b ib])++[gA a (ia)],_,_,_,_,_,_,rfl,R1,by lia,rfl⟩
       ·rw[if_pos z3];by_cases c8:ib+1+k3=b.size;·rw[if_pos (by simpa using c8)];refine LW ⟨_,rfl,.inl ⟨_,?_,T.endB m3 c8⟩⟩;rw[xM,xT,xT,aP,aP,aP,show ib+1+k3-(ib+1)=k3 by lia]
        rw[if_neg (by simpa using c8),xM,aP,show ib+1+k3-(ib+1)=k3 by lia];refine LX (bo ↥0 ?_);rw[pU];have m4:=T.pA m3 ↥0 hab;by_cases c6:ia+1+1=a.size;·rw[if_pos (by simpa using c6)];refine LW ⟨_,rfl,.inl ⟨_,?_,T.endL m4 c6⟩⟩;rw[xT,xT,aP,aP]
        rw[if_neg (by simpa using c6)];have R1:ur lt a b ((o++[gA b ib]++(b.toList.drop (ib+1)).take k3)++[gA a (ia)]) (ia+1) (ib+1+k3):=⟨m4,by lia,by lia⟩;by_cases c7:(decide (0<7)&&decide (k3<7))=true;·rw[if_pos c7];exact LW ⟨_,rfl,.inr ⟨(o++[gA b ib]++(b.toList.drop (ib+1)).take k3)++[gA a (ia)],_,_,_,_,_,rfl,R1,by lia⟩⟩
        ·rw[if_neg c7];exact LW ⟨(o++[gA b ib]++(b.toList.drop (ib+1)).take k3)++[gA a (ia)],_,_,_,_,_,_,rfl,R1,by lia,rfl⟩
      ·rw[if_pos z];by_cases c9:ia+k+1=a.size;·rw[if_pos (by simpa using c9)];refine LW ⟨_,rfl,.inl ⟨_,?_,T.endL m1 c9⟩⟩;rw[xM,xT,xT,aP,aP,aP,show ia+k-ia=k by lia]
       rw[if_neg (by simpa using c9)];by_cases c10:ia+k=a.size;·rw[if_pos (by simpa using c10)];refine LW ⟨_,rfl,.inl ⟨_,?_,T.endA m1 c10⟩⟩;rw[xM,xT,xT,aP,aP,aP,show ia+k-ia=k by lia]
       rw[if_neg (by simpa using c10),xM,aP,show ia+k-ia=k by lia];refine LX (bo hb ?_);rw[pU];have m2:=T.pB m1 hb hba;by_cases c4:ib+1=b.size;·rw[if_pos (by simpa using c4)];refine LW ⟨_,rfl,.inl ⟨_,?_,T.endB m2 c4⟩⟩;rw[xT,xT,aP,aP]
       rw[if_neg (by simpa using c4)];refine LX (bo ↥0 ?_);refine LX (dN Or hk T.qb (T.qa _ ↥0) ↥0 ↥0 (λi j h1 h2 h3=>by unfold eR at*;rw[if_pos rfl]at*;cases e:lt (gA b (ib+1+i)) (gA a (ia+k)) with|true=>rfl|false=>have:=a8.tr T.o e (f9 T.sb (show ib+1+i<ib+1+j by lia) ↥0);exact Om (h3.symm.trans this)) λk3 kn3 e1 e2=>?_);dsimp only;have m3:=m2.extB T.sb k3 λx hx y hy=>by obtain⟨t,t1,t2,rfl⟩:=du b hx;obtain⟨j,j1,j2,rfl⟩:=fF a hy;have e:=e1 t t1;unfold eR at e;rw[if_pos rfl]at e;exact a8.tr T.o (a8.of T.o e) (cH T.o T.sa j1 j2)
       have hab:ib+1+k3<b.size->a8 lt (gA a (ia+k)) (gA b (ib+1+k3)):=λz=>by have e:=e2 k3 ↥8 ↥0;unfold eR at e;rw[if_pos rfl]at e;exact e
       rcases NS k3 with z3|z3
       ·subst z3;rw[if_neg ⋯];rw[Ov]at m3 hab;rw[NA,Mu]at m3;refine LX (bo ↥0 ?_);rw[pU];have m4:=T.pA m3 ↥0 hab;by_cases c6:ia+k+1+1=a.size;·rw[if_pos (by simpa using c6)];refine LW ⟨_,rfl,.inl ⟨_,?_,T.endL m4 c6⟩⟩;rw[xT,xT,aP,aP]
        rw[if_neg (by simpa using c6)];have R1:ur lt a b (((o++(a.toList.drop ia).take k)++[gA b ib])++[gA a (ia+k)]) (ia+k+1) (ib+1):=⟨m4,by lia,by lia⟩;by_cases c7:(decide (k<7)&&decide (0<7))=true;·rw[if_pos c7];exact LW ⟨_,rfl,.inr ⟨((o++(a.toList.drop ia).take k)++[gA b ib])++[gA a (ia+k)],_,_,_,_,_,rfl,R1,by lia⟩⟩
        ·rw[if_neg c7];exact LW ⟨((o++(a.toList.drop ia).take k)++[gA b ib])++[gA a (ia+k)],_,_,_,_,_,_,rfl,R1,by lia,rfl⟩
       ·rw[if_pos z3];by_cases c8:ib+1+k3=b.size;·rw[if_pos (by simpa using c8)];refine LW ⟨_,rfl,.inl ⟨_,?_,T.endB m3 c8⟩⟩;rw[xM,xT,xT,aP,aP,aP,show ib+1+k3-(ib+1)=k3 by lia]
        rw[if_neg (by simpa using c8),xM,aP,show ib+1+k3-(ib+1)=k3 by lia];refine LX (bo ↥0 ?_);rw[pU];have m4:=T.pA m3 ↥0 hab;by_cases c6:ia+k+1+1=a.size;·rw[if_pos (by simpa using c6)];refine LW ⟨_,rfl,.inl ⟨_,?_,T.endL m4 c6⟩⟩;rw[xT,xT,aP,aP]
        rw[if_neg (by simpa using c6)];have R1:ur lt a b (((o++(a.toList.drop ia).take k)++[gA b ib]++(b.toList.drop (ib+1)).take k3)++[gA a (ia+k)]) (ia+k+1) (ib+1+k3):=⟨m4,by lia,by lia⟩;by_cases c7:(decide (k<7)&&decide (k3<7))=true;·rw[if_pos c7];exact LW ⟨_,rfl,.inr ⟨((o++(a.toList.drop ia).take k)++[gA b ib]++(b.toList.drop (ib+1)).take k3)++[gA a (ia+k)],_,_,_,_,_,rfl,R1,by lia⟩⟩
        ·rw[if_neg c7];exact LW ⟨((o++(a.toList.drop ia).take k)++[gA b ib]++(b.toList.drop (ib+1)).take k3)++[gA a (ia+k)],_,_,_,_,_,_,rfl,R1,by lia,rfl⟩
     ·rw[if_neg cm];refine LX (NU ?_);refine LX (bo hb ?_);refine LX (dN Or hk T.qa (T.qb _ hb) ↥0 ↥0 moA λk kn k1 k2=>?_);dsimp only;have m1:=R.m.extA T.sa k λx hx y hy=>by obtain⟨t,t1,t2,rfl⟩:=du a hx;obtain⟨j,j1,j2,rfl⟩:=fF b hy;have e:=k1 t t1;unfold eR at e;rw[if_neg ⋯,Oa]at e;exact a8.tr T.o e (cH T.o T.sb j1 j2)
      have hba:ia+k<a.size->a8 lt (gA b ib) (gA a (ia+k)):=λz=>by have e:=k2 k ↥8 ↥0;unfold eR at e;rw[if_neg ⋯,Qe]at e;exact a8.of T.o e
      rcases NS k with z|z
      ·subst z;rw[if_neg ⋯];rw[Ov]at m1 hba;rw[NA,Mu]at m1;refine LX (bo hb ?_);rw[pU];have m2:=T.pB m1 hb hba;by_cases c4:ib+1=b.size;·rw[if_pos (by simpa using c4)];refine LW ⟨_,rfl,.inl ⟨_,?_,T.endB m2 c4⟩⟩;rw[xT,xT,aP,aP]
       rw[if_neg (by simpa using c4)];refine LX (bo ↥0 ?_);refine LX (dN Or hk T.qb (T.qa _ ↥0) ↥0 ↥0 (λi j h1 h2 h3=>by unfold eR at*;rw[if_pos rfl]at*;cases e:lt (gA b (ib+1+i)) (gA a (ia)) with|true=>rfl|false=>have:=a8.tr T.o e (f9 T.sb (show ib+1+i<ib+1+j by lia) ↥0);exact Om (h3.symm.trans this)) λk3 kn3 e1 e2=>?_);dsimp only;have m3:=m2.extB T.sb k3 λx hx y hy=>by obtain⟨t,t1,t2,rfl⟩:=du b hx;obtain⟨j,j1,j2,rfl⟩:=fF a hy;have e:=e1 t t1;unfold eR at e;rw[if_pos rfl]at e;exact a8.tr T.o (a8.of T.o e) (cH T.o T.sa j1 j2)
       have hab:ib+1+k3<b.size->a8 lt (gA a (ia)) (gA b (ib+1+k3)):=λz=>by have e:=e2 k3 ↥8 ↥0;unfold eR at e;rw[if_pos rfl]at e;exact e
       rcases NS k3 with z3|z3
       ·subst z3;rw[if_neg ⋯];rw[Ov]at m3 hab;rw[NA,Mu]at m3;refine LX (bo ↥0 ?_);rw[pU];have m4:=T.pA m3 ↥0 hab;by_cases c6:ia+1+1=a.size;·rw[if_pos (by simpa using c6)];refine LW ⟨_,rfl,.inl ⟨_,?_,T.endL m4 c6⟩⟩;rw[xT,xT,aP,aP]
        rw[if_neg (by simpa using c6)];have R1:ur lt a b ((o++[gA b ib])++[gA a (ia)]) (ia+1) (ib+1):=⟨m4,by lia,by lia⟩;by_cases c7:(decide (0<7)&&decide (0<7))=true;·rw[if_pos c7];exact LW ⟨_,rfl,.inr ⟨(o++[gA b ib])++[gA a (ia)],_,_,_,_,_,rfl,R1,by lia⟩⟩
        ·rw[if_neg c7];exact LW ⟨(o++[gA b ib])++[gA a (ia)],_,_,_,_,_,_,rfl,R1,by lia,rfl⟩
       ·rw[if_pos z3];by_cases c8:ib+1+k3=b.size;·rw[if_pos (by simpa using c8)];refine LW ⟨_,rfl,.inl ⟨_,?_,T.endB m3 c8⟩⟩;rw[xM,xT,xT,aP,aP,aP,show ib+1+k3-(ib+1)=k3 by lia]
        rw[if_neg (by simpa using c8),xM,aP,show ib+1+k3-(ib+1)=k3 by lia];refine LX (bo ↥0 ?_);rw[pU];have m4:=T.pA m3 ↥0 hab;by_cases c6:ia+1+1=a.size;·rw[if_pos (by simpa using c6)];refine LW ⟨_,rfl,.inl ⟨_,?_,T.endL m4 c6⟩⟩;rw[xT,xT,aP,aP]
        rw[if_neg (by simpa using c6)];have R1:ur lt a b ((o++[gA b ib]++(b.toList.drop (ib+1)).take k3)++[gA a (ia)]) (ia+1) (ib+1+k3):=⟨m4,by lia,by lia⟩;by_cases c7:(decide (0<7)&&decide (k3<7))=true;·rw[if_pos c7];exact LW ⟨_,rfl,.inr ⟨(o++[gA b ib]++(b.toList.drop (ib+1)).take k3)++[gA a (ia)],_,_,_,_,_,rfl,R1,by lia⟩⟩
        ·rw[if_neg c7];exact LW ⟨(o++[gA b ib]++(b.toList.drop (ib+1)).take k3)++[gA a (ia)],_,_,_,_,_,_,rfl,R1,by lia,rfl⟩
      ·rw[if_pos z];by_cases c9:ia+k+1=a.size;·rw[if_pos (by simpa using c9)];refine LW ⟨_,rfl,.inl ⟨_,?_,T.endL m1 c9⟩⟩;rw[xM,xT,xT,aP,aP,aP,show ia+k-ia=k by lia]
       rw[if_neg (by simpa using c9)];by_cases c10:ia+k=a.size;·rw[if_pos (by simpa using c10)];refine LW ⟨_,rfl,.inl ⟨_,?_,T.endA m1 c10⟩⟩;rw[xM,xT,xT,aP,aP,aP,show ia+k-ia=k by lia]
       rw[if_neg (by simpa using c10),xM,aP,show ia+k-ia=k by lia];refine LX (bo hb ?_);rw[pU];have m2:=T.pB m1 hb hba;by_cases c4:ib+1=b.size;·rw[if_pos (by simpa using c4)];refine LW ⟨_,rfl,.inl ⟨_,?_,T.endB m2 c4⟩⟩;rw[xT,xT,aP,aP]
       rw[if_neg (by simpa using c4)];refine LX (bo ↥0 ?_);refine LX (dN Or hk T.qb (T.qa _ ↥0) ↥0 ↥0 (λi j h1 h2 h3=>by unfold eR at*;rw[if_pos rfl]at*;cases e:lt (gA b (ib+1+i)) (gA a (ia+k)) with|true=>rfl|false=>have:=a8.tr T.o e (f9 T.sb (show ib+1+i<ib+1+j by lia) ↥0);exact Om (h3.symm.trans this)) λk3 kn3 e1 e2=>?_);dsimp only;have m3:=m2.extB T.sb k3 λx hx y hy=>by obtain⟨t,t1,t2,rfl⟩:=du b hx;obtain⟨j,j1,j2,rfl⟩:=fF a hy;have e:=e1 t t1;unfold eR at e;rw[if_pos rfl]at e;exact a8.tr T.o (a8.of T.o e) (cH T.o T.sa j1 j2)
       have hab:ib+1+k3<b.size->a8 lt (gA a (ia+k)) (gA b (ib+1+k3)):=λz=>by have e:=e2 k3 ↥8 ↥0;unfold eR at e;rw[if_pos rfl]at e;exact e
       rcases NS k3 with z3|z3
       ·subst z3;rw[if_neg ⋯];rw[Ov]at m3 hab;rw[NA,Mu]at m3;refine LX (bo ↥0 ?_);rw[pU];have m4:=T.pA m3 ↥0 hab;by_cases c6:ia+k+1+1=a.size;·rw[if_pos (by simpa using c6)];refine LW ⟨_,rfl,.inl ⟨_,?_,T.endL m4 c6⟩⟩;rw[xT,xT,aP,aP]
        rw[if_neg (by simpa using c6)];have R1:ur lt a b (((o++(a.toList.drop ia).take k)++[gA b ib])++[gA a (ia+k)]) (ia+k+1) (ib+1):=⟨m4,by lia,by lia⟩;by_cases c7:(decide (k<7)&&decide (0<7))=true;·rw[if_pos c7];exact LW ⟨_,rfl,.inr ⟨((o++(a.toList.drop ia).take k)++[gA b ib])++[gA a (ia+k)],_,_,_,_,_,rfl,R1,by lia⟩⟩
        ·rw[if_neg c7];exact LW ⟨((o++(a.toList.drop ia).take k)++[gA b ib])++[gA a (ia+k)],_,_,_,_,_,_,rfl,R1,by lia,rfl⟩
       ·rw[if_pos z3];by_cases c8:ib+1+k3=b.size;·rw[if_pos (by simpa using c8)];refine LW ⟨_,rfl,.inl ⟨_,?_,T.endB m3 c8⟩⟩;rw[xM,xT,xT,aP,aP,aP,show ib+1+k3-(ib+1)=k3 by lia]
        rw[if_neg (by simpa using c8),xM,aP,show ib+1+k3-(ib+1)=k3 by lia];refine LX (bo ↥0 ?_);rw[pU];have m4:=T.pA m3 ↥0 hab;by_cases c6:ia+k+1+1=a.size;·rw[if_pos (by simpa using c6)];refine LW ⟨_,rfl,.inl ⟨_,?_,T.endL m4 c6⟩⟩;rw[xT,xT,aP,aP]
        rw[if_neg (by simpa using c6)];have R1:ur lt a b (((o++(a.toList.drop ia).take k)++[gA b ib]++(b.toList.drop (ib+1)).take k3)++[gA a (ia+k)]) (ia+k+1) (ib+1+k3):=⟨m4,by lia,by lia⟩;by_cases c7:(decide (k<7)&&decide (k3<7))=true;·rw[if_pos c7];exact LW ⟨_,rfl,.inr ⟨((o++(a.toList.drop ia).take k)++[gA b ib]++(b.toList.drop (ib+1)).take k3)++[gA a (ia+k)],_,_,_,_,_,rfl,R1,by lia⟩⟩
        ·rw[if_neg c7];exact LW ⟨((o++(a.toList.drop ia).take k)++[gA b ib]++(b.toList.drop (ib+1)).take k3)++[gA a (ia+k)],_,_,_,_,_,_,rfl,R1,by lia,rfl⟩
end
open PySem PySem.Spec PyProof.Rows PySem.W
def FW:Array MP->Array MP->StateT Mz Sem (Array MP):=sortPriv% PySem.Builtin.mergeHi
structure Hg (lt:Nat->Nat->Bool) (A B o:List Nat) (na nb:Nat):Prop where
 pm:o.Perm (A.drop na++B.drop nb)so:o.Pairwise λx y=>a8 lt y x
 la:∀x∈o,∀y∈A.take na,a8 lt y x
 lb:∀x∈o,∀y∈B.take nb,a8 lt y x
section
variable{lt:Nat->Nat->Bool}{A B o:List Nat}{na nb:Nat}
theorem Hg.first:Hg lt A B [] A.length B.length:=⟨by simp,List.Pairwise.nil,λx h=>(by cases h),λx h=>(by cases h)⟩
theorem Hg.sw(h:Hg lt A B o na nb):Hg lt B A o nb na:=⟨h.pm.trans Oc,h.so,h.lb,h.la⟩
theorem Hg.extA(h:Hg lt A B o na nb)(sA:A.Pairwise (a8 lt)){k:Nat}(hk:k<=na)(hc:∀x∈(A.drop k).take (na-k),∀y∈B.take nb,a8 lt y x):Hg lt A B (o++((A.drop k).take (na-k)).reverse) k nb:=by
 have st:(A.take na).Pairwise (a8 lt):=Pd (PJ _ _) sA;have e1:A.take na=A.take k++(A.drop k).take (na-k):=by have:=take_add A k (na-k);rwa[show k+(na-k)=na by lia]at this
 have e2:A.drop k=(A.drop k).take (na-k)++A.drop na:=by have:=je A k (na-k);rwa[show k+(na-k)=na by lia]at this
 have st':=st;rw[e1,Nz]at st';refine⟨?_,?_,λx hx y hy=>?_,λx hx y hy=>?_⟩;·rw[e2];refine(List.Perm.append h.pm (List.reverse_perm _)).trans ?_;refine Oc.trans ?_;rw[MA];rw[<-e2]
 ·rw[Nz];refine⟨h.so,Rl.mpr st'.2.1,λx hx y hy=>h.la x hx y ?_⟩;rw[e1];exact MR _ (Pv.mp hy)
 ·rcases LK hx with hx|hx;·refine h.la x hx y ?_;rw[e1];exact Qj _ hy
  ·exact st'.2.2 y hy x (Pv.mp hx)
 ·rcases LK hx with hx|hx;·exact h.lb x hx y hy
  ·exact hc x (Pv.mp hx) y hy
theorem Hg.extB(h:Hg lt A B o na nb)(sB:B.Pairwise (a8 lt)){k:Nat}(hk:k<=nb)(hc:∀x∈(B.drop k).take (nb-k),∀y∈A.take na,a8 lt y x):Hg lt A B (o++((B.drop k).take (nb-k)).reverse) na k:=(h.sw.extA sB hk hc).sw
theorem Hg.doneA(h:Hg lt A B o 0 nb)(sB:B.Pairwise (a8 lt)):Fn lt A B (A.take 0++B.take nb++o.reverse):=by
 rw[NA,NR];refine⟨?_,?_⟩;·refine(Ot _ ((List.reverse_perm o).trans h.pm)).trans ?_;rw[Pu];refine(Ot _ Oc).trans ?_;rw[<-MA,OD];exact Oc
 ·rw[Nz];exact⟨Pd (PJ _ _) sB,Rl.mpr h.so,λy hy x hx=>h.lb x (Pv.mp hx) y hy⟩
theorem Hg.doneB(h:Hg lt A B o na 0)(sA:A.Pairwise (a8 lt)):Fn lt A B (A.take na++B.take 0++o.reverse):=by have:=h.sw.doneA sA;rw[NA,NR]at this;rw[NA,Mu];exact⟨this.pm.trans Oc,this.so⟩
theorem Hg.fstB(h:Hg lt A B o na 1)(sA:A.Pairwise (a8 lt))(sB:B.Pairwise (a8 lt))(hl:∀x∈B.take 1,∀y∈A,a8 lt x y):Fn lt A B (B.take 1++A.take na++o.reverse):=by
 refine⟨?_,?_⟩;·refine(Ot _ ((List.reverse_perm o).trans h.pm)).trans ?_;rw[MA,<-MA (A.take na),OD];refine Oc.trans ?_;rw[MA];refine Ot _ ?_;refine Oc.trans ?_;rw[OD]
 ·rw[Nz,Nz];refine⟨⟨Pd (PJ _ _) sB,Pd (PJ _ _) sA,λx hx y hy=>hl x hx y (Rh hy)⟩,Rl.mpr h.so,λy hy x hx=>?_⟩;rcases LK hy with hy|hy;·exact h.lb x (Pv.mp hx) y hy
  ·exact h.la x (Pv.mp hx) y hy
end
section
variable{it:Array MP}
theorem x0(a:Array Nat)(n:Nat):(a.map (kas_item it)).extract 0 n=((a.toList.take n).map (kas_item it)).toArray:=by rw[xM,Pu,Nat.sub_zero]
theorem rV(o:List Nat):((o.map (kas_item it)).toArray).reverse=(o.reverse.map (kas_item it)).toArray:=by simp
theorem kQ(a:Array Nat){y n:Nat}(h:y∈a.toList.take n):∃j,j<n/\j<a.size/\y=gA a j:=by
 have:y∈(a.toList.drop 0).take n:=by rw[Pu];exact h
 obtain⟨t,t1,t2,e⟩:=du a this;rw[MN]at t2 e;exact⟨t,t1,t2,e⟩
end
section
variable{prog:Mc}{w:LV}{A:Md}{E:LP->LR->Prop}{s:LR}{κ:Ob}{it:Array MP}{N:Nat}{lt:Nat->Nat->Bool}{st:Mz}{a b:Array Nat}
structure uq (lt:Nat->Nat->Bool) (a b:Array Nat) (o:List Nat) (na nb:Nat):Prop where
 m:Hg lt a.toList b.toList o na nb
 ha:0<na
 hb:1<nb
 la:na<=a.size
 lb:nb<=b.size
theorem nV.hA(T:nV N lt a b){o:List Nat}{na nb:Nat}(h:Hg lt a.toList b.toList o na nb)(h0:0<na)(h1:na<=a.size)(h2:nb<=b.size)(hc:0<nb->a8 lt (gA b (nb-1)) (gA a (na-1))):Hg lt a.toList b.toList (o++[gA a (na-1)]) (na-1) nb:=by
 have e:(a.toList.drop (na-1)).take (na-(na-1))=[gA a (na-1)]:=by rw[show na-(na-1)=1 by lia];exact E3 a ↥0
 have:=h.extA T.sa (show na-1<=na by lia) λx hx y hy=>by rw[e,Pa]at hx;subst hx;obtain⟨j,j1,j2,rfl⟩:=kQ b hy;exact a8.tr T.o (cH T.o T.sb (show j<=nb-1 by lia) ↥0) (hc ↥0)
 rw[e]at this;exact this
theorem nV.hB(T:nV N lt a b){o:List Nat}{na nb:Nat}(h:Hg lt a.toList b.toList o na nb)(h0:0<nb)(h1:nb<=b.size)(h2:na<=a.size)(hc:0<na->a8 lt (gA a (na-1)) (gA b (nb-1))):Hg lt a.toList b.toList (o++[gA b (nb-1)]) na (nb-1):=by
 have e:(b.toList.drop (nb-1)).take (nb-(nb-1))=[gA b (nb-1)]:=by rw[show nb-(nb-1)=1 by lia];exact E3 b ↥0
 have:=h.extB T.sb (show nb-1<=nb by lia) λx hx y hy=>by rw[e,Pa]at hx;subst hx;obtain⟨j,j1,j2,rfl⟩:=kQ a hy;exact a8.tr T.o (cH T.o T.sa (show j<=na-1 by lia) ↥0) (hc ↥0)
 rw[e]at this;exact this
theorem nV.hdA(T:nV N lt a b){o:List Nat}{na nb:Nat}(h:Hg lt a.toList b.toList o na nb)(e:na=0):Fn lt a.toList b.toList (a.toList.take na++b.toList.take nb++o.reverse):=by subst e;exact h.doneA T.sb
theorem nV.hdB(T:nV N lt a b){o:List Nat}{na nb:Nat}(h:Hg lt a.toList b.toList o na nb)(e:nb=0):Fn lt a.toList b.toList (a.toList.take na++b.toList.take nb++o.reverse):=by subst e;exact h.doneB T.sa
theorem nV.hfB(T:nV N lt a b){o:List Nat}{na nb:Nat}(h:Hg lt a.toList b.toList o na nb)(e:nb=1):Fn lt a.toList b.toList (b.toList.take nb++a.toList.take na++o.reverse):=by subst e;refine h.fstB T.sa T.sb λx hx y hy=>?_;obtain⟨j,j1,j2,rfl⟩:=kQ b hx;rw[<-Pu (l:=a.toList)]at hy;obtain⟨i,_,i2,rfl⟩:=fF a hy;rw[show j=0 by lia];exact a8.tr T.o (a8.of T.o T.fst) (cH T.o T.sa (Np _) i2)
theorem HV(Or:xU prog w A s κ it N lt)(T:nV N lt a b)(hk:MX st=κ){Q:Array MP->Mz->Prop}(h:∀r g,Fn lt a.toList b.toList r->Q ((r.map (kas_item it)).toArray) (lN st g)):wpS (LY prog w) A E s (FW (a.map (kas_item it)) (b.map (kas_item it))) Q st:=by
 have a0:=T.a0;have b0:=T.b0;have m0:Hg lt a.toList b.toList [gA a (a.size-1)] (a.size-1) b.size:=by have h0:=Hg.first (A:=a.toList) (B:=b.toList) (lt:=lt);rw[MQ,MQ]at h0;exact T.hA h0 a0 ↥8 ↥8 λ_=>a8.of T.o (T.lst _ ↥0)
 unfold FW;refine LX (ON (NW ⟨rfl,?_⟩));simp only[QK];refine LX (bo ↥0 ?_);rw[show#[kas_item it (gA a (a.size-1))]=(([gA a (a.size-1)]:List Nat).map (kas_item it)).toArray from rfl];by_cases c1:a.size-1=0;·rw[if_pos (by simpa using c1)];refine LW ?_;rw[x0,x0,rV,aP,aP];exact h _ (gallopOf st) (T.hdA m0 c1)
 rw[if_neg (by simpa using c1)];by_cases c2:b.size=1;·rw[if_pos (by simpa using c2)];refine LW ?_;rw[x0,x0,rV,aP,aP];exact h _ (gallopOf st) (T.hfB m0 c2)
 rw[if_neg (by simpa using c2)];refine LX (Ol ?_);refine LX (Ny (Nq (I:=λx c st'=>∃na nb o mg g,c=(none,na,nb,(o.map (kas_item it)).toArray,mg)/\uq lt a b o na nb/\na+nb+x<a.size+b.size/\st'=lN st g) (Q:=λc st'=>∃r g,c.1=some ((r.map (kas_item it)).toArray)/\Fn lt a.toList b.toList r/\st'=lN st g) ?step ?fin ⟨_,_,[gA a (a.size-1)],_,gallopOf st,rfl,⟨m0,by lia,by lia,by lia,MU _⟩,by lia,rfl⟩) ?post);case fin=>rintro c st'⟨na,nb,o,mg,g,rfl,R,hx,rfl⟩;have:=R.ha;have:=R.hb;lia
 case post=>rintro⟨c1,c2⟩st'⟨r,g,e,F,rfl⟩;dsimp only at e;subst e;exact LW (h r g F)
 case step=>
  rintro x c st' _ hx⟨na,nb,o,mg,g,rfl,R,hp,rfl⟩;dsimp only;refine LX (Ny (Nq (I:=λy c st'=>st'=lN st g/\∃na nb o ac bc,c=(none,na,nb,(o.map (kas_item it)).toArray,ac,bc)/\uq lt a b o na nb/\na+nb+x<a.size+b.size/\(1<=y->na+nb+(x+1)<a.size+b.size)) (Q:=λc st'=>st'=lN st g/\((∃r,c.1=some ((r.map (kas_item it)).toArray)/\Fn lt a.toList b.toList r)\/∃na nb o ac bc,c=(none,na,nb,(o.map (kas_item it)).toArray,ac,bc)/\uq lt a b o na nb/\na+nb+(x+1)<a.size+b.size)) ?s1 ?f1 ⟨rfl,na,nb,o,0,0,rfl,R,hp,by lia⟩) ?p1);case f1=>rintro c st'⟨rfl,na,nb,o,ac,bc,rfl,R,h1,h2⟩;exact⟨rfl,.inr ⟨na,nb,o,ac,bc,rfl,R,h2 ↥0⟩⟩
  case s1=>
   rintro y c st' _ hy⟨rfl,na,nb,o,ac,bc,rfl,R,h1,h2⟩;have ha:=R.ha;have hb:=R.hb;have la:=R.la;have lb:=R.lb;dsimp only;refine LX (bo ↥0 (LX (bo ↥0 (LX (uk Or hk (T.qb _ ↥0) (T.qa _ ↥0) ?_)))))
   dsimp only;cases c:lt (gA b (nb-1)) (gA a (na-1)) with|true=>
    rw[if_pos rfl];refine LX (bo ↥0 ?_);have m1:=T.hA R.m ha la lb λ_=>a8.of T.o c;rw[pU];by_cases c3:na-1=0;·rw[if_pos (by simpa using c3)];refine LW ⟨rfl,.inl ⟨_,?_,T.hdA m1 c3⟩⟩;rw[x0,x0,rV,aP,aP]
    ·rw[if_neg (by simpa using c3)];have R1:uq lt a b (o++[gA a (na-1)]) (na-1) nb:=⟨m1,by lia,hb,by lia,lb⟩;by_cases c5:ac+1>=mg;·rw[if_pos c5];exact LW ⟨rfl,.inr ⟨_,_,o++[gA a (na-1)],_,_,rfl,R1,by lia⟩⟩
     ·rw[if_neg c5];exact LW ⟨rfl,_,_,o++[gA a (na-1)],_,_,rfl,R1,by lia,by lia⟩|false=>
    rw[if_neg ⋯];refine LX (bo ↥0 ?_);have m1:=T.hB R.m ↥0 lb la λ_=>c;rw[pU];by_cases c3:nb-1=1;·rw[if_pos (by simpa using c3)];refine LW ⟨rfl,.inl ⟨_,?_,T.hfB m1 c3⟩⟩;rw[x0,x0,rV,aP,aP]
    ·rw[if_neg (by simpa using c3)];have R1:uq lt a b (o++[gA b (nb-1)]) na (nb-1):=⟨m1,ha,by lia,la,by lia⟩;by_cases c5:bc+1>=mg;·rw[if_pos c5];exact LW ⟨rfl,.inr ⟨_,_,o++[gA b (nb-1)],_,_,rfl,R1,by lia⟩⟩
     ·rw[if_neg c5];exact LW ⟨rfl,_,_,o++[gA b (nb-1)],_,_,rfl,R1,by lia,by lia⟩
  case p1=>
   rintro⟨c1,c2⟩st'⟨rfl,⟨r,e,F⟩|⟨na,nb,o,ac,bc,e,R,h1⟩⟩;·dsimp only at e;subst e;exact LW ⟨r,g,rfl,F,rfl⟩
   ·cases e;dsimp only;refine LX (ON (NW ⟨rfl,?_⟩));refine LX (Ny (Nq (I:=λy c st'=>∃na nb o mg ac bc g,c=(none,na,nb,(o.map (kas_item it)).toArray,mg,ac,bc)/\uq lt a b o na nb/\na+nb+(x+1)<a.size+b.size/\st'=lN st g) (Q:=λc st'=>∃g,st'=lN st g/\((∃r,c.1=some ((r.map (kas_item it)).toArray)/\Fn lt a.toList b.toList r)\/∃na nb o mg ac bc,c=(none,na,nb,(o.map (kas_item it)).toArray,mg,ac,bc)/\uq lt a b o na nb/\na+nb+(x+1)<a.size+b.size)) ?s2 ?f2 ⟨na,nb,o,_,ac,bc,g,rfl,R,h1,rfl⟩) ?p2);case f2=>rintro c st'⟨na,nb,o,mg,ac,bc,g,rfl,R,h1,rfl⟩;exact⟨g,rfl,.inr ⟨na,nb,o,mg,ac,bc,rfl,R,h1⟩⟩
    case p2=>
     rintro⟨c1,c2⟩st'⟨g,rfl,⟨r,e,F⟩|⟨na,nb,o,mg,ac,bc,e,R,h1⟩⟩;·dsimp only at e;subst e;exact LW ⟨r,g,rfl,F,rfl⟩
     ·cases e;dsimp only;refine LX (NU (LW ⟨na,nb,o,_,_,rfl,R,by lia,rfl⟩))
    case s2=>
     rintro y c st' _ hy⟨na,nb,o,mg,ac,bc,g,rfl,R,h1,rfl⟩;have ha:=R.ha;have hb:=R.hb;have la:=R.la;have lb:=R.lb;dsimp only;have moA:∀i j,i<j->j<na->eR false lt (gA b (nb-1)) (gA a (0+j))=true->eR false lt (gA b (nb-1)) (gA a (0+i))=true:=λi j h1 h2 h3=>by unfold eR at*;rw[if_neg ⋯,Oa]at*;exact a8.tr T.o (f9 T.sa (show 0+i<0+j by lia) ↥0) h3
     by_cases cm:mg>1
     ·rw[if_pos cm];refine LX (NU ?_);refine LX (bo ↥0 ?_);refine LX (dN Or hk T.qa (T.qb _ ↥0) ↥0 ↥0 moA λk kn k1 k2=>?_);dsimp only;have m1:=R.m.extA T.sa kn λx hx y hy=>by obtain⟨t,t1,t2,rfl⟩:=du a hx;obtain⟨j,j1,j2,rfl⟩:=kQ b hy;have e:=k2 (k+t) ↥0 ↥0;unfold eR at e;rw[if_neg ⋯,Qe,MN]at e;exact a8.tr T.o (cH T.o T.sb (show j<=nb-1 by lia) ↥0) (a8.of T.o e)
      have hba:0<k->a8 lt (gA a (k-1)) (gA b (nb-1)):=λz=>by have e:=k1 (k-1) ↥0;unfold eR at e;rw[if_neg ⋯,Oa,MN]at e;exact e
      rcases NS (na-k) with z|z
      ·rw[if_neg ↥0];have e0:k=na:=by lia
       subst e0;rw[Pw,NA,Px,Mu]at m1;refine LX (bo ↥0 ?_);rw[pU];have m2:=T.hB m1 ↥0 lb ↥0 hba;by_cases c4:nb-1=1;·rw[if_pos (by simpa using c4)];refine LW ⟨_,rfl,.inl ⟨_,?_,T.hfB m2 c4⟩⟩;rw[x0,x0,rV,aP,aP]
       rw[if_neg (by simpa using c4)];refine LX (bo ↥0 ?_);refine LX (dN Or hk T.qb (T.qa _ ↥0) ↥0 ↥0 (λi j h1 h2 h3=>by unfold eR at*;rw[if_pos rfl]at*;cases e:lt (gA b (0+i)) (gA a (k-1)) with|true=>rfl|false=>have:=a8.tr T.o e (f9 T.sb (show 0+i<0+j by lia) ↥0);exact Om (h3.symm.trans this)) λk3 kn3 e1 e2=>?_);dsimp only;have m3:=m2.extB T.sb kn3 λx hx y hy=>by obtain⟨t,t1,t2,rfl⟩:=du b hx;obtain⟨j,j1,j2,rfl⟩:=kQ a hy;have e:=e2 (k3+t) ↥0 ↥0;unfold eR at e;rw[if_pos rfl,MN]at e;exact a8.tr T.o (cH T.o T.sa (show j<=k-1 by lia) ↥0) e
       have hab:0<k3->a8 lt (gA b (k3-1)) (gA a (k-1)):=λz=>by have e:=e1 (k3-1) ↥0;unfold eR at e;rw[if_pos rfl,MN]at e;exact a8.of T.o e
       rcases NS (nb-1-k3) with z3|z3
       ·rw[if_neg ↥0];have e3:k3=nb-1:=by lia
        subst e3;rw[Pw,NA,Px,Mu]at m3;refine LX (bo ↥0 ?_);rw[pU];have m4:=T.hA m3 ↥0 ↥0 ↥0 hab;by_cases c6:k-1=0;·rw[if_pos (by simpa using c6)];refine LW ⟨_,rfl,.inl ⟨_,?_,T.hdA m4 c6⟩⟩;rw[x0,x0,rV,aP,aP]
        rw[if_neg (by simpa using c6)];have R1:uq lt a b ((o++[gA b (nb-1)])++[gA a (k-1)]) (k-1) (nb-1):=⟨m4,by lia,by lia,by lia,by lia⟩;by_cases c7:(decide (k-k<7)&&decide (nb-1-(nb-1)<7))=true;·rw[if_pos c7];exact LW ⟨_,rfl,.inr ⟨_,_,(o++[gA b (nb-1)])++[gA a (k-1)],_,_,_,rfl,R1,by lia⟩⟩
        ·rw[if_neg c7];exact LW ⟨_,_,(o++[gA b (nb-1)])++[gA a (k-1)],_,_,_,_,rfl,R1,by lia,rfl⟩
       ·rw[if_pos z3];by_cases c8:k3=1;·rw[if_pos (by simpa using c8)];refine LW ⟨_,rfl,.inl ⟨_,?_,T.hfB m3 c8⟩⟩;rw[x0,x0,xM b k3 (nb-1),rV,aP,aP,rV,aP]
        rw[if_neg (by simpa using c8)];by_cases c9:k3=0;·rw[if_pos (by simpa using c9)];refine LW ⟨_,rfl,.inl ⟨_,?_,T.hdB m3 c9⟩⟩;rw[x0,x0,xM b k3 (nb-1),rV,aP,aP,rV,aP]
        rw[if_neg (by simpa using c9),xM b k3 (nb-1),rV,aP];refine LX (bo ↥0 ?_);rw[pU];have m4:=T.hA m3 ↥0 ↥0 ↥0 hab;by_cases c6:k-1=0;·rw[if_pos (by simpa using c6)];refine LW ⟨_,rfl,.inl ⟨_,?_,T.hdA m4 c6⟩⟩;rw[x0,x0,rV,aP,aP]
        rw[if_neg (by simpa using c6)];have R1:uq lt a b ((o++[gA b (nb-1)]++((b.toList.drop k3).take (nb-1-k3)).reverse)++[gA a (k-1)]) (k-1) (k3):=⟨m4,by lia,by lia,by lia,by lia⟩;by_cases c7:(decide (k-k<7)&&decide (nb-1-k3<7))=true;·rw[if_pos c7];exact LW ⟨_,rfl,.inr ⟨_,_,(o++[gA b (nb-1)]++((b.toList.drop k3).take (nb-1-k3)).reverse)++[gA a (k-1)],_,_,_,rfl,R1,by lia⟩⟩
        ·rw[if_neg c7];exact LW ⟨_,_,(o++[gA b (nb-1)]++((b.toList.drop k3).take (nb-1-k3)).reverse)++[gA a (k-1)],_,_,_,_,rfl,R1,by lia,rfl⟩
      ·rw[if_pos z];by_cases c9:k=0;·rw[if_pos (by simpa using c9)];refine LW ⟨_,rfl,.inl ⟨_,?_,T.hdA m1 c9⟩⟩;rw[x0,x0,xM a k na,rV,aP,aP,rV,aP]
       rw[if_neg (by simpa using c9),xM a k na,rV,aP];refine LX (bo ↥0 ?_);rw[pU];have m2:=T.hB m1 ↥0 lb ↥0 hba;by_cases c4:nb-1=1;·rw[if_pos (by simpa using c4)];refine LW ⟨_,rfl,.inl ⟨_,?_,T.hfB m2 c4⟩⟩;rw[x0,x0,rV,aP,aP]
       rw[if_neg (by simpa using c4)];refine LX (bo ↥0 ?_);refine LX (dN Or hk T.qb (T.qa _ ↥0) ↥0 ↥0 (λi j h1 h2 h3=>by unfold eR at*;rw[if_pos rfl]at*;cases e:lt (gA b (0+i)) (gA a (k-1)) with|true=>rfl|false=>have:=a8.tr T.o e (f9 T.sb (show 0+i<0+j by lia) ↥0);exact Om (h3.symm.trans this)) λk3 kn3 e1 e2=>?_);dsimp only;have m3:=m2.extB T.sb kn3 λx hx y hy=>by obtain⟨t,t1,t2,rfl⟩:=du b hx;obtain⟨j,j1,j2,rfl⟩:=kQ a hy;have e:=e2 (k3+t) ↥0 ↥0;unfold eR at e;rw[if_pos rfl,MN]at e;exact a8.tr T.o (cH T.o T.sa (show j<=k-1 by lia) ↥0) e
       have hab:0<k3->a8 lt (gA b (k3-1)) (gA a (k-1)):=λz=>by have e:=e1 (k3-1) ↥0;unfold eR at e;rw[if_pos rfl,MN]at e;exact a8.of T.o e
       rcases NS (nb-1-k3) with z3|z3
       ·rw[if_neg ↥0];have e3:k3=nb-1:=by lia
        subst e3;rw[Pw,NA,Px,Mu]at m3;refine LX (bo ↥0 ?_);rw[pU];have m4:=T.hA m3 ↥0 ↥0 ↥0 hab;by_cases c6:k-1=0;·rw[if_pos (by simpa using c6)];refine LW ⟨_,rfl,.inl ⟨_,?_,T.hdA m4 c6⟩⟩;rw[x0,x0,rV,aP,aP]
        rw[if_neg (by simpa using c6)];have R1:uq lt a b (((o++((a.toList.drop k).take (na-k)).reverse)++[gA b (nb-1)])++[gA a (k-1)]) (k-1) (nb-1):=⟨m4,by lia,by lia,by lia,by lia⟩;by_cases c7:(decide (na-k<7)&&decide (nb-1-(nb-1)<7))=true;·rw[if_pos c7];exact LW ⟨_,rfl,.inr ⟨_,_,((o++((a.toList.drop k).take (na-k)).reverse)++[gA b (nb-1)])++[gA a (k-1)],_,_,_,rfl,R1,by lia⟩⟩
        ·rw[if_neg c7];exact LW ⟨_,_,((o++((a.toList.drop k).take (na-k)).reverse)++[gA b (nb-1)])++[gA a (k-1)],_,_,_,_,rfl,R1,by lia,rfl⟩
       ·rw[if_pos z3];by_cases c8:k3=1;·rw[if_pos (by simpa using c8)];refine LW ⟨_,rfl,.inl ⟨_,?_,T.hfB m3 c8⟩⟩;rw[x0,x0,xM b k3 (nb-1),rV,aP,aP,rV,aP]
        rw[if_neg (by simpa using c8)];by_cases c9:k3=0;·rw[if_pos (by simpa using c9)];refine LW ⟨_,rfl,.inl ⟨_,?_,T.hdB m3 c9⟩⟩;rw[x0,x0,xM b k3 (nb-1),rV,aP,aP,rV,aP]
        rw[if_neg (by simpa using c9),xM b k3 (nb-1),rV,aP];refine LX (bo ↥0 ?_);rw[pU];have m4:=T.hA m3 ↥0 ↥0 ↥0 hab;by_cases c6:k-1=0;·rw[if_pos (by simpa using c6)];refine LW ⟨_,rfl,.inl ⟨_,?_,T.hdA m4 c6⟩⟩;rw[x0,x0,rV,aP,aP]
        rw[if_neg (by simpa using c6)];have R1:uq lt a b (((o++((a.toList.drop k).take (na-k)).reverse)++[gA b (nb-1)]++((b.toList.drop k3).take (nb-1-k3)).reverse)++[gA a (k-1)]) (k-1) (k3):=⟨m4,by lia,by lia,by lia,by lia⟩;by_cases c7:(decide (na-k<7)&&decide (nb-1-k3<7))=true;·rw[if_pos c7];exact LW ⟨_,rfl,.inr ⟨_,_,((o++((a.toList.drop k).take (na-k)).reverse)++[gA b (nb-1)]++((b.toList.drop k3).take (nb-1-k3)).reverse)++[gA a (k-1)],_,_,_,rfl,R1,by lia⟩⟩
        ·rw[if_neg c7];exact LW ⟨_,_,((o++((a.toList.drop k).take (na-k)).reverse)++[gA b (nb-1)]++((b.toList.drop k3).take (nb-1-k3)).reverse)++[gA a (k-1)],_,_,_,_,rfl,R1,by lia,rfl⟩
     ·rw[if_neg cm];refine LX (NU ?_);refine LX (bo ↥0 ?_);refine LX (dN Or hk T.qa (T.qb _ ↥0) ↥0 ↥0 moA λk kn k1 k2=>?_);dsimp only;have m1:=R.m.extA T.sa kn λx hx y hy=>by obtain⟨t,t1,t2,rfl⟩:=du a hx;obtain⟨j,j1,j2,rfl⟩:=kQ b hy;have e:=k2 (k+t) ↥0 ↥0;unfold eR at e;rw[if_neg ⋯,Qe,MN]at e;exact a8.tr T.o (cH T.o T.sb (show j<=nb-1 by lia) ↥0) (a8.of T.o e)
      have hba:0<k->a8 lt (gA a (k-1)) (gA b (nb-1)):=λz=>by have e:=k1 (k-1) ↥0;unfold eR at e;rw[if_neg ⋯,Oa,MN]at e;exact e
      rcases NS (na-k) with z|z
      ·rw[if_neg ↥0];have e0:k=na:=by lia
       subst e0;rw[Pw,NA,Px,Mu]at m1;refine LX (bo ↥0 ?_);rw[pU];have m2:=T.hB m1 ↥0 lb ↥0 hba;by_cases c4:nb-1=1;·rw[if_pos (by simpa using c4)];refine LW ⟨_,rfl,.inl ⟨_,?_,T.hfB m2 c4⟩⟩;rw[x0,x0,rV,aP,aP]
       rw[if_neg (by simpa using c4)];refine LX (bo ↥0 ?_);refine LX (dN Or hk T.qb (T.qa _ ↥0) ↥0 ↥0 (λi j h1 h2 h3=>by unfold eR at*;rw[if_pos rfl]at*;cases e:lt (gA b (0+i)) (gA a (k-1)) with|true=>rfl|false=>have:=a8.tr T.o e (f9 T.sb (show 0+i<0+j by lia) ↥0);exact Om (h3.symm.trans this)) λk3 kn3 e1 e2=>?_);dsimp only;have m3:=m2.extB T.sb kn3 λx hx y hy=>by obtain⟨t,t1,t2,rfl⟩:=du b hx;obtain⟨j,j1,j2,rfl⟩:=kQ a hy;have e:=e2 (k3+t) ↥0 ↥0;unfold eR at e;rw[if_pos rfl,MN]at e;exact a8.tr T.o (cH T.o T.sa (show j<=k-1 by lia) ↥0) e
       have hab:0<k3->a8 lt (gA b (k3-1)) (gA a (k-1)):=λz=>by have e:=e1 (k3-1) ↥0;unfold eR at e;rw[if_pos rfl,MN]at e;exact a8.of T.o e
       rcases NS (nb-1-k3) with z3|z3
       ·rw[if_neg ↥0];have e3:k3=nb-1:=by lia
        subst e3;rw[Pw,NA,Px,Mu]at m3;refine LX (bo ↥0 ?_);rw[pU];have m4:=T.hA m3 ↥0 ↥0 ↥0 hab;by_cases c6:k-1=0;·rw[if_pos (by simpa using c6)];refine LW ⟨_,rfl,.inl ⟨_,?_,T.hdA m4 c6⟩⟩;rw[x0,x0,rV,aP,aP]
        rw[if_neg (by simpa using c6)];have R1:uq lt a b ((o++[gA b (nb-1)])++[gA a (k-1)]) (k-1) (nb-1):=⟨m4,by lia,by lia,by lia,by lia⟩;by_cases c7:(decide (k-k<7)&&decide (nb-1-(nb-1)<7))=true;·rw[if_pos c7];exact LW ⟨_,rfl,.inr ⟨_,_,(o++[gA b (nb-1)])++[gA a (k-1)],_,_,_,rfl,R1,by lia⟩⟩
        ·rw[if_neg c7];exact LW ⟨_,_,(o++[gA b (nb-1)])++[gA a (k-1)],_,_,_,_,rfl,R1,by lia,rfl⟩
       ·rw[if_pos z3];by_cases c8:k3=1;·rw[if_pos (by simpa using c8)];refine LW ⟨_,rfl,.inl ⟨_,?_,T.hfB m3 c8⟩⟩;rw[x0,x0,xM b k3 (nb-1),rV,aP,aP,rV,aP]
        rw[if_neg (by simpa using c8)];by_cases c9:k3=0;·rw[if_pos (by simpa using c9)];refine LW ⟨_,rfl,.inl ⟨_,?_,T.hdB m3 c9⟩⟩;rw[x0,x0,xM b k3 (nb-1),rV,aP,aP,rV,aP]
        rw[if_neg (by simpa using c9),xM b k3 (nb-1),rV,aP];refine LX (bo ↥0 ?_);rw[pU];have m4:=T.hA m3 ↥0 ↥0 ↥0 hab;by_cases c6:k-1=0;·rw[if_pos (by simpa using c6)];refine LW ⟨_,rfl,.inl ⟨_,?_,T.hdA m4 c6⟩⟩;rw[x0,x0,rV,aP,aP]
        rw[if_neg (by simpa using c6)];have R1:uq lt a b ((o++[gA b (nb-1)]++((b.toList.drop k3).take (nb-1-k3)).reverse)++[gA a (k-1)]) (k-1) (k3):=⟨m4,by lia,by lia,by lia,by lia⟩;by_cases c7:(decide (k-k<7)&&decide (nb-1-k3<7))=true;·rw[if_pos c7];exact LW ⟨_,rfl,.inr ⟨_,_,(o++[gA b (nb-1)]++((b.toList.drop k3).take (nb-1-k3)).reverse)++[gA a (k-1)],_,_,_,rfl,R1,by lia⟩⟩
        ·rw[if_neg c7];exact LW ⟨_,_,(o++[gA b (nb-1)]++((b.toList.drop k3).take (nb-1-k3)).reverse)++[gA a (k-1)],_,_,_,_,rfl,R1,by lia,rfl⟩
      ·rw[if_pos z];by_cases c9:k=0;·rw[if_pos (by simpa using c9)];refine LW ⟨_,rfl,.inl ⟨_,?_,T.hdA m1 c9⟩⟩;rw[x0,x0,xM a k na,rV,aP,aP,rV,aP]
       rw[if_neg (by simpa using c9),xM a k na,rV,aP];refine LX (bo ↥0 ?_);rw[pU];have m2:=T.hB m1 ↥0 lb ↥0 hba;by_cases c4:nb-1=1;·rw[if_pos (by simpa using c4)];refine LW ⟨_,rfl,.inl ⟨_,?_,T.hfB m2 c4⟩⟩;rw[x0,x0,rV,aP,aP]
       rw[if_neg (by simpa using c4)];refine LX (bo ↥0 ?_);refine LX (dN Or hk T.qb (T.qa _ ↥0) ↥0 ↥0 (λi j h1 h2 h3=>by unfold eR at*;rw[if_pos rfl]at*;cases e:lt (gA b (0+i)) (gA a (k-1)) with|true=>rfl|false=>have:=a8.tr T.o e (f9 T.sb (show 0+i<0+j by lia) ↥0);exact Om (h3.symm.trans this)) λk3 kn3 e1 e2=>?_);dsimp only;have m3:=m2.extB T.sb kn3 λx hx y hy=>by obtain⟨t,t1,t2,rfl⟩:=du b hx;obtain⟨j,j1,j2,rfl⟩:=kQ a hy;have e:=e2 (k3+t) ↥0 ↥0;unfold eR at e;rw[if_pos rfl,MN]at e;exact a8.tr T.o (cH T.o T.sa (show j<=k-1 by lia) ↥0) e
       have hab:0<k3->a8 lt (gA b (k3-1)) (gA a (k-1)):=λz=>by have e:=e1 (k3-1) ↥0;unfold eR at e;rw[if_pos rfl,MN]at e;exact a8.of T.o e
       rcases NS (nb-1-k3) with z3|z3
       ·rw[if_neg ↥0];have e3:k3=nb-1:=by lia
        subst e3;rw[Pw,NA,Px,Mu]at m3;refine LX (bo ↥0 ?_);rw[pU];have m4:=T.hA m3 ↥0 ↥0 ↥0 hab;by_cases c6:k-1=0;·rw[if_pos (by simpa using c6)];refine LW ⟨_,rfl,.inl ⟨_,?_,T.hdA m4 c6⟩⟩;rw[x0,x0,rV,aP,aP]
        rw[if_neg (by simpa using c6)];have R1:uq lt a b (((o++((a.toList.drop k).take (na-k)).reverse)++[gA b (nb-1)])++[gA a (k-1)]) (k-1) (nb-1):=⟨m4,by lia,by lia,by lia,by lia⟩;by_cases c7:(decide (na-k<7)&&decide (nb-1-(nb-1)<7))=true;·rw[if_pos c7];exact LW ⟨_,rfl,.inr ⟨_,_,((o++((a.toList.drop k).take (na-k)).reverse)++[gA b (nb-1)])++[gA a (k-1)],_,_,_,rfl,R1,by lia⟩⟩
        ·rw[if_neg c7];exact LW ⟨_,_,((o++((a.toList.drop k).take (na-k)).reverse)++[gA b (nb-1)])++[gA a (k-1)],_,_,_,_,rfl,R1,by lia,rfl⟩
       ·rw[if_pos z3];by_cases c8:k3=1;·rw[if_pos (by simpa using c8)];refine LW ⟨_,rfl,.inl ⟨_,?_,T.hfB m3 c8⟩⟩;rw[x0,x0,xM b k3 (nb-1),rV,aP,aP,rV,aP]
        rw[if_neg (by simpa using c8)];by_cases c9:k3=0;·rw[if_pos (by simpa using c9)];refine LW ⟨_,rfl,.inl ⟨_,?_,T.hdB m3 c9⟩⟩;rw[x0,x0,xM b k3 (nb-1),rV,aP,aP,rV,aP]
        rw[if_neg (by simpa using c9),xM b k3 (nb-1),rV,aP];refine LX (bo ↥0 ?_);rw[pU];have m4:=T.hA m3 ↥0 ↥0 ↥0 hab;by_cases c6:k-1=0;·rw[if_pos (by simpa using c6)];refine LW ⟨_,rfl,.inl ⟨_,?_,T.hdA m4 c6⟩⟩;rw[x0,x0,rV,aP,aP]
        rw[if_neg (by simpa using c6)];have R1:uq lt a b (((o++((a.toList.drop k).take (na-k)).reverse)++[gA b (nb-1)]++((b.toList.drop k3).take (nb-1-k3)).reverse)++[gA a (k-1)]) (k-1) (k3):=⟨m4,by lia,by lia,by lia,by lia⟩;by_cases c7:(decide (na-k<7)&&decide (nb-1-k3<7))=true;·rw[if_pos c7];exact LW ⟨_,rfl,.inr ⟨_,_,((o++((a.toList.drop k).take (na-k)).reverse)++[gA b (nb-1)]++((b.toList.drop k3).take (nb-1-k3)).reverse)++[gA a (k-1)],_,_,_,rfl,R1,by lia⟩⟩
        ·rw[if_neg c7];exact LW ⟨_,_,((o++((a.toList.drop k).take (na-k)).reverse)++[gA b (nb-1)]++((b.toList.drop k3).take (nb-1-k3)).reverse)++[gA a (k-1)],_,_,_,_,rfl,R1,by lia,rfl⟩
end
open PySem PySem.Spec PyProof.Rows PySem.W
def CV{α:Type}(p:Array α)(s:Nat)(z:List (α×Nat)):Array α:=z.foldl (λa z=>a.setIfInBounds (s+z.2) z.1) p
theorem vT{α β:Type}(f:α->β)(s:Nat):∀(r:List α) (k:Nat) (p:Array α),CV (p.map f) s ((r.map f).zipIdx k)=(CV p s (r.zipIdx k)).map f|[],k,p=>rfl|x::r,k,p=>by show CV ((p.map f).setIfInBounds (s+k) (f x)) s ((r.map f).zipIdx (k+1))=(CV (p.setIfInBounds (s+k) x) s (r.zipIdx (k+1))).map f;rw[<-vT f s r (k+1)];congr 1;refine Array.ext' ?_;simp[List.map_set]
theorem tK{α:Type}(s:Nat):∀(r:List α) (k:Nat) (p:Array α),s+k+r.length<=p.size->(CV p s (r.zipIdx k)).toList=p.toList.take (s+k)++r++p.toList.drop (s+k+r.length)
 |[],k,p,h=>by simp[CV]|x::r,k,p,h=>by
  show(CV (p.setIfInBounds (s+k) x) s (r.zipIdx (k+1))).toList=_;rw[Nj]at h;rw[tK s r (k+1) _ ↥7];have hl:s+k<p.toList.length:=by simp;lia
  rw[show(p.setIfInBounds (s+k) x).toList=p.toList.set (s+k) x by simp];have e1:(p.toList.set (s+k) x).take (s+(k+1))=p.toList.take (s+k)++[x]:=by rw[<-Nat.add_assoc,List.take_succ,NV hl,List.take_set_of_le ↥8];rfl
  have e2:(p.toList.set (s+k) x).drop (s+(k+1)+r.length)=p.toList.drop (s+k+(x::r).length):=by rw[List.drop_set_of_lt ↥0,Nj];congr 1;lia
  rw[e1,e2,MA (p.toList.take (s+k)),List.singleton_append]
abbrev ku(L:List Nat)(s n:Nat):List Nat:=(L.drop s).take n
theorem rY(L:List Nat)(s m n:Nat):ku L s (m+n)=ku L s m++ku L (s+m) n:=by unfold ku;rw[List.take_add,List.drop_drop]
theorem C9(p:Array Nat)(i j:Nat):(p.extract i j).toList=ku p.toList i (j-i):=by simp[Rj]
theorem z9{lt:Nat->Nat->Bool}{p:Array Nat}{s n:Nat}(h:(ku p.toList s n).Pairwise (a8 lt)){i j:Nat}(h1:s<=i)(h2:i<j)(h3:j<s+n)(h4:j<p.size):a8 lt (gA p i) (gA p j):=by
 have:=Pr.mp h (i-s) (j-s) (by unfold ku;rw[Nh,NY,MQ];lia) (by unfold ku;rw[Nh,NY,MQ];lia) ↥0;unfold ku at this;rw[Qd,Pt,Qd,Pt]at this;simp only[show s+(i-s)=i by lia,show s+(j-s)=j by lia]at this;have hi:i<p.size:=by lia
 simpa[gA,NI,h4,hi]using this
theorem p8(p:Array Nat){i j t:Nat}(h:i+t<j)(hj:j<=p.size):gA (p.extract i j) t=gA p (i+t):=by
 have h2:i+t<p.size:=by lia
 refine p7 ?_;rw[Array.getElem?_extract,if_pos ↥0]
section
variable{prog:Mc}{w:LV}{A:Md}{E:LP->LR->Prop}{s:LR}{κ:Ob}{it:Array MP}{N:Nat}{lt:Nat->Nat->Bool}{st:Mz}
theorem yo(p:Array Nat)(i j:Nat):(p.map (kas_item it)).extract i j=(p.extract i j).map (kas_item it):=by refine Array.ext' ?_;simp[Rj,List.map_take,List.map_drop]
theorem Ar{σ:Type}{M:Model}{x st:σ}{Q:PUnit->σ->Prop}(h:Q ⟨⟩ x):wpS M A E s (set x:StateT σ Sem PUnit) Q st:=by unfold wpS;rw[StateT.run_set];exact Mj ⟨rfl,h⟩
theorem z_(L:List Nat)(s n:Nat):L=L.take s++ku L s n++L.drop (s+n):=by rw[MA,<-je,OD]
theorem HU(Or:xU prog w A s κ it N lt){p:Array Nat}(hN:∀j,j<p.size->gA p j<N){pend:Array (Nat×Nat×Nat)}{g i sa na pw sb nb pw2:Nat}(h1:pend[i]?=some (sa,na,pw))(h2:pend[i+1]?=some (sb,nb,pw2))(e:sb=sa+na)(na0:0<na)(nb0:0<nb)(hs:sb+nb<=p.size)(s1:(ku p.toList sa na).Pairwise (a8 lt))(s2:(ku p.toList sb nb).Pairwise (a8 lt)){Q:Bool->Mz->Prop}(h:∀(p':Array Nat) (r:List Nat) (g:Nat),r.Perm (ku p.toList sa (na+nb))->r.Pairwise (a8 lt)->p'.toList=p.toList.take sa++r++p.toList.drop (sb+nb)->Q true (Ou κ (p'.map (kas_item it)) ((pend.setIfInBounds i (sa,na+nb,pw)).eraseIdxIfInBounds (i+1)) g none)):wpS (LY prog w) A E s (mergeAt' i) Q (Ou κ (p.map (kas_item it)) pend g none):=by
 have O:=Or.ord;have rfA:∀{i j:Nat},sa<=i->i<=j->j<sb->a8 lt (gA p i) (gA p j):=fun{i j}a b c=>by
  by_cases z:i=j;·subst z;exact a8.rf O _
  ·exact z9 s1 a (by omega) (by omega) (by omega)
 have rfB:∀{i j:Nat},sb<=i->i<=j->j<sb+nb->a8 lt (gA p i) (gA p j):=fun{i j}a b c=>by
  by_cases z:i=j;·subst z;exact a8.rf O _
  ·exact z9 s2 a (by omega) (by omega) (by omega)
 unfold mergeAt';refine LX (Ol ?_);dsimp only;rw[h1,h2];dsimp only;refine LX (Ar ?_);refine LX (bo (by omega) ?_);refine LX (dN Or rfl hN (hN _ (by omega)) (by omega) (by omega) (λi j a b c=>by unfold eR at*;rw[if_neg ⋯,Oa]at*;exact a8.tr O (rfA (by omega) (by omega) (by omega)) c) λk kn k1 k2=>?_);dsimp only;have k1':∀j,sa<=j->j<sa+k->a8 lt (gA p j) (gA p sb):=λj a b=>by have e1:=k1 (j-sa) (by omega);unfold eR at e1;rw[if_neg ⋯,Oa,show sa+(j-sa)=j by omega]at e1;exact e1
 by_cases c1:na-k=0
 ·rw[if_pos (by simpa using c1)];refine LW (h p (ku p.toList sa (na+nb)) g (List.Perm.refl _) ?_ ?_);·rw[rY,Nz,<-e];refine⟨s1,s2,λx hx y hy=>?_⟩;obtain⟨t,t1,t2,rfl⟩:=du p hx;obtain⟨u,u1,u2,rfl⟩:=du p hy;exact a8.tr O (k1' (sa+t) (by omega) (by omega)) (rfB ↥8 (by omega) (by omega))
  ·rw[e,Nat.add_assoc];exact z_ _ _ _
 rw[if_neg (by simpa using c1)];refine LX (bo (by omega) ?_);refine LX (dN Or rfl hN (hN _ (by omega)) (by omega) (by omega) (λi j a b c=>by unfold eR at*;rw[if_pos rfl]at*;cases e2:lt (gA p (sb+i)) (gA p (sa+k+(na-k)-1)) with|true=>rfl|false=>have:=a8.tr O e2 (rfB (show sb<=sb+i by omega) (show sb+i<=sb+j by omega) (by omega));exact Om (c.symm.trans this)) λm mn m1 m2=>?_);dsimp only;have k2':lt (gA p sb) (gA p (sa+k))=true:=by have e1:=k2 k ↥8 (by omega);unfold eR at e1;rw[if_neg ⋯,Qe]at e1;exact e1
 rw[show sa+k+(na-k)-1=sb-1 by omega]at m1 m2;have m1':∀j,sb<=j->j<sb+m->lt (gA p j) (gA p (sb-1))=true:=λj a b=>by have e1:=m1 (j-sb) (by omega);unfold eR at e1;rw[if_pos rfl,show sb+(j-sb)=j by omega]at e1;exact e1
 have m2':∀j,sb+m<=j->j<sb+nb->a8 lt (gA p (sb-1)) (gA p j):=λj a b=>by have e1:=m2 (j-sb) (by omega) (by omega);unfold eR at e1;rw[if_pos rfl,show sb+(j-sb)=j by omega]at e1;exact e1
 by_cases c2:m=0;·have:=a8.tr O (rfA (show sa<=sa+k by omega) (show sa+k<=sb-1 by omega) (by omega)) (m2' sb (by omega) (by omega));exact Om (k2'.symm.trans this)
 rw[if_neg (by simpa using c2)];have zA:(p.extract (sa+k) sb).size=na-k:=by rw[Array.size_extract];omega
 have zB:(p.extract sb (sb+m)).size=m:=by rw[Array.size_extract];omega
 have lA:(p.extract (sa+k) sb).toList=ku p.toList (sa+k) (na-k):=by rw[C9,show sb-(sa+k)=na-k by omega]
 have lB:(p.extract sb (sb+m)).toList=ku p.toList sb m:=by rw[C9,show sb+m-sb=m by omega]
 have d1:ku p.toList sa na=ku p.toList sa k++ku p.toList (sa+k) (na-k):=by rw[<-rY,show k+(na-k)=na by omega]
 have d2:ku p.toList sb nb=ku p.toList sb m++ku p.toList (sb+m) (nb-m):=by rw[<-rY,show m+(nb-m)=nb by omega]
 have s1':=s1;have s2':=s2;rw[d1,Nz]at s1';rw[d2,Nz]at s2';have T:nV N lt (p.extract (sa+k) sb) (p.extract sb (sb+m)):=by
  refine⟨O,by rw[lA];exact s1'.2.1,by rw[lB];exact s2'.1,λj hj=>?_,λj hj=>?_,by omega,by omega,?_,λj hj=>?_⟩;·rw[p8 p (by omega) (by omega)];exact hN _ (by omega)
  ·rw[p8 p (by omega) (by omega)];exact hN _ (by omega)
  ·rw[p8 p (by omega) (by omega),p8 p (by omega) (by omega),Ov,Ov];exact k2'
  ·rw[p8 p (by omega) (by omega),p8 p (by omega) (by omega),zA,show sa+k+(na-k-1)=sb-1 by omega];exact m1' _ (by omega) (by omega)
 have fin:∀(r:List Nat) (g':Nat),Fn lt (p.extract (sa+k) sb).toList (p.extract sb (sb+m)).toList r->Q true (Ou κ (CV (p.map (kas_item it)) (sa+k) ((r.map (kas_item it)).zipIdx 0)) ((pend.setIfInBounds i (sa,na+nb,pw)).eraseIdxIfInBounds (i+1)) g' none):=λr g' F=>by
  have pm:=F.pm;rw[lA,lB]at pm;have rl:r.length=na-k+m:=by rw[pm.length_eq,MY,Nh,Nh,NY,NY,MQ];omega
  have mem:∀y∈r,(∃j,sa+k<=j/\j<sb/\y=gA p j)\/∃j,sb<=j/\j<sb+m/\y=gA p j:=λy hy=>by
   rcases LK (pm.mem_iff.mp hy) with hy|hy;·obtain⟨t,t1,t2,rfl⟩:=du p hy;exact .inl ⟨_,by omega,by omega,rfl⟩
   ·obtain⟨t,t1,t2,rfl⟩:=du p hy;exact .inr ⟨_,by omega,by omega,rfl⟩
  rw[vT];refine h _ (ku p.toList sa k++r++ku p.toList (sb+m) (nb-m)) g' ?_ ?_ ?_;·rw[rY,d1,<-e,d2,MA,MA];refine Ot _ ?_;rw[<-MA (ku p.toList (sa+k) (na-k))];exact pm.append_right _
  ·rw[Nz,Nz];refine⟨⟨s1'.1,F.so,λx hx y hy=>?_⟩,s2'.2.1,λx hx y hy=>?_⟩
   ·obtain⟨t,t1,t2,rfl⟩:=du p hx;rcases mem y hy with⟨j,j1,j2,rfl⟩|⟨j,j1,j2,rfl⟩;·exact rfA (by omega) (by omega) j2
    ·exact a8.tr O (k1' (sa+t) (by omega) (by omega)) (rfB ↥8 j1 (by omega))
   ·obtain⟨u,u1,u2,rfl⟩:=du p hy;rcases LK hx with hx|hx;·obtain⟨t,t1,t2,rfl⟩:=du p hx;exact a8.tr O (k1' (sa+t) (by omega) (by omega)) (rfB ↥8 (by omega) (by omega))
    ·rcases mem x hx with⟨j,j1,j2,rfl⟩|⟨j,j1,j2,rfl⟩;·exact a8.tr O (rfA (by omega) (show j<=sb-1 by omega) (by omega)) (m2' _ (by omega) (by omega))
     ·exact rfB j1 (by omega) (by omega)
  ·rw[tK (sa+k) r 0 p (by omega),Ov,rl,take_add,show sa+k+(na-k+m)=sb+m by omega];have e5:p.toList.drop (sb+m)=ku p.toList (sb+m) (nb-m)++p.toList.drop (sb+nb):=by have:=je p.toList (sb+m) (nb-m);rwa[show sb+m+(nb-m)=sb+nb by omega]at this
   rw[e5];simp only[MA]
 rw[yo,yo];by_cases c3:na-k<=m;·rw[if_pos c3];refine LX (HW Or T rfl λr g' F=>?_);refine LX (NU (LX (Ol (LW ?_))));exact fin r g' F
 ·rw[if_neg c3];refine LX (HV Or T rfl λr g' F=>?_);refine LX (NU (LX (Ol (LW ?_))));exact fin r g' F
end
open PySem PySem.Spec PyProof.Rows PySem.W
structure Ch (lo:Nat) (p p':Array Nat):Prop where
 sz:p'.size=p.size
 pm:p'.Perm p
 low:∀i,i<lo->gA p' i=gA p i
theorem Ch.refl(lo:Nat)(p:Array Nat):Ch lo p p:=⟨rfl,Rm _,λ_ _=>rfl⟩
theorem Ch.trans{lo:Nat}{p q r:Array Nat}(h1:Ch lo p q)(h2:Ch lo q r):Ch lo p r:=⟨h2.sz.trans h1.sz,h2.pm.trans h1.pm,λi hi=>(h2.low i hi).trans (h1.low i hi)⟩
abbrev mir(p:Array Nat)(i j:Nat):Array Nat:=mirror p i j ((j-i)/2)
theorem fH{p:Array Nat}{i j k:Nat}(hj:j<=p.size):gA (mir p i j) k=if i<=k/\k<j then gA p (i+j-1-k) else gA p k:=by
 split;case isTrue h=>exact p7 (by rw[getElem?_mirror_all hj,if_pos h])
 case isFalse h=>exact p7 (by rw[getElem?_mirror_all hj,if_neg h])
theorem Ch.mir{lo i j:Nat}{p:Array Nat}(hi:lo<=i)(hj:j<=p.size):Ch lo p (L2.mir p i j):=⟨mirror_size _ _ _ _,mirror_perm _ _ _ _,λk hk=>by rw[fH hj,if_neg ↥0]⟩
theorem Ba{it:Array MP}(p:Array Nat)(i j:Nat):mirror (p.map (kas_item it)) i j ((j-i)/2)=(mir p i j).map (kas_item it):=kas_swaps_map _ _ _ _ _
def SO(lt:Nat->Nat->Bool)(p:Array Nat)(lo m:Nat):Prop:=∀i j,i<j->j<m->lt (gA p (lo+j)) (gA p (lo+i))=false
def DO(lt:Nat->Nat->Bool)(p:Array Nat)(lo m:Nat):Prop:=∀i j,i<j->j<m->lt (gA p (lo+i)) (gA p (lo+j))=false
def EO(lt:Nat->Nat->Bool)(p:Array Nat)(lo a b:Nat):Prop:=∀i j,a<=i->i<b->a<=j->j<b->lt (gA p (lo+i)) (gA p (lo+j))=false
section
variable{lt:Nat->Nat->Bool}(O:nj lt){p:Array Nat}{lo m:Nat}
include O
theorem SO.snoc(h:SO lt p lo m)(h1:1<=m)(hl:lt (gA p (lo+m)) (gA p (lo+m-1))=false):SO lt p lo (m+1):=λi j hij hj=>by
 by_cases c:j<m;·exact h i j hij c
 ·have e:j=m:=by lia
  subst e;by_cases d:i=j-1;·subst d;rw[show lo+(j-1)=lo+j-1 by lia];exact hl
  ·have:=h i (j-1) ↥0 ↥0;rw[show lo+(j-1)=lo+j-1 by lia]at this;exact O.tr hl this
theorem DO.snoc(h:DO lt p lo m)(h1:1<=m)(hl:lt (gA p (lo+m-1)) (gA p (lo+m))=false):DO lt p lo (m+1):=λi j hij hj=>by
 by_cases c:j<m;·exact h i j hij c
 ·have e:j=m:=by lia
  subst e;by_cases d:i=j-1;·subst d;rw[show lo+(j-1)=lo+j-1 by lia];exact hl
  ·have:=h i (j-1) ↥0 ↥0;rw[show lo+(j-1)=lo+j-1 by lia]at this;exact O.tr this hl
omit O in
theorem DO.flip(h:DO lt p lo m)(hm:lo+m<=p.size):SO lt (mir p lo (lo+m)) lo m:=λi j hij hj=>by rw[fH hm,fH hm,if_pos ↥0,if_pos ↥0];have:=h (m-1-j) (m-1-i) ↥0 ↥0;rw[show lo+(m-1-j)=lo+(lo+m)-1-(lo+j) by lia,show lo+(m-1-i)=lo+(lo+m)-1-(lo+i) by lia]at this;exact this
omit O in
theorem DO.rev{a b:Nat}(h:DO lt p lo m)(he:EO lt p lo a b)(hb:b<=m)(hm:lo+m<=p.size)(hab:a<=b):DO lt (mir p (lo+a) (lo+b)) lo m:=λi j hij hj=>by
 rw[fH ↥0,fH ↥0];by_cases c1:a<=i/\i<b
 ·rw[if_pos ↥0];by_cases c2:a<=j/\j<b;·rw[if_pos ↥0];have:=he (a+b-1-i) (a+b-1-j) ↥0 ↥0 ↥0 ↥0;rw[show lo+(a+b-1-i)=lo+a+(lo+b)-1-(lo+i) by lia,show lo+(a+b-1-j)=lo+a+(lo+b)-1-(lo+j) by lia]at this;exact this
  ·rw[if_neg ↥0];have:=h (a+b-1-i) j ↥0 hj;rw[show lo+(a+b-1-i)=lo+a+(lo+b)-1-(lo+i) by lia]at this;exact this
 ·rw[if_neg ↥0];by_cases c2:a<=j/\j<b;·rw[if_pos ↥0];have:=h i (a+b-1-j) ↥0 ↥0;rw[show lo+(a+b-1-j)=lo+a+(lo+b)-1-(lo+j) by lia]at this;exact this
  ·rw[if_neg ↥0];exact h i j hij hj
end
section
variable{prog:Mc}{w:LV}{A:Md}{E:LP->LR->Prop}{s:LR}{κ:Ob}{it:Array MP}{N:Nat}{lt:Nat->Nat->Bool}{p:Array Nat}{pend:Array (Nat×Nat×Nat)}{g lo nrem:Nat}
abbrev io(κ:Ob)(it:Array MP)(p:Array Nat)(pend:Array (Nat×Nat×Nat))(g:Nat):Mz:=Ou κ (p.map (kas_item it)) pend g none
theorem f_(Or:xU prog w A s κ it N lt)(hN:∀j,j<p.size->gA p j<N){i j:Nat}(hi:i<p.size)(hj:j<p.size){Q:Option Bool->Mz->Prop}(h:Q (some (lt (gA p i) (gA p j))) (io κ it p pend g)):wpS (LY prog w) A E s (ltAt' i j) Q (io κ it p pend g):=by rw[ltAt'_eq];refine LX (Ol ?_);refine LX (bo hi (LX (bo hj ?_)));exact uk Or rfl (hN _ hi) (hN _ hj) h
theorem lT{i j:Nat}{Q:Unit->Mz->Prop}(h:Q () (io κ it (mir p i j) pend g)):wpS (LY prog w) A E s (reverseSlice' i j) Q (io κ it p pend g):=by
 rw[reverseSlice'_eq];refine NU ?_;have e:setArr (io κ it p pend g) (mirror (arrOf (io κ it p pend g)) i j ((j-i)/2))=io κ it (mir p i j) pend g:=by show Ou κ (mirror (p.map (kas_item it)) i j ((j-i)/2)) pend g none=_;rw[Ba]
 rw[e];exact h
theorem Ch.bnd{lo:Nat}{p p':Array Nat}{N:Nat}(h:Ch lo p p')(hN:∀j,j<p.size->gA p j<N):∀j,j<p'.size->gA p' j<N:=λj hj=>by
 have e:gA p' j=p'[j]:=by simp[gA,NI,hj]
 have m:p'[j]∈p:=h.pm.mem_iff.mp (Array.getElem_mem hj);obtain⟨k,hk,ek⟩:=Array.mem_iff_getElem.mp m;have:=hN k hk;rw[e,<-ek];simpa[gA,NI,hk]using this
theorem uj{st:Mz}(O:nj lt){a:Nat}(ha:1<=a)(han:a<=nrem)(so:SO lt p lo a){f:Nat->Option (Option Nat)×Nat->StateT Mz Sem (ForInStep (Option (Option Nat)×Nat))}{Q:Option (Option Nat)×Nat->Mz->Prop}(hs:∀x n R,n<nrem->1<=n->R (if lt (gA p (lo+n)) (gA p (lo+n-1))=true then .done (none,n) else .yield (none,n+1)) st->wpS (LY prog w) A E s (f x (none,n)) R st)(h:∀n,a<=n->n<=nrem->SO lt p lo n->(n<nrem->lt (gA p (lo+n)) (gA p (lo+n-1))=true)->Q (none,n) st):wpS (LY prog w) A E s (forIn [a:nrem] (none,a) f) Q st:=by
 refine Nq (I:=λx c st'=>st'=st/\c=(none,x)/\SO lt p lo x) ?_ ?_ ⟨rfl,rfl,so⟩;·rintro x c st' h1 h2⟨rfl,rfl,hso⟩;refine hs x x _ h2 ↥0 ?_;cases e:lt (gA p (lo+x)) (gA p (lo+x-1)) with|true=>rw[if_pos rfl];exact h x h1 ↥0 hso λ_=>e|false=>rw[if_neg ⋯];exact⟨rfl,rfl,hso.snoc O ↥0 e⟩
 ·rintro c st'⟨rfl,rfl,hso⟩;rw[show max a nrem=nrem by lia]at*;exact h nrem han ↥8 hso λz=>absurd z (On _)
theorem Cg(Or:xU prog w A s κ it N lt)(hN:∀j,j<p.size->gA p j<N)(h1:1<=nrem)(hr:lo+nrem<=p.size){Q:Option Nat->Mz->Prop}(h:∀(n:Nat) (p':Array Nat),Ch lo p p'->1<=n->n<=nrem->SO lt p' lo n->Q (some n) (io κ it p' pend g)):wpS (LY prog w) A E s (countRun' lo nrem) Q (io κ it p pend g):=by
 unfold countRun';refine LX (uj Or.ord (lo:=lo) (p:=p) (MU 1) h1 (λi j a b=>by lia) (λx n R hn hn1 h=>?_) λn n1 n2 so nx=>?_);·dsimp only;refine LX (f_ Or hN ↥0 ↥0 ?_);dsimp only;cases e:lt (gA p (lo+n)) (gA p (lo+n-1)) with|true=>rw[e,if_pos rfl]at h;rw[if_pos rfl];exact LW h|false=>rw[e,if_neg ⋯]at h;rw[if_neg ⋯];exact LW h
 dsimp only;by_cases c1:n=nrem;·rw[if_pos (by simpa using c1)];exact LW (h n p (Ch.refl _ _) n1 n2 so)
 rw[if_neg (by simpa using c1)];have nx':=nx ↥0;by_cases c2:n>1;·rw[if_pos c2];refine LX (f_ Or hN ↥0 ↥0 ?_);dsimp only;cases e:lt (gA p lo) (gA p (lo+n-1)) with|true=>rw[if_pos rfl];exact LW (h n p (Ch.refl _ _) n1 n2 so)|false=>
  rw[if_neg ⋯];refine LX (lT ?_);have al:EO lt p lo 0 n:=λi j _ hi _ hj=>by
   have a1:lt (gA p (lo+j)) (gA p lo)=false:=by
    by_cases z:j=0;·subst z;exact Or.ord.irr _
    ·exact so 0 j ↥0 hj
   have a2:lt (gA p (lo+n-1)) (gA p (lo+j))=false:=by
    by_cases z:j=n-1;·rw[show lo+j=lo+n-1 by lia];exact Or.ord.irr _
    ·have:=so j (n-1) ↥0 ↥0;rwa[show lo+(n-1)=lo+n-1 by lia]at this
   have b1:lt (gA p (lo+i)) (gA p lo)=false:=by
    by_cases z:i=0;·subst z;exact Or.ord.irr _
    ·exact so 0 i ↥0 hi
   exact Or.ord.tr b1 (Or.ord.tr e a2)
  have d0:DO lt p lo n:=λi j _ hj=>al i j (Np _) ↥0 (Np _) hj;have d1:=d0.rev al ↥8 ↥0 (Np _);rw[Ov]at d1;have ch1:Ch lo p (mir p lo (lo+n)):=Ch.mir ↥8 ↥0;have do1:DO lt (mir p lo (lo+n)) lo (n+1):=d1.snoc Or.ord ↥0 (by rw[fH ↥0,fH ↥0,if_pos ↥0,if_neg ↥0,show lo+(lo+n)-1-(lo+n-1)=lo by lia];exact Or.ord.tr e (Or.ord.asy nx'));refine LX (ON (NW ⟨rfl,?_⟩));refine LX (Ny (Nq (I:=λx c st'=>∃q p',c=(none,x,q)/\st'=io κ it p' pend g/\Ch lo p p'/\DO lt p' lo x/\q+1<=x/\EO lt p' lo (x-(q+1)) x) (Q:=λc st'=>∃n q p',c=(none,n,q)/\st'=io κ it p' pend g/\Ch lo p p'/\DO lt p' lo n/\q+1<=n/\n<=nrem/\EO lt p' lo (n-(q+1)) n) ?sA ?fA ⟨0,mir p lo (lo+n),rfl,rfl,ch1,do1,by lia,λi j a b c d=>by rw[show i=j by lia];exact Or.ord.irr _⟩) ?pA);case fA=>rintro c st'⟨q,p',rfl,rfl,ch,d,hq,he⟩;rw[show max (n+1) nrem=nrem by lia]at*;exact⟨nrem,q,p',rfl,rfl,ch,d,hq,MU _,he⟩
  case sA=>
   rintro x c st' hx1 hx2⟨q,p',rfl,rfl,ch,d,hq,he⟩
   have hNp:=ch.bnd hN;have sz:=ch.sz;dsimp only;refine LX (f_ Or hNp ↥0 ↥0 ?_);dsimp only;cases e:lt (gA p' (lo+x)) (gA p' (lo+x-1)) with|true=>
    rw[if_pos rfl];by_cases cq:q>0;·rw[if_pos cq];refine LX (lT ?_);rw[show lo+x-(q+1)=lo+(x-(q+1)) by lia];have d':=d.rev he ↥8 ↥0 ↥0;have ch':=ch.trans (Ch.mir (show lo<=lo+(x-(q+1)) by lia) (show lo+x<=p'.size by lia));refine LW ⟨0,_,rfl,rfl,ch',d'.snoc Or.ord ↥0 ?_,by lia,λi j a b c d=>by rw[show i=j by lia];exact Or.ord.irr _⟩;rw[fH ↥0,fH ↥0,if_pos ↥0,if_neg ↥0];have e1:=he (x-(q+1)) (x-1) ↥0 ↥0 ↥0 ↥0;rw[show lo+(x-1)=lo+x-1 by lia]at e1;rw[show lo+(x-(q+1))+(lo+x)-1-(lo+x-1)=lo+(x-(q+1)) by lia];exact Or.ord.tr e1 (Or.ord.asy e)
    ·rw[if_neg cq];exact LW ⟨0,p',rfl,rfl,ch,d.snoc Or.ord ↥0 (Or.ord.asy e),by lia,λi j a b c d=>by rw[show i=j by lia];exact Or.ord.irr _⟩|false=>rw[if_neg ⋯];refine LX (f_ Or hNp ↥0 ↥0 ?_);dsimp only;cases e2:lt (gA p' (lo+x-1)) (gA p' (lo+x)) with|true=>rw[if_pos rfl];exact LW ⟨x,q,p',rfl,rfl,ch,d,hq,by lia,he⟩|false=>
     rw[if_neg ⋯];refine LW ⟨q+1,p',rfl,rfl,ch,d.snoc Or.ord ↥0 e2,by lia,λi j a b c d=>?_⟩;have f:∀i,x-(q+1)<=i->i<x->lt (gA p' (lo+i)) (gA p' (lo+x))=false/\lt (gA p' (lo+x)) (gA p' (lo+i))=false:=λi a b=>by have g1:=he i (x-1) ↥0 b ↥0 ↥0;have g2:=he (x-1) i ↥0 ↥0 ↥0 b;rw[show lo+(x-1)=lo+x-1 by lia]at g1 g2;exact⟨Or.ord.tr g1 e2,Or.ord.tr e g2⟩
     by_cases c1:i=x
     ·subst c1;by_cases c2:j=i;·subst c2;exact Or.ord.irr _
      ·exact(f j ↥0 ↥0).2
     ·by_cases c2:j=x;·subst c2;exact(f i ↥0 ↥0).1
      ·exact he i j ↥0 ↥0 ↥0 ↥0
  case pA=>
   rintro c st'⟨n2,q,p',rfl,rfl,ch,d,hq,hn2,he⟩;have sz:=ch.sz;dsimp only;by_cases cq:q>0
   ·rw[if_pos cq];refine LX (lT ?_);rw[show lo+n2-(q+1)=lo+(n2-(q+1)) by lia];have dd:=d.rev he ↥8 ↥0 ↥0;have cc:=ch.trans (Ch.mir (show lo<=lo+(n2-(q+1)) by lia) (show lo+n2<=p'.size by lia));refine LX (lT ?_);have so:=dd.flip (show lo+n2<=(mir p' (lo+(n2-(q+1))) (lo+n2)).size by rw[cc.sz];lia);have c2:=cc.trans (Ch.mir (MU lo) (show lo+n2<=(mir p' (lo+(n2-(q+1))) (lo+n2)).size by rw[cc.sz];lia));have hN2:∀j,j<(mir (mir p' (lo+(n2-(q+1))) (lo+n2)) lo (lo+n2)).size->gA (mir (mir p' (lo+(n2-(q+1))) (lo+n2)) lo (lo+n2)) j<N:=c2.bnd hN;refine LX (uj Or.ord (lo:=lo) (p:=mir (mir p' (lo+(n2-(q+1))) (lo+n2)) lo (lo+n2)) ↥0 ↥0 so (λx n R hn hn1 h=>?_) λn3 h3 h4 h5 _=>?_);·dsimp only;refine LX (f_ Or hN2 (by rw[c2.sz];lia) (by rw[c2.sz];lia) ?_);dsimp only;cases e:lt (gA (mir (mir p' (lo+(n2-(q+1))) (lo+n2)) lo (lo+n2)) (lo+n)) (gA (mir (mir p' (lo+(n2-(q+1))) (lo+n2)) lo (lo+n2)) (lo+n-1)) with|true=>rw[e,if_pos rfl]at h;rw[if_pos rfl];exact LW h|false=>rw[e,if_neg ⋯]at h;rw[if_neg ⋯];exact LW h
    ·dsimp only;exact LW (h n3 _ c2 ↥0 h4 h5)
   ·rw[if_neg cq];have dd:=d;have cc:=ch;refine LX (lT ?_);have so:=dd.flip (show lo+n2<=p'.size by rw[cc.sz];lia);have c2:=cc.trans (Ch.mir (MU lo) (show lo+n2<=p'.size by rw[cc.sz];lia));have hN2:∀j,j<(mir p' lo (lo+n2)).size->gA (mir p' lo (lo+n2)) j<N:=c2.bnd hN;refine LX (uj Or.ord (lo:=lo) (p:=mir p' lo (lo+n2)) ↥0 ↥0 so (λx n R hn hn1 h=>?_) λn3 h3 h4 h5 _=>?_);·dsimp only;refine LX (f_ Or hN2 (by rw[c2.sz];lia) (by rw[c2.sz];lia) ?_);dsimp only;cases e:lt (gA (mir p' lo (lo+n2)) (lo+n)) (gA (mir p' lo (lo+n2)) (lo+n-1)) with|true=>rw[e,if_pos rfl]at h;rw[if_pos rfl];exact LW h|false=>rw[e,if_neg ⋯]at h;rw[if_neg ⋯];exact LW h
    ·dsimp only;exact LW (h n3 _ c2 ↥0 h4 h5)
 ·rw[if_neg c2];have n1':n=1:=by lia
  have ch1:Ch lo p p:=Ch.refl _ _;have do1:DO lt p lo (n+1):=DO.snoc Or.ord (λi j _ _=>by lia) ↥0 (Or.ord.asy nx');refine LX (ON (NW ⟨rfl,?_⟩));refine LX (Ny (Nq (I:=λx c st'=>∃q p',c=(none,x,q)/\st'=io κ it p' pend g/\Ch lo p p'/\DO lt p' lo x/\q+1<=x/\EO lt p' lo (x-(q+1)) x) (Q:=λc st'=>∃n q p',c=(none,n,q)/\st'=io κ it p' pend g/\Ch lo p p'/\DO lt p' lo n/\q+1<=n/\n<=nrem/\EO lt p' lo (n-(q+1)) n) ?sB ?fB ⟨0,p,rfl,rfl,ch1,do1,by lia,λi j a b c d=>by rw[show i=j by lia];exact Or.ord.irr _⟩) ?pB);case fB=>rintro c st'⟨q,p',rfl,rfl,ch,d,hq,he⟩;rw[show max (n+1) nrem=nrem by lia]at*;exact⟨nrem,q,p',rfl,rfl,ch,d,hq,MU _,he⟩
  case sB=>
   rintro x c st' hx1 hx2⟨q,p',rfl,rfl,ch,d,hq,he⟩
   have hNp:=ch.bnd hN;have sz:=ch.sz;dsimp only;refine LX (f_ Or hNp ↥0 ↥0 ?_);dsimp only;cases e:lt (gA p' (lo+x)) (gA p' (lo+x-1)) with|true=>
    rw[if_pos rfl];by_cases cq:q>0;·rw[if_pos cq];refine LX (lT ?_);rw[show lo+x-(q+1)=lo+(x-(q+1)) by lia];have d':=d.rev he ↥8 ↥0 ↥0;have ch':=ch.trans (Ch.mir (show lo<=lo+(x-(q+1)) by lia) (show lo+x<=p'.size by lia));refine LW ⟨0,_,rfl,rfl,ch',d'.snoc Or.ord ↥0 ?_,by lia,λi j a b c d=>by rw[show i=j by lia];exact Or.ord.irr _⟩;rw[fH ↥0,fH ↥0,if_pos ↥0,if_neg ↥0];have e1:=he (x-(q+1)) (x-1) ↥0 ↥0 ↥0 ↥0;rw[show lo+(x-1)=lo+x-1 by lia]at e1;rw[show lo+(x-(q+1))+(lo+x)-1-(lo+x-1)=lo+(x-(q+1)) by lia];exact Or.ord.tr e1 (Or.ord.asy e)
    ·rw[if_neg cq];exact LW ⟨0,p',rfl,rfl,ch,d.snoc Or.ord ↥0 (Or.ord.asy e),by lia,λi j a b c d=>by rw[show i=j by lia];exact Or.ord.irr _⟩|false=>rw[if_neg ⋯];refine LX (f_ Or hNp ↥0 ↥0 ?_);dsimp only;cases e2:lt (gA p' (lo+x-1)) (gA p' (lo+x)) with|true=>rw[if_pos rfl];exact LW ⟨x,q,p',rfl,rfl,ch,d,hq,by lia,he⟩|false=>
     rw[if_neg ⋯];refine LW ⟨q+1,p',rfl,rfl,ch,d.snoc Or.ord ↥0 e2,by lia,λi j a b c d=>?_⟩;have f:∀i,x-(q+1)<=i->i<x->lt (gA p' (lo+i)) (gA p' (lo+x))=false/\lt (gA p' (lo+x)) (gA p' (lo+i))=false:=λi a b=>by have g1:=he i (x-1) ↥0 b ↥0 ↥0;have g2:=he (x-1) i ↥0 ↥0 ↥0 b;rw[show lo+(x-1)=lo+x-1 by lia]at g1 g2;exact⟨Or.ord.tr g1 e2,Or.ord.tr e g2⟩
     by_cases c1:i=x
     ·subst c1;by_cases c2:j=i;·subst c2;exact Or.ord.irr _
      ·exact(f j ↥0 ↥0).2
     ·by_cases c2:j=x;·subst c2;exact(f i ↥0 ↥0).1
      ·exact he i j ↥0 ↥0 ↥0 ↥0
  case pB=>
   rintro c st'⟨n2,q,p',rfl,rfl,ch,d,hq,hn2,he⟩;have sz:=ch.sz;dsimp only;by_cases cq:q>0
   ·rw[if_pos cq];refine LX (lT ?_);rw[show lo+n2-(q+1)=lo+(n2-(q+1)) by lia];have dd:=d.rev he ↥8 ↥0 ↥0;have cc:=ch.trans (Ch.mir (show lo<=lo+(n2-(q+1)) by lia) (show lo+n2<=p'.size by lia));refine LX (lT ?_);have so:=dd.flip (show lo+n2<=(mir p' (lo+(n2-(q+1))) (lo+n2)).size by rw[cc.sz];lia);have c2:=cc.trans (Ch.mir (MU lo) (show lo+n2<=(mir p' (lo+(n2-(q+1))) (lo+n2)).size by rw[cc.sz];lia));have hN2:∀j,j<(mir (mir p' (lo+(n2-(q+1))) (lo+n2)) lo (lo+n2)).size->gA (mir (mir p' (lo+(n2-(q+1))) (lo+n2)) lo (lo+n2)) j<N:=c2.bnd hN;refine LX (uj Or.ord (lo:=lo) (p:=mir (mir p' (lo+(n2-(q+1))) (lo+n2)) lo (lo+n2)) ↥0 ↥0 so (λx n R hn hn1 h=>?_) λn3 h3 h4 h5 _=>?_);·dsimp only;refine LX (f_ Or hN2 (by rw[c2.sz];lia) (by rw[c2.sz];lia) ?_);dsimp only;cases e:lt (gA (mir (mir p' (lo+(n2-(q+1))) (lo+n2)) lo (lo+n2)) (lo+n)) (gA (mir (mir p' (lo+(n2-(q+1))) (lo+n2)) lo (lo+n2)) (lo+n-1)) with|true=>rw[e,if_pos rfl]at h;rw[if_pos rfl];exact LW h|false=>rw[e,if_neg ⋯]at h;rw[if_neg ⋯];exact LW h
    ·dsimp only;exact LW (h n3 _ c2 ↥0 h4 h5)
   ·rw[if_neg cq];have dd:=d;have cc:=ch;refine LX (lT ?_);have so:=dd.flip (show lo+n2<=p'.size by rw[cc.sz];lia);have c2:=cc.trans (Ch.mir (MU lo) (show lo+n2<=p'.size by rw[cc.sz];lia));have hN2:∀j,j<(mir p' lo (lo+n2)).size->gA (mir p' lo (lo+n2)) j<N:=c2.bnd hN;refine LX (uj Or.ord (lo:=lo) (p:=mir p' lo (lo+n2)) ↥0 ↥0 so (λx n R hn hn1 h=>?_) λn3 h3 h4 h5 _=>?_);·dsimp only;refine LX (f_ Or hN2 (by rw[c2.sz];lia) (by rw[c2.sz];lia) ?_);dsimp only;cases e:lt (gA (mir p' lo (lo+n2)) (lo+n)) (gA (mir p' lo (lo+n2)) (lo+n-1)) with|true=>rw[e,if_pos rfl]at h;rw[if_pos rfl];exact LW h|false=>rw[e,if_neg ⋯]at h;rw[if_neg ⋯];exact LW h
    ·dsimp only;exact LW (h n3 _ c2 ↥0 h4 h5)
end
open PySem PySem.Spec PyProof.Rows PySem.W
section
variable{prog:Mc}{w:LV}{A:Md}{E:LP->LR->Prop}{s:LR}{κ:Ob}{it:Array MP}{N:Nat}{lt:Nat->Nat->Bool}{p:Array Nat}{pend:Array (Nat×Nat×Nat)}{g lo:Nat}
theorem HX{k l:Nat}{Q:Unit->Mz->Prop}(h:Q () (io κ it (bubble p k (k-l)) pend g)):wpS (LY prog w) A E s (moveDown' k l) Q (io κ it p pend g):=by
 rw[moveDown'_eq];refine NU ?_;have e:setArr (io κ it p pend g) (bubble (arrOf (io κ it p pend g)) k (k-l))=io κ it (bubble p k (k-l)) pend g:=by show Ou κ (bubble (p.map (kas_item it)) k (k-l)) pend g none=_;have e1:bubble (p.map (kas_item it)) k (k-l)=(bubble p k (k-l)).map (kas_item it):=kas_swaps_map (kas_item it) (λi=>k-i) (λi=>k-i-1) _ p;rw[e1]
 rw[e];exact h
theorem SO.ins(O:nj lt){k l:Nat}(so:SO lt p lo k)(hk:lo+k<p.size)(hl:l<=k)(h1:∀i,i<l->lt (gA p (lo+k)) (gA p (lo+i))=false)(h2:∀i,l<=i->i<k->lt (gA p (lo+k)) (gA p (lo+i))=true):Ch lo p (bubble p (lo+k) (lo+k-(lo+l)))/\SO lt (bubble p (lo+k) (lo+k-(lo+l))) lo (k+1):=by
 have b:∀i,gA (bubble p (lo+k) (lo+k-(lo+l))) i=if i=lo+l then gA p (lo+k) else if lo+l<i/\i<=lo+k then gA p (i-1) else gA p i:=λi=>by rw[Dv O hk ↥0,show lo+k-(lo+k-(lo+l))=lo+l by lia]
 refine⟨⟨bubble_size _ _ _,bubble_perm _ _ _,λi hi=>?_⟩,λi j hij hj=>?_⟩;·rw[b,if_neg ↥0,if_neg ↥0]
 rw[b,b];by_cases c1:j=l;·rw[if_pos ↥0,if_neg ↥0,if_neg ↥0];exact h1 i ↥0
 rw[if_neg ↥0];by_cases c2:j<l;·rw[if_neg ↥0,if_neg ↥0,if_neg ↥0];exact so i j hij ↥0
 rw[if_pos ↥0,show lo+j-1=lo+(j-1) by lia];by_cases c3:i=l;·rw[if_pos ↥0];exact O.asy (h2 (j-1) ↥0 ↥0)
 rw[if_neg ↥0];by_cases c4:i<l;·rw[if_neg ↥0];exact so i (j-1) ↥0 ↥0
 ·rw[if_pos ↥0,show lo+i-1=lo+(i-1) by lia];exact so (i-1) (j-1) ↥0 ↥0
theorem GV(Or:xU prog w A s κ it N lt)(hN:∀j,j<p.size->gA p j<N){n ok:Nat}(hr:lo+n<=p.size)(hok:ok<=n)(so:SO lt p lo ok){Q:Bool->Mz->Prop}(h:∀p':Array Nat,Ch lo p p'->SO lt p' lo n->Q true (io κ it p' pend g)):wpS (LY prog w) A E s (binarySort' lo n ok) Q (io κ it p pend g):=by
 rw[binarySort'_eq];refine LX (Ny (Nq (I:=λk c st'=>c=(none,())/\∃p',st'=io κ it p' pend g/\Ch lo p p'/\SO lt p' lo (min k n)) (Q:=λc st'=>c=(none,())/\∃p',st'=io κ it p' pend g/\Ch lo p p'/\SO lt p' lo n) ?step ?fin ?init) ?post);case post=>rintro c st'⟨rfl,p',rfl,ch,so'⟩;exact LW (h p' ch so')
 case init=>refine⟨rfl,p,rfl,Ch.refl _ _,λi j hij hj=>?_⟩;exact so i j hij ↥0
 case fin=>rintro c st'⟨hc,p',hst,ch,so'⟩;refine⟨hc,p',hst,ch,?_⟩;rwa[show min (max (max ok 1) n) n=n by lia]at so'
 case step=>
  rintro k c st' hak hkn⟨rfl,p',rfl,ch,so'⟩;rw[show min k n=k by lia]at so';have sz:=ch.sz;have hN':=ch.bnd hN;refine LX (Ny (Nq (I:=λx c st''=>st''=io κ it p' pend g/\∃l r,c=(none,l,r)/\l<=r/\r<=k/\r-l<=k-x/\(∀i,i<l->lt (gA p' (lo+k)) (gA p' (lo+i))=false)/\(∀i,r<=i->i<k->lt (gA p' (lo+k)) (gA p' (lo+i))=true)) (Q:=λc st''=>st''=io κ it p' pend g/\∃l r,c=(none,l,r)/\l<=k/\(∀i,i<l->lt (gA p' (lo+k)) (gA p' (lo+i))=false)/\(∀i,l<=i->i<k->lt (gA p' (lo+k)) (gA p' (lo+i))=true)) ?istep ?ifin ?iinit) ?ipost);case iinit=>exact⟨rfl,0,k,rfl,by lia,by lia,by lia,λi hi=>by lia,λi h1 h2=>by lia⟩
  case ifin=>
   rintro c st''⟨rfl,l,r,rfl,hlr,hrk,hm,hlo,hhi⟩;have:l=r:=by lia
   subst this;exact⟨rfl,l,l,rfl,hrk,hlo,hhi⟩
  case istep=>
   rintro x c st'' _ hxk⟨rfl,l,r,rfl,hlr,hrk,hm,hlo,hhi⟩;dsimp only;by_cases hge:l>=r
   ·rw[if_pos hge];have:l=r:=by lia
    subst this;exact LW ⟨rfl,l,l,rfl,hrk,hlo,hhi⟩
   ·rw[if_neg hge];refine LX (f_ Or hN' ↥0 ↥0 ?_);dsimp only;cases e:lt (gA p' (lo+k)) (gA p' (lo+(l+r)/2)) with
    |true=>
     rw[if_pos rfl];refine LW ⟨rfl,l,(l+r)/2,rfl,by lia,by lia,by lia,hlo,λi h1 h2=>?_⟩;by_cases z:i=(l+r)/2;·subst z;exact e
     ·cases e2:lt (gA p' (lo+k)) (gA p' (lo+i)) with|true=>rfl|false=>exact Om (e.symm.trans (Or.ord.tr e2 (so' _ i ↥0 h2)))
    |false=>
     rw[if_neg ⋯];refine LW ⟨rfl,(l+r)/2+1,r,rfl,by lia,by lia,by lia,λi h1=>?_,hhi⟩;by_cases z:i=(l+r)/2;·subst z;exact e
     ·exact Or.ord.tr e (so' i _ ↥0 ↥0)
  case ipost=>rintro c st''⟨rfl,l,r,rfl,hlk,hlo,hhi⟩;obtain⟨c2,s2⟩:=so'.ins Or.ord ↥0 hlk hlo hhi;show wpS _ _ _ _ (do moveDown' (lo+k) (lo+l);pure (OA (none,()))) _ _;refine LX (HX (LW ⟨rfl,_,rfl,ch.trans c2,?_⟩));rw[show min (k+1) n=k+1 by lia];exact s2
def ip(lt:Nat->Nat->Bool)(p:Array Nat):Nat->List (Nat×Nat×Nat)->Nat->Prop|a,[],b=>a=b|a,x::t,b=>x.1=a/\0<x.2.1/\SO lt p a x.2.1/\ip lt p (a+x.2.1) t b
theorem ip.le:∀{l:List (Nat×Nat×Nat)}{a b:Nat},ip lt p a l b->a+l.length<=b|[],a,b,h=>Nat.le_of_eq h|x::t,a,b,h=>by have:=ip.le h.2.2.2;have:=h.2.1;rw[Nj];lia
theorem SO.cg{p':Array Nat}{n:Nat}(h:SO lt p lo n)(e:∀j,lo<=j->j<lo+n->gA p' j=gA p j):SO lt p' lo n:=λi j a b=>by rw[e _ ↥0 ↥0,e _ ↥0 ↥0];exact h i j a b
theorem ip.cg{p':Array Nat}:∀{l:List (Nat×Nat×Nat)}{a b:Nat},ip lt p a l b->(∀j,a<=j->j<b->gA p' j=gA p j)->ip lt p' a l b|[],a,b,h,_=>h|x::t,a,b,h,e=>by have:=ip.le h.2.2.2;exact⟨h.1,h.2.1,h.2.2.1.cg λj a b=>e j a ↥0,ip.cg h.2.2.2 λj a b=>e j ↥0 b⟩
theorem ip.app:∀{l m:List (Nat×Nat×Nat)}{a b c:Nat},ip lt p a l b->ip lt p b m c->ip lt p a (l++m) c|[],m,a,b,c,h,q=>by cases h;exact q|x::t,m,a,b,c,h,q=>⟨h.1,h.2.1,h.2.2.1,ip.app h.2.2.2 q⟩
theorem ip.cut:∀{l m:List (Nat×Nat×Nat)}{a c:Nat},ip lt p a (l++m) c->∃b,ip lt p a l b/\ip lt p b m c|[],m,a,c,h=>⟨a,rfl,h⟩|x::t,m,a,c,h=>by obtain⟨b,h1,h2⟩:=ip.cut h.2.2.2;exact⟨b,⟨h.1,h.2.1,h.2.2.1,h1⟩,h2⟩
theorem ip.pw(k:Nat):∀{l:List (Nat×Nat×Nat)}{a b:Nat},ip lt p a l b->∀i,ip lt p a (l.modify i λx=>(x.1,x.2.1,k)) b|[],a,b,h,i=>by rw[List.modify_nil];exact h|x::t,a,b,h,0=>h|x::t,a,b,h,i+1=>⟨h.1,h.2.1,h.2.2.1,ip.pw k h.2.2.2 i⟩
theorem SO.pw{n:Nat}(h:SO lt p lo n)(hs:lo+n<=p.size):(ku p.toList lo n).Pairwise (a8 lt):=by
 refine Pr.mpr λi j hi hj hij=>?_;have hj':j<n:=by unfold ku at hj;rw[Nh]at hj;lia
 have:=h i j hij hj';unfold ku;rw[Qd,Pt,Qd,Pt];have a1:lo+i<p.size:=by lia
 have a2:lo+j<p.size:=by lia
 show lt _ _=false;simpa[gA,NI,a1,a2]using this
theorem Df(Or:xU prog w A s κ it N lt)(hN:∀j,j<p.size->gA p j<N)(hr:ip lt p 0 pend.toList lo)(hlo:lo<=p.size){i:Nat}(hi:i+1<pend.size){Q:Bool->Mz->Prop}(h:∀(p':Array Nat) (pend':Array (Nat×Nat×Nat)) (g:Nat),Ch 0 p p'->(∀j,lo<=j->gA p' j=gA p j)->ip lt p' 0 pend'.toList lo->pend'.size+1=pend.size->Q true (io κ it p' pend' g)):wpS (LY prog w) A E s (mergeAt' i) Q (io κ it p pend g):=by
 obtain⟨L⟩:=pend;have hi':i+1<L.length:=hi;obtain⟨l1,x,y,l2,rfl,rfl⟩:∃l1 x y l2,L=l1++x::y::l2/\i=l1.length:=by refine⟨L.take i,L[i],L[i+1],L.drop (i+2),?_,by rw[Nh];lia⟩;rw[List.getElem_cons_drop,List.getElem_cons_drop,OD]
 obtain⟨sa,na,pw⟩:=x;obtain⟨sb,nb,pw2⟩:=y;obtain⟨b,r1,r2⟩:=ip.cut hr;obtain⟨x1,x2,x3,y1,y2,y3,r3⟩:=r2;dsimp only at x1 x2 x3 y1 y2 y3 r3;subst x1;have l3:=ip.le r3;have l0:=ip.le r1;refine HU (sa:=sa) (na:=na) (pw:=pw) (sb:=sb) (nb:=nb) (pw2:=pw2) Or hN (pend:=MV (l1++(sa,na,pw)::(sb,nb,pw2)::l2)) ↥1 ↥1 y1 x2 y2 ↥0 (x3.pw ↥0) (by rw[y1];exact y3.pw ↥0) λp' r g' pm so e=>?_;have rl:r.length=na+nb:=by rw[pm.length_eq];unfold ku;rw[Nh,NY,MQ];lia
 have zz:p'.size=p.size:=by rw[<-MQ,e,MY,MY,rl,Nh,NY,MQ];lia
 have ga:∀(q:Array Nat) j,gA q j=(q.toList[j]?).getD 0:=λq j=>by simp[gA,NI];split<;>simp[*]
 have g1:∀j,j<sa->gA p' j=gA p j:=λj hj=>by rw[ga,ga,e,MA,Oe (by rw[Nh,MQ];lia),List.getElem?_take,if_pos hj]
 have g3:∀j,sb+nb<=j->gA p' j=gA p j:=λj hj=>by
  have q:(p.toList.take sa++r).length=sb+nb:=by rw[MY,rl,Nh,MQ];lia
  rw[ga,ga,e,Qn (by rw[q];lia),q,List.getElem?_drop,show sb+nb+(j-(sb+nb))=j by lia]
 have g2:∀j,j<na+nb->gA p' (sa+j)=(r[j]?).getD 0:=λj hj=>by
  have q:(p.toList.take sa).length=sa:=by rw[Nh,MQ];lia
  rw[ga,e,MA,Qn (by rw[q];lia),q,show sa+j-sa=j by lia,Oe ↥0]
 have pend':((MV (l1++(sa,na,pw)::(sb,nb,pw2)::l2)).setIfInBounds l1.length (sa,na+nb,pw)).eraseIdxIfInBounds (l1.length+1)=MV (l1++(sa,na+nb,pw)::l2):=by simp[List.eraseIdx_append_of_length_le]
 rw[pend'];refine h p' _ g' ⟨zz,?_,λi hi=>by lia⟩ (λj hj=>g3 j ↥0) ?_ ↥7;·refine QI.mpr ?_;rw[e];refine List.Perm.trans ((pm.append_left _).append_right _) (List.Perm.of_eq ?_);rw[show sb+nb=sa+(na+nb) by lia];exact(z_ _ _ _).symm
 ·refine ip.app (r1.cg λj a b=>g1 j b) ⟨rfl,by dsimp only;lia,λi j hij hj=>?_,?_⟩;·dsimp only at hj;rw[g2 _ hj,g2 _ ↥0];have:=Pr.mp so i j ↥0 ↥0 hij;rw[My ↥0,My ↥0];exact this
  ·dsimp only;rw[<-Nat.add_assoc];exact r3.cg λj a b=>g3 j ↥0
theorem EX(Or:xU prog w A s κ it N lt)(hN:∀j,j<p.size->gA p j<N)(h1:1<=p.size){Q:Unit->Mz->Prop}(h:∀(p':Array Nat) (pend':Array (Nat×Nat×Nat)) (g:Nat),Ch 0 p p'->SO lt p' 0 p.size->Q () (io κ it p' pend' g)):wpS (LY prog w) A E s sortRuns' Q (io κ it p #[] g):=by
 rw[sortRuns'_eq];refine LX (Ol ?_);dsimp only;rw[show(arrOf (io κ it p #[] g)).size=p.size from QK];generalize minRun' p.size p.size 0=mr;refine LX (Ny (Nq (I:=λx c st'=>∃lo p' pend' g',c=(none,lo)/\st'=io κ it p' pend' g'/\Ch 0 p p'/\ip lt p' 0 pend'.toList lo/\lo<=p.size/\(x<=lo\/lo=p.size)) (Q:=λc st'=>∃p' pend' g',c=(none,p.size)/\st'=io κ it p' pend' g'/\Ch 0 p p'/\ip lt p' 0 pend'.toList p.size) ?step ?fin ⟨0,p,#[],g,rfl,rfl,Ch.refl _ _,rfl,Np _,.inl ↥8⟩) ?post);case fin=>
  rintro c st'⟨lo,p',pend',g',rfl,rfl,ch,rn,h1,h2⟩;have e:lo=p.size:=by have:=Nat.max_eq_right (Np p.size);lia
  subst e;exact⟨p',pend',g',rfl,rfl,ch,rn⟩
 case step=>
  rintro x c st' _ hx⟨lo,p',pend',g',rfl,rfl,ch,rn,h1,h2⟩;dsimp only;by_cases c1:lo>=p.size
  ·rw[if_pos c1];have e:lo=p.size:=by lia
   subst e;exact LW ⟨p',pend',g',rfl,rfl,ch,rn⟩
  rw[if_neg c1];have sz:=ch.sz;have hNp:=ch.bnd hN;refine LX (Cg Or hNp (show 1<=p.size-lo by lia) ↥0 λm p3 ch3 m1 m2 so3=>?_);dsimp only;have m2:lo+m<=p.size:=by lia
  by_cases c2:m<mr;rw[if_pos c2];refine LX (ON (NW ⟨rfl,?_⟩));have sz3:=ch3.sz;refine LX (GV Or (ch3.bnd hNp) (show lo+min (p.size-lo) mr<=p3.size by lia) ↥0 so3 λp4 ch4 so4=>?_);rw[if_neg ⋯];have m1:1<=min (p.size-lo) mr:=by lia
  have m2:lo+min (p.size-lo) mr<=p.size:=by lia
  have ch3:=ch3.trans ch4;have so3:=so4;clear so4 ch4;revert ch3 so3 m1 m2;generalize p4=p3;generalize min (p.size-lo) mr=m;intro m1 m2 ch3 so3;rotate_left;rw[if_neg c2];all_goals have c03:Ch 0 p p3:=ch.trans ⟨ch3.sz,ch3.pm,λi hi=>by lia⟩;have r03:ip lt p3 0 pend'.toList lo:=rn.cg λj _ b=>ch3.low j b;refine LX (Ol ?_);rw[show pendingOf (io κ it p3 pend' g')=pend' from rfl];cases eb:pend'.back? with|none=>dsimp only;refine LX (NU (LW ⟨lo+m,p3,pend'.push (lo,m,0),g',rfl,rfl,c03,?_,m2,by lia⟩));rw[Array.toList_push];exact ip.app r03 ⟨rfl,m1,so3,rfl⟩|some t=>
   obtain⟨s1,n1,pw⟩:=t;dsimp only;refine LX (Ny (Nq (I:=λ_ c st'=>∃q pd g',c=(none,())/\st'=io κ it q pd g'/\Ch 0 p q/\ip lt q 0 pd.toList lo/\SO lt q lo m) (Q:=λc st'=>∃q pd g',c=(none,())/\st'=io κ it q pd g'/\Ch 0 p q/\ip lt q 0 pd.toList lo/\SO lt q lo m) ?_ (λ_ _ z=>z) ⟨p3,pend',g',rfl,rfl,c03,r03,so3⟩) ?_)
   ·rintro x c st' _ _⟨q,pd,g2,rfl,rfl,cq,rq,sq⟩;refine LX (Ol ?_);rw[show pendingOf (io κ it q pd g2)=pd from rfl];by_cases z:pd.size>1
    ·rw[if_pos z];obtain⟨⟨ta,tb,tc⟩,et⟩:∃t,pd[pd.size-2]?=some t:=⟨pd[pd.size-2],getElem?_pos _ _ ↥0⟩;rw[et];dsimp only;by_cases z2:tc<=power' p.size (2*s1+n1) (2*s1+n1+n1+m) p.size;·rw[if_pos z2];exact LW ⟨q,pd,g2,rfl,rfl,cq,rq,sq⟩
     ·rw[if_neg z2];refine LX (Df Or (cq.bnd hN) rq (by rw[cq.sz];lia) ↥0 λq2 pd2 g3 c2 s2 r2 _=>?_);rw[if_neg ⋯];exact LW ⟨q2,pd2,g3,rfl,rfl,cq.trans c2,r2,sq.cg λj a _=>s2 j a⟩
    ·rw[if_neg z];exact LW ⟨q,pd,g2,rfl,rfl,cq,rq,sq⟩
   ·rintro c st'⟨q,pd,g2,rfl,rfl,cq,rq,sq⟩;dsimp only;refine LX (NU (LX (NU (LW ⟨lo+m,q,(pd.modify (pd.size-1) λx=>(x.1,x.2.1,power' p.size (2*s1+n1) (2*s1+n1+n1+m) p.size)).push (lo,m,0),g2,rfl,rfl,cq,?_,m2,by lia⟩))));rw[Array.toList_push,Array.toList_modify];exact ip.app (rq.pw _ _) ⟨rfl,m1,sq,rfl⟩
 case post=>
  rintro c st'⟨p',pend',g',rfl,rfl,ch,rn⟩;dsimp only;refine LX (Ny (Nq (I:=λx c st'=>∃p' pend' g',c=(none,())/\st'=io κ it p' pend' g'/\Ch 0 p p'/\ip lt p' 0 pend'.toList p.size/\(pend'.size<=1\/pend'.size+x<=p.size)) (Q:=λc st'=>∃p' pend' g',c=(none,())/\st'=io κ it p' pend' g'/\Ch 0 p p'/\ip lt p' 0 pend'.toList p.size/\pend'.size<=1) ?stepB ?finB ⟨p',pend',g',rfl,rfl,ch,rn,?_⟩) ?postB);case finB=>rintro c st'⟨p',pend',g',rfl,rfl,ch,rn,h2⟩;exact⟨p',pend',g',rfl,rfl,ch,rn,by lia⟩
  case stepB=>
   rintro x c st' _ hx⟨p',pend',g',rfl,rfl,ch,rn,h2⟩;refine LX (Ol ?_);by_cases c1:(pendingOf (io κ it p' pend' g')).size<=1;·rw[if_pos c1];exact LW ⟨p',pend',g',rfl,rfl,ch,rn,c1⟩
   rw[if_neg c1];have c2:¬pend'.size<=1:=c1;have sz:=ch.sz;refine LX (Df Or (ch.bnd hN) rn ↥0 ?_ λp2 pend2 g2 ch2 _ rn2 e2=>?_)
   ·rw[show pendingOf (io κ it p' pend' g')=pend' from rfl];generalize Option.any _ _=bb;cases bb;·rw[if_neg ⋯];lia
    ·rw[if_pos rfl];lia
   ·rw[if_neg ⋯];exact LW ⟨p2,pend2,g2,rfl,rfl,ch.trans ch2,rn2,by lia⟩
  case postB=>rintro c st'⟨p',pend',g',rfl,rfl,ch,rn,h2⟩;dsimp only;refine LW (h p' pend' g' ch ?_);obtain⟨L⟩:=pend';match L,rn,h2 with|[],rn,_=>have:0=p.size:=rn;lia|[x],rn,_=>have e:0+x.2.1=p.size:=rn.2.2.2;rw[MN]at e;rw[<-e];exact rn.2.2.1|_::_::_,_,h2=>simp at h2
  ·have:=ip.le rn;rw[MQ]at this;lia
end
open PySem PySem.Spec PyProof.Rows PySem.W
section
variable{prog:Mc}{w:LV}{A:Md}{E:LP->LR->Prop}{s:LR}
theorem uM{a:LQ}{vs:List LP}{n:Nat}{P:OC->LR->Prop}(ho:s.heap.get? a=some (Mo "list" vs.toArray n))(h64:vs.length<65536){κ:Ob}{lt:Nat->Nat->Bool}(O:nj lt)(hk:2<=vs.length->∀h':LZ,(∀b o,b≠a->s.heap.get? b=some o->h'.get? b=some o)->∀Q:Ob->LR->Prop,Q κ {s with heap:=h'}->Ma (LY prog w) A (keyKind' vs.toArray) Q (λ_ _=>False) {s with heap:=h'})(hlt:∀h':LZ,(∀b o,b≠a->s.heap.get? b=some o->h'.get? b=some o)->∀i j (C:Bool->LR->Prop),i<vs.length->j<vs.length->C (lt i j) {s with heap:=h'}->Ma (LY prog w) A (keyLt' κ (vs.getD i Value.none) (vs.getD j Value.none)) C (λ_ _=>False) {s with heap:=h'})(h:∀p:Array Nat,Dm vs.length p->SA lt p vs.length->P (.done (.ret .none)) {s with heap:=sortedHeap s.heap a vs (MV (p.toList.map λi=>vs.getD i Value.none))}):Ma (LY prog w) A (NH.«list.sort» ⟨[.ref a],[]⟩) P E s:=by
 rw[list_sort_plain];have ha:a<↑s:=Mq ho;refine Mb (PV ho rfl ?_);refine Mb (PX ho rfl ?_ (by rw[Mx,MO];lia) (Np _));obtain⟨e1,ho1⟩:∃e1,(s.heap.update a (MK λ_=>#[])).get? a=some (Mo "list" #[] e1):=⟨_,get?_update_seq ho (λ_=>#[])⟩;refine Mb (seqEpoch_at ho1 rfl ?_);refine Mb (wpAny_newTuple ?_ (by show vs.length<=_;rw[MO];lia));refine Mb (PU ?_ (Np _));refine Pk ?_;have ho6:(((s.heap.update a (MK λ_=>#[])).push (Mo "tuple" vs.toArray 0)).push (Mo "list" #[] 0)).get? a=some (Mo "list" #[] e1):=by rw[QL _ _ _ (by rw[size_push',Qw];exact MI (QF ha)),QL _ _ _ (by rw[Qw];exact MI ha)];exact ho1
 have kp:∀b o,b≠a->s.heap.get? b=some o->(((s.heap.update a (MK λ_=>#[])).push (Mo "tuple" vs.toArray 0)).push (Mo "list" #[] 0)).get? b=some o:=λb o ne e=>MJ _ (MJ _ (by rw[Heap.get?_update_ne _ _ _ _ ne];exact e));show Ma (LY prog w) A _ P E {s with heap:=((s.heap.update a (MK λ_=>#[])).push (Mo "tuple" vs.toArray 0)).push (Mo "list" #[] 0)};dsimp only;by_cases h2:vs.toArray.size<2
 ·rw[if_pos h2,if_pos h2];refine Mb (Mj ?_);rw[StateT.run_pure];refine Mb (Mj ?_);dsimp only;refine Mb (seqEpoch_at ho6 rfl ?_);refine Mb (PX ho6 rfl ?_ (hsz2:=by rw[QK];show(vs.toArray.zip vs.toArray).size<=_;rw[show(vs.toArray.zip vs.toArray).size=vs.length by simp,MO];lia));simp only[bne_self_eq_false,PQ,if_false];refine Mj ?_;have q:=h (MV (MD vs.length)) ⟨by simp,Rm _⟩ (λi j hij hj=>by simp at h2;lia);have e:(arrOf (Ou general' (vs.toArray.zip vs.toArray) #[] 7 none)).map (·.2)=MV ((MV (MD vs.length)).toList.map λi=>vs.getD i Value.none):=by refine kat_snds (ks:=vs) rfl (p:=MV (MD vs.length)) ?_;have e:=kas_range (vs.toArray.zip vs.toArray);rw[show(vs.toArray.zip vs.toArray).size=vs.length by simp]at e;exact e.symm
  rw[e];exact q
 ·have l2:2<=vs.length:=by simp at h2;lia
  rw[if_neg h2,if_neg h2];refine Mb (Ms (hk l2 _ kp (λκ' s'=>κ'=κ/\s'={s with heap:=((s.heap.update a (MK λ_=>#[])).push (Mo "tuple" vs.toArray 0)).push (Mo "list" #[] 0)}) ⟨rfl,rfl⟩) (λκ' s0 hk=>?_) λ_ _ x=>x.elim);obtain⟨rfl,rfl⟩:=hk;have ran:=EX (E:=E) (s:={s with heap:=((s.heap.update a (MK λ_=>#[])).push (Mo "tuple" vs.toArray 0)).push (Mo "list" #[] 0)}) (prog:=prog) (w:=w) (A:=A) (κ:=κ') (it:=vs.toArray.zip vs.toArray) (N:=vs.length) (lt:=lt) (p:=MV (MD vs.length)) (g:=7) (Q:=λ_ st'=>∃p:Array Nat,arrOf st'=p.map (kas_item (vs.toArray.zip vs.toArray))/\failedOf st'=none/\Dm vs.length p/\SA lt p vs.length) ⟨λi j C hi hj hc=>by rw[kat_item rfl,kat_item rfl];exact hlt _ kp i j C hi hj hc,O⟩ (λj hj=>Dm.lt (n:=vs.length) ⟨by simp,Rm _⟩ (by simpa using hj)) ↥7 (λp' pend' g' ch so=>⟨p',rfl,rfl,⟨by rw[ch.sz];simp,ch.pm⟩,λi j a b=>by have:=so i j a (by simpa using b);rwa[MN,MN]at this⟩);have est:Ou κ' (vs.toArray.zip vs.toArray) #[] 7 none=io κ' (vs.toArray.zip vs.toArray) (MV (MD vs.length)) #[] 7:=by have e:=kas_range (vs.toArray.zip vs.toArray);rw[show(vs.toArray.zip vs.toArray).size=vs.length by simp]at e;show _=Ou κ' ((MV (MD vs.length)).map (kas_item (vs.toArray.zip vs.toArray))) #[] 7 none;rw[e]
  unfold wpS at ran;rw[<-est]at ran;refine Mb (Ms ran ?_ λ_ _ e=>e);rintro⟨⟨⟩,st'⟩s'⟨rfl,p,har,hf,hp,hs⟩;dsimp only;have hout:=kat_snds (ks:=vs) rfl har;rw[hout];refine Mb (seqEpoch_at ho6 rfl ?_);refine Mb (PX ho6 rfl ?_ (hsz2:=by rw[Mx,Mn,MQ,hp.sz,MO];lia));rw[hf];simp only[bne_self_eq_false,PQ,if_false];exact Mj (h p hp hs)
theorem t_{t:LQ}{vs:List LP}{Q:LP->LR->Prop}(ht:∀{A:Md}{E:LP->LR->Prop}{Q:List LP->LR->Prop},Q vs {s with heap:=(s.heap.push (Mo "list" #[] 0)).update ↑s (MK (·++vs.toArray))}->Ma (LY prog w) A (collect (.ref t)) Q E s)(h64:vs.length<65536){κ:Ob}{lt:Nat->Nat->Bool}(O:nj lt)(hk:2<=vs.length->∀h':LZ,(∀b o,s.heap.get? b=some o->h'.get? b=some o)->∀Q:Ob->LR->Prop,Q κ {s with heap:=h'}->Ma (LY prog w) A.in1.in1 (keyKind' vs.toArray) Q (λ_ _=>False) {s with heap:=h'})(hlt:∀h':LZ,(∀b o,s.heap.get? b=some o->h'.get? b=some o)->∀i j (C:Bool->LR->Prop),i<vs.length->j<vs.length->C (lt i j) {s with heap:=h'}->Ma (LY prog w) A.in1.in1 (keyLt' κ (vs.getD i Value.none) (vs.getD j Value.none)) C (λ_ _=>False) {s with heap:=h'})(h:∀p:Array Nat,Dm vs.length p->SA lt p vs.length->Q (.ref (↑s+1)) {s with heap:=sortedAll s.heap vs (MV (p.toList.map λi=>vs.getD i Value.none))}):Ma (LY prog w) A (call (.builtin "sorted") [.ref t]) Q E s:=by
 refine Calls.call_function_entry kind_sorted plain_sorted entry_sorted (args_sorted1 _) ?_;unfold NH.«sorted»;refine Mb (m:=checkCount "sorted" 1 1 _) (Mj ?_);refine Mb (ht ?_);have z:((s.heap.push (Mo "list" #[] 0)).update ↑s (MK (·++vs.toArray))).objs.size=↑s+1:=by rw[Qw,size_push']
 have o:(((s.heap.push (Mo "list" #[] 0)).update ↑s (MK (·++vs.toArray))).push (Mo "list" vs.toArray 0)).get? (↑s+1)=some (Mo "list" vs.toArray 0):=by rw[<-z];exact Nl _ rfl
 have keep:∀b o,s.heap.get? b=some o->(((s.heap.push (Mo "list" #[] 0)).update ↑s (MK (·++vs.toArray))).push (Mo "list" vs.toArray 0)).get? b=some o:=λb o q=>by have hlt:b<↑s:=Mq q;rw[QL _ _ _ (by rw[z];exact MI (QF hlt)),Heap.get?_update_ne _ _ _ _ (MI hlt),QL _ _ _ (MI hlt)];exact q
 have ne:∀b o,s.heap.get? b=some o->b≠↑s+1:=λb o q=>MI (QF (Mq q));refine Mb (PU ?_ (by rw[MO];lia));show Ma _ _ _ _ _ {s with heap:=((s.heap.push (Mo "list" #[] 0)).update ↑s (MK (·++vs.toArray))).push (Mo "list" vs.toArray 0)};rw[z];refine Mb (Pk (Qq slot_list_sort ⟨_,o,rfl⟩ entry_list_sort (uM (s:={s with heap:=((s.heap.push (Mo "list" #[] 0)).update ↑s (MK (·++vs.toArray))).push (Mo "list" vs.toArray 0)}) o h64 O (λl2 h' hh Q' hq=>hk l2 h' (λb o e=>hh b o (ne b o e) (keep b o e)) Q' hq) (λh' hh i j C hi hj hc=>hlt h' (λb o e=>hh b o (ne b o e) (keep b o e)) i j C hi hj hc) λp hp hs=>⟨_,rfl,?_⟩) (args_list_sort _)));exact Mj ⟨_,rfl,h p hp hs⟩
end
section
variable{X:Cx}{K:⇑0}
def FR(ns:List Int)(i j:Nat):Bool:=decide (ns.getD i 0<ns.getD j 0)
theorem HC(ns:List Int):nj (FR ns):=⟨λi=>by unfold FR;simp,fun{i j k}a b=>by unfold FR at*;simp only[decide_eq_false_iff_not]at*;lia,fun{i j}a=>by unfold FR at*;simp only[decide_eq_false_iff_not,decide_eq_true_eq]at*;lia⟩
theorem iG:∀{vs:List LP}{ns:List Int},NF vs ns->∀i,i<ns.length->∃t,vs.getD i Value.none=.int (ns.getD i 0) t|_,_,.nil,i,h=>by simp at h|_,_,.cons _ _ q,0,h=>⟨_,rfl⟩|_,_,.cons _ _ q,i+1,h=>by obtain⟨t,e⟩:=iG q i (by simpa using h);exact⟨t,by simpa using e⟩
theorem kW{vs:List LP}{ns:List Int}(h:NF vs ns):∀(p:List Nat),(∀i∈p,i<ns.length)->NF (p.map λi=>vs.getD i Value.none) (p.map λi=>ns.getD i 0)|[],_=>.nil|i::p,hp=>by obtain⟨t,e⟩:=iG h i (hp i ↥1);rw[Mp,Mp,e];exact .cons _ _ (kW h p λj hj=>hp j (Nt _ hj))
theorem ua{prog:Mc}{w:LV}{A:Md}{E:LP->LR->Prop}{s:LR}{t:LQ}{vs:List LP}{ns:List Int}{Q:LP->LR->Prop}(ht:∀{A:Md}{E:LP->LR->Prop}{Q:List LP->LR->Prop},Q vs {s with heap:=(s.heap.push (Mo "list" #[] 0)).update ↑s (MK (·++vs.toArray))}->Ma (LY prog w) A (collect (.ref t)) Q E s)(hI:NF vs ns)(h64:vs.length<65536)(h:∀(out:Array LP) (ns':List Int),NF out.toList ns'->ns'.Perm ns->ns'.Pairwise (·<=·)->Q (.ref (↑s+1)) {s with heap:=sortedAll s.heap vs out}):Ma (LY prog w) A (call (.builtin "sorted") [.ref t]) Q E s:=by
 have hl:=hI.length;refine t_ ht h64 (κ:=oneType') (HC ns) (λl2 h' _ Q' hq=>?_) (λh' _ i j C hi hj hc=>?_) λp hp hs=>?_;·rw[ksk_kind (kz:=ns) hI (by simpa using l2)];exact Mj hq
 ·obtain⟨t1,e1⟩:=iG hI i ↥0;obtain⟨t2,e2⟩:=iG hI j ↥0;rw[e1,e2];exact kat_lt_int hc
 ·have q:p.toList.Perm (MD vs.length):=by simpa using QI.mp hp.pm
  have hpl:∀i∈p.toList,i<ns.length:=λi hi=>by have:=q.mem_iff.mp hi;simp at this;lia
  refine h _ (p.toList.map λi=>ns.getD i 0) (kW hI p.toList hpl) ?_ ?_;·have:=q.map λi=>ns.getD i 0;rw[hl]at this;rwa[jq]at this
  ·rw[List.pairwise_map,Pr];intro i j hi hj hij;have:=hs i j hij (by rw[<-hp.sz];simpa using hj);unfold FR at this;have z1:i<p.size:=by simpa using hi
   have z2:j<p.size:=by simpa using hj
   simpa[gA,NI,z1,z2]using this
theorem ux:cJ X (.builtin "sorted") (λxs H Q=>∃(a:LQ) (ns:List Int),xs=[.ref a]/\(i6 X.K H a (ns.map V.int)\/dO X.K H a (ns.map V.int))/\ns.length<65536/\∀(l:LQ) (H':Hp),av H H'->H l=none->H' l=some (.lst ((dP ns).map V.int))->Q (.ref l) H'):=by
 intro pins s σ H xs us Q I r h;obtain⟨a,ns,rfl,hs,h64,q⟩:=h;obtain⟨u,rfl,ru⟩:=oI r;cases ru;have sl:(65536:Nat)<=Mi:=by decide
 obtain⟨its,rv,col⟩:∃its,aR (ns.map V.int) its/\∀{A:Md}{E:LP->LR->Prop}{Q:List LP->LR->Prop},Q its {s with heap:=(s.heap.push (Mo "list" #[] 0)).update ↑s (MK (·++its.toArray))}->Ma (LY _ _) A (collect (.ref a)) Q E s:=by
  rcases hs with hs|hs;·obtain⟨its,rv,p,hz⟩:=I.list hs;have hl:=rv.length;rw[Mn]at hl;exact⟨its,rv,λz=>mF p.isList z ↥0⟩
  ·obtain⟨its,rv,p,hz⟩:=I.tuple hs;have hl:=rv.length;rw[Mn]at hl;exact⟨its,rv,λz=>mG p z ↥0⟩
 have hl:=rv.length;rw[Mn]at hl;refine ua col (ou rv) ↥0 λout ns' a1 a2 a3=>?_;obtain⟨e,he⟩:=sortedAll_at s.heap its out;have hf:H (↑s+1)=none:=I.hok.fresh (OY _);refine⟨.ref (↑s+1),bI H (↑s+1) (.lst (ns'.map V.int)),I.laid (t':=s.toks) (λ_ _=>sortedAll_old) (OY _) ⟨?_,out.toList,e,jX a1,?_⟩,rfl,q _ _ (av.new hf) hf (by rw[<-tZ a2 a3];exact aC)⟩;·rw[Mn,a2.length_eq];exact Mv (Ox h64) sl
 ·simpa[Mo]using he
end
open PySem PySem.Spec PyProof.Rows PySem.W
def rT(K:⇑0):List V->Hp->VK->Prop:=λxs H Q=>∃(a:LQ) (us:List V) (ds:List LS) (n0:Nat) (sh:List Nat),xs=[.ref a]/\i6 K H a us/\aL K H ds us/\xB (n0::sh) ds/\n0≠0/\ds.length<65536/\∀(p:List Nat) (l:LQ) (H':Hp),(∀i∈p,i<ds.length)->(p.map λi=>ds.getD i .none)=m9 ds->av H H'->H l=none->H' l=some (.lst (p.map λi=>us.getD i .non))->Q (.ref l) H'
section
variable{X:Cx}{K:⇑0}
def fL:En->Rv->Option Rv:=λe x=>(cV e x).bind λz=>(jo z.2).bind λns=>if ns.length<65536 then some (.l ((dP ns).map .int)) else none
def u9(K:⇑0):List V->Hp->VK->Prop:=λxs H Q=>∃(a:LQ) (ns:List Int),xs=[.ref a]/\(i6 K H a (ns.map V.int)\/dO K H a (ns.map V.int))/\ns.length<65536/\∀(l:LQ) (H':Hp),av H H'->H l=none->H' l=some (.lst ((dP ns).map V.int))->Q (.ref l) H'
theorem BW:cM K (u9 K) (g1 fL):=d9 λσ H0 F H e x z v Q R A hg q=>by
 unfold fL at hg;obtain⟨⟨b,ds⟩,h1,hg⟩:=LH hg;obtain⟨ns,h6,hg⟩:=LH hg;split at hg;case isFalse=>cases hg
 case isTrue hl=>
 cases hg;obtain⟨p,vs,rfl,d1,s1⟩:=cI R A h1;have e1:ds=ns.map .int:=jp h6;subst e1;have e2:=aL.ints.mp d1;subst e2;refine⟨p,ns,rfl,?_,hl,λl H' sm hn hl'=>?_⟩;·cases b with|true=>exact .inl s1|false=>exact .inr s1
 obtain⟨R4,X4⟩:=R.same sm;exact q F H' _ X4 R4 ⟨l,_,rfl,hn,R.freeF hn,hl',aL.ints.mpr rfl,λz=>R.ownH l ((R.sameOwn sm l).mp z) hn⟩
theorem yC{e:En}{ns:List Int}(h:ns.length<65536):g1 fL e [.d (.tuple (ns.map .int))]=some (.l ((dP ns).map .int)):=by simp[g1,fL,cV,l8,h]
theorem uA{k:Nat}(hr:bZ k X.A):cJ X (.builtin "sorted") (rT X.K):=by
 intro pins s σ H xs us0 Q I r h;obtain⟨a,us,ds,n0,sh,rfl,hs,hd,hsh,hn0,h64,q⟩:=h;obtain⟨u,rfl,ru⟩:=oI r;cases ru;obtain⟨its,rv,p0,hz⟩:=I.list hs;have hl:=rv.length;have dl:=hd.len;have rows:∀(i:Nat) (v:LP) (d:LS),its[i]?=some v->ds[i]?=some d->∃as,MZ s.heap v d as:=λi v d e1 e2=>by obtain⟨x,h1,h2⟩:=hd.get e2;obtain⟨v',h3,h4⟩:=rv.get h1;rw[h3]at e1;cases e1;obtain⟨cs,h5,_⟩:=hsh d (LO e2);refine DA.reads I ?_ h2 h4;rw[jT h5];exact xc cs
 refine t_ (λz=>mF p0.isList z ↥0) ↥0 (κ:=tuples' false) (HD λi=>iH (ds.getD i .none)) (λl2 h' kp Q' hq=>?_) (λh' kp i j C hi hj hc=>?_) λp hp hss=>?_;·obtain⟨fs,t,fl,hf⟩:=j6 (h:=h') hn0 its ds ↥0 hsh λi v d e1 e2=>let⟨as,r⟩:=rows i v d e1 e2;⟨as,Reads.keeps kp r⟩;refine kat_kind (fs:=fs) (T:=.type "tuple") t ↥0 (λv hv=>?_) rfl hq;obtain⟨b,rfl,kb⟩:=hf v hv;exact kitAt_ty _ _ kb
 ·have gi:ds[i]?=some ds[i]:=My ↥0;have gj:ds[j]?=some ds[j]:=My ↥0;have ti:its[i]?=some its[i]:=My hi;have tj:its[j]?=some its[j]:=My hj;obtain⟨as,r1⟩:=rows i _ _ ti gi;obtain⟨bs,r2⟩:=rows j _ _ tj gj;obtain⟨cs,h1,h2⟩:=hsh _ (LO gi);obtain⟨cs',h3,h4⟩:=hsh _ (LO gj);have r1:=Reads.keeps kp r1;have r2:=Reads.keeps kp r2;rw[NT,NT,ti,tj,Og,Og];rw[NT,NT,gi,gj,Og,Og]at hc;unfold iH at hc;rw[h1,h3]at hc;rw[jT h1]at r1;rw[jT h3]at r2;generalize its[i]=x1 at r1⊢;generalize its[j]=x2 at r2⊢;cases r1 with|tuple e1 e2 e3 e4=>cases r2 with|tuple f1 f2 f3 f4=>
  have l1:=(gB e4).1;have l2:=(gB f4).1;have l3:cs.length=cs'.length:=by have:=congrArg List.length (h2.trans h4.symm);simpa using this
  refine kat_lt e1 e3 f1 f3 ?_;rw[decide_eq_false (by simp at l1 l2;lia)];exact FQ (by have:=hr.un;rw[QH,QH];lia) 0 (h2.trans h4.symm) e4 f4 hc
 ·have hn:its.length=ds.length:=by lia
  rw[hn]at hp hss;have hpl:∀i∈p.toList,i<ds.length:=λi hi=>by
   have q:p.toList.Perm (MD ds.length):=by simpa using QI.mp hp.pm
   simpa using q.mem_iff.mp hi
  obtain⟨e,he⟩:=sortedAll_at s.heap its (MV (p.toList.map λi=>its.getD i Value.none));have hf:H (↑s+1)=none:=I.hok.fresh (OY _);refine⟨.ref (↑s+1),bI H (↑s+1) (.lst (p.toList.map λi=>us.getD i .non)),I.laid (t':=s.toks) (λ_ _=>sortedAll_old) (OY _) ⟨?_,p.toList.map (λi=>its.getD i Value.none),e,qB rv _ (λi hi=>by rw[<-dl];exact hpl i hi),?_⟩,rfl,q p.toList _ _ hpl (rW hsh hp hss) (av.new hf) hf aC⟩;·rw[Mn,MQ,hp.sz];exact Mv (Ox h64) ⋯
  ·simpa[Mo]using he
def l5:En->Rv->Option Rv:=λe x=>(cV e x).bind λz=>if z.1=true/\z.2.length<65536/\Ga z.2=true then some (.l (m9 z.2)) else none
theorem BY:cM K (rT K) (g1 l5):=d9 λσ H0 F H e x z v Q R A hg q=>by
 unfold l5 at hg;obtain⟨⟨b,ds⟩,h1,hg⟩:=LH hg;split at hg;case isFalse=>cases hg
 case isTrue hl=>cases hg;obtain⟨hb,hl,hk⟩:=hl;dsimp only at hb hl hk;subst hb;obtain⟨n0,sh,hn,hsh⟩:=ze hk;obtain⟨p,vs,rfl,d1,s1⟩:=cI R A h1;rw[if_pos rfl]at s1;refine⟨p,vs,ds,n0,sh,rfl,s1,d1.mono R.sm,hsh,hn,hl,λpl l H' hpl hs sm hnn hl'=>?_⟩;obtain⟨R4,X4⟩:=R.same sm;have dp:=sO d1 pl hpl;rw[hs]at dp;exact q F H' _ X4 R4 ⟨l,_,rfl,hnn,R.freeF hnn,hl',dp,λz=>R.ownH l ((R.sameOwn sm l).mp z) hnn⟩
def bi:En->Rv->Option Rv:=λe x=>match fL e x with|some z=>some z|none=>l5 e x
theorem uB{k:Nat}(hr:bZ k X.A):cJ X (.builtin "sorted") (λxs H Q=>u9 X.K xs H Q\/rT X.K xs H Q):=λpins s σ H xs us Q I rv h=>h.elim (ux pins s σ H xs us Q I rv) (uA hr pins s σ H xs us Q I rv)
theorem BZ:cM K (λxs H Q=>u9 K xs H Q\/rT K xs H Q) (g1 bi):=λσ H0 F H e xs z vs Q R A hg q=>by match xs,A,hg with|[x],A,hg=>have hg':bi e x=some z:=hg;unfold bi at hg';cases c:fL e x with|some y=>rw[c]at hg';exact .inl (BW σ H0 F H e [x] y vs Q R A c (λF' H' w a b d=>q F' H' w a b (by cases hg';exact d)))|none=>rw[c]at hg';exact .inr (BY σ H0 F H e [x] z vs Q R A hg' q)
theorem jJ{k:Nat}(hK:X.K=K)(hr:bZ k X.A):nh X K "sorted" (g1 bi):=by subst hK;exact⟨.inl ⟨_,_,uB hr,BZ,Ru⟩⟩
theorem kS{e:En}{ns:List Int}(h:ns.length<65536):g1 bi e [.d (.tuple (ns.map .int))]=some (.l ((dP ns).map .int)):=by show bi e (.d (.tuple (ns.map .int)))=_;unfold bi;rw[show fL e (.d (.tuple (ns.map .int)))=_ from yC (e:=e) h]
end
section
variable{X:Cx}{K:⇑0}
variable{o a:LU}{es:List LU}{fo:FE}{fs:FA}{apos cpos:Pos}
end
section
variable{X:Cx}{K:⇑0}{σ σ2:L2.St}{H0 F H F2 H2 F3:Hp}{e e2:En}
end
section
variable{X:Cx}{K:⇑0}{a b:LU}{fa fb:FE}{pos p p1 p2 p3 pos':Pos}{x:Str}{i:Nat}
end
section
variable{X:Cx}{K:⇑0}
end
section
variable{prog:Mc}{w:LV}{A:Md}{R:Result->LR->Prop}
end
def B3(l:LQ)(wi:TI)(g:TG)(tc:TT)(tk tv:TE)(σ:L2.St)(H:Hp)(N:L2.St->Hp->Prop):Prop:=wi σ H λJ H1=>∃W:Nat->Nat->L2.St->Hp->Prop,(∃m,W 0 m σ H1)/\∀i m σ' H',W i m σ' H'->(J.stop i H'/\N σ' H')\/(J.go i H'/\∃N2:L2.St->Hp->Prop,(∀σ2 H2,N2 σ2 H2->∃m',m'<m/\W (i+1) m' σ2 H2)/\∀x H2,J.yld i H' x H2->g x σ' H2 λσ2 H3=>tc σ2 H3 λb H4=>if b=true then tk σ2 H4 λy H5=>tv σ2 H5 λv H6=>∃(kk:j8) (kvs:List (j8×V)),y=kV kk/\H6 l=some (.dK kvs)/\kvs.length<Mi/\N2 σ2 (bI H6 l (.dK (Gm kvs kk v))) else N2 σ2 H4)
structure G6 (cp:List (Nat×Str)) (nT:Nat) (wi:TI) (g:TG) (tc:TT) (wi2:TI) (g2:TG) (tc2:TT) (tk tv:TE) (σ:L2.St) (H:Hp) (Q:VK):Prop where go:wi σ H λJ H1=>∀l,H1 l=none->∃W:Nat->Nat->L2.St->Hp->Prop,(∃m,W 0 m (e_ cp nT σ) (bI H1 l (.dK [])))/\∀i m σ' H',W i m σ' H'->(J.stop i H'/\Q (.ref l) H')\/(J.go i H'/\∃N:L2.St->Hp->Prop,(∀σ2 H2,N σ2 H2->∃m',m'<m/\W (i+1) m' σ2 H2)/\∀x H2,J.yld i H' x H2->g x σ' H2 λσ2 H3=>tc σ2 H3 λb H4=>if b=true then B3 l wi2 g2 tc2 tk tv σ2 H4 N else N σ2 H4)
def aK(p:Int×sj):j8×V:=(NK p.1,p.2.toV)
def aD(p:Int×sj):LS×LS:=(.int p.1,p.2.toD)
section
variable{K:⇑0}{F H F' H':Hp}{σ σ':L2.St}{e e':En}{nT:Nat}
inductive CD (K:⇑0) (W:List Nat) (σ0:L2.St) (F1 H1:Hp) (e0:En) (l:LQ) (P:Hp->En->List (Int×sj)->Prop) (σ':L2.St) (H':Hp):Prop|mk{F':Hp}{ei:En}{acc:List (Int×sj)}(R:aZ K F' H' σ' ei) (X:cL W σ0 F1 H1 e0 σ' F' H' ei) (fl:F' l=none) (hl:H' l=some (.dK (acc.map aK))) (pl:∀p∈acc,∀F,p.2.ok K F) (hc:P F' ei acc):CD K W σ0 F1 H1 e0 l P σ' H'
end
section
variable{X:Cx}{K:⇑0}{pos:Pos}
end
section
variable{K:⇑0}{F H F' H' F1 H1 F2 H2:Hp}{σ σ' σ1 σ2:L2.St}{e e' e1 e2:En}{i:Nat}{W W1 W2:List Nat}
structure Hj (K:⇑0) (i:Nat) (F H:Hp) (σ:L2.St) (e:En):Prop where rel:aZ K F H σ (e.set i none)dct:∃(l:LQ) (m:List (Int×sj)),e[i]?=some (some (.d (.dict (m.map aD))))/\σ[i]?=some (some (.ref l))/\F l=none/\H l=some (.dK (m.map aK))/\∀p∈m,∀F,p.2.ok K F
structure IA (i:Nat) (W:List Nat) (σ:L2.St) (F H:Hp) (e:En) (σ':L2.St) (F' H':Hp) (e':En):Prop where
 sf:av F F'
 dom:∀a,H' a=none->H a=none
 fr:∀a vs,F a=none->H a=some (.lst vs)->¬cn σ (e.set i none) H a->F' a=none
 lst:∀a vs,H a=some (.lst vs)->∃vs',H' a=some (.lst vs')tmp:∀a o,H a=some o->¬cn σ (e.set i none) H a->σ[i]?≠some (some (.ref a))->H' a=some o
 own:∀a,cn σ' (e'.set i none) H' a->cn σ (e.set i none) H a\/H a=none
 wr:∀j,j∉W->σ'[j]?=σ[j]?
 dd:σ'[i]?=σ[i]?
 fd:∀a m,F a=none->H a=some (.dK m)->¬cn σ (e.set i none) H a->σ[i]?≠some (some (.ref a))->F' a=none
end
section
variable{X:Cx}{K:⇑0}{i:Nat}{W W1 W2:List Nat}{st:Me}{dc:List Me}{f g:FS}{ft:FT}{pos:Pos}
inductive G' (K:⇑0) (i:Nat) (F1:Hp) (P:En->Prop) (G:L2.St->Hp->Hp->En->Prop) (σ:L2.St) (H:Hp):Prop|mk{F:Hp}{e:En}(R:Hj K i F H σ e) (sF:av F1 F) (hf:P e) (q:G σ F H e):G' K i F1 P G σ H
end
abbrev xO:List LP:=[.type "ValueError",.type "Exception",.type "BaseException",.type "object"]
def G9(h:LZ)(C:LQ):Prop:=∃(bm:List LP) (N:LQ) (nm q:Str) (bs:List LP) (hd:Bool) (sn:List Str) (sub:List LP) (ab:Bool) (col:Option Bool) (dd:Option LQ) (k0 k1 k2 k3 k5:Option LP) (m:Str->Option LP),h.get? C=some (excClassObj nm q C N bs bm hd sn sub ab col dd k0 k1 k2 k3 k5 "ValueError.__new__")/\h.Ns N m/\m "__init__"=none/\OwnTail h xO bm
theorem AM{K:⇑0}{h:LZ}{C:LQ}(X:K.In h)(q:Py K C xO "ValueError.__new__"=true):G9 h C:=by
 unfold Py at q;split at q;case h_2=>cases q
 case h_1 dd cd sl ho=>
 split at q;case h_2=>cases q
 case h_1 C' bm k0 k1 k2 k3 n k5 hm hs=>simp only[MC,beq_iff_eq,Oa]at q;obtain⟨⟨⟨⟨⟨e1,e2⟩,e3⟩,e4⟩,e5⟩,e6⟩:=q;subst e1 e2;cases cd with|mk nm bs mro ns qn hd sn sub ab col del=>have e7:mro=.ref C'::bm:=hm;have e8:del=false:=e3;subst e7 e8;cases sl with|mk l=>have e9:l=[k0,k1,k2,k3,some (.builtin "ValueError.__new__"),k5]:=hs;subst e9;exact⟨bm,ns,nm,qn,bs,hd,sn,sub,ab,col,dd,k0,k1,k2,k3,k5,_,X _ _ ho,.of_isNs (PySem.W.isNs_of_in X e5),PySem.W.nsMap_none_of_in X e5 e6,PySem.W.tail_of_in X e4⟩
section
variable{X:Cx}{C:LQ}{x:Str}{p pos rp:Pos}{e:LU}{t:TA}
def Kp(H H':Hp):Prop:=∀a o,H a=some o->H' a=some o
def qJ(X:Cx)(C:LQ):Prop:=∀(pins:List (LQ×Obj)) (σ:St) (H:Hp) (s:LR) (h':LZ) (a:LQ) (vs:List LP),aA X pins σ H s->Kp X.H₀ H->Heap.MadeExcOf s.heap h' a (.ref C) vs->X.xe (.ref a) {s with heap:=h'}
theorem zG(hcalm:X.calm=true)(hg:Gl X x)(hm:X.mg x=some (.ref C))(hC:Py X.K C xO "ValueError.__new__"=true)(hx:qJ X C)(ha:PA X [e] t)(hdb:(x==("__debug__":Str))=false:=by decide)(he:Mf [e] X.env=[(false,Ml e X.env)]:=by rfl):PS X (.Raise (some (.Call (.Name x p) [e] [] pos)) none rp) (λ_ σ H=>t σ H λvs H1=>vs.length<=Mi/\Kp X.H₀ H1):=by intro pins s σ H D I h;obtain⟨bm,N,nm,q,bs,hd,sn,sub,ab,col,dd,k0,k1,k2,k3,k5,m,c1,c2,c3,c4⟩:=AM I.mod.kin hC;refine wpAny_Raise_call_subU (C:=C) (N:=N) (nm:=nm) (q:=q) (bs:=bs) (bm:=bm) (hdct:=hd) (sn:=sn) (sub:=sub) (ab:=ab) (col:=col) (dd:=dd) (k0:=k0) (k1:=k1) (k2:=k2) (k3:=k3) (k5:=k5) (mN:=m) F.excBase_ValueError ↥2 F.excBase_ValueError (c4.hasType ↥2) (I.ok.hd hcalm) (by rw[he];rfl) c3 (jN I hg hm ⟨rfl,?_⟩ hdb);have hA:=ha pos pins s σ H _ I h;rw[he]at hA⊢;refine Calls.evalArgs_plain (ck hA λus s1⟨vs,H1,I1,r,q,kq⟩=>⟨rfl,?_,I1.bk _ _ c1,c2.keeps I1.bk,c4.keeps I1.bk,λh' a hx'=>hx pins σ H1 s1 h' a us I1 kq hx'⟩);rw[<-r.length];exact q
end
theorem df.some{P:Mc}{w:LV}{H:Hp}{h:LZ}{a:LQ}{o:HO}(x:df P w H h a o):∃u,h.get? a=.some u:=by cases o with|lst xs=>obtain⟨_,_,_,_,e⟩:=x;exact⟨_,e⟩|tup xs=>obtain⟨_,_,_,p⟩:=x;obtain⟨o,e,_⟩:=p;exact⟨o,e⟩|dK kvs=>obtain⟨_,_,_,_,o,_,_,e,_⟩:=x;exact⟨_,e⟩|dT kvs=>obtain⟨_,_,_,_,o,_,_,e,_⟩:=x;exact⟨_,e⟩|set S n=>obtain⟨o,_,_,_,e,_⟩:=x;exact⟨_,e⟩|ins C dx fs=>obtain⟨_,_,_,e,_⟩:=x;exact⟨_,e⟩|own y=>obtain⟨o,e⟩:=x;exact⟨o,e⟩|xd fs=>obtain⟨_,⟨_,_,_,e,_⟩,_⟩:=x;exact⟨_,e⟩|rng lo hi=>obtain⟨_,_,_,e⟩:=x;exact⟨_,e⟩|frz ob u=>obtain⟨e,_⟩:=x;exact⟨_,e⟩|tbl ps=>exact⟨_,show h.get? a=.some _ from x⟩|met f y=>exact⟨_,show h.get? a=.some _ from x⟩|ext φ=>obtain⟨_,⟨o,e⟩,_⟩:=x;exact⟨o,e⟩
def wy(l:List Env)(h h':LZ):Prop:=∀b∈gU l,∀o,h.get? b=some o->∃sl,h'.get? b=some {o with slots:=sl}
structure Cn (P:Mc) (w:LV) (fs:List LQ) (H H':Hp) (h b0:LZ):Prop where
 keep:∀b o,h.get? b=some o->H b=none->b∉fs->b0.get? b=some o
 there:∀b o,h.get? b=some o->b∉fs->∃o',b0.get? b=some o'
 free:∀b o,h.get? b=some o->H b=none->H' b=none
 tups:∀b xs,H b=some (.tup xs)->H' b=some (.tup xs)frzs:∀b o u,H b=some (.frz o u)->H' b=some (.frz o u)tbls:∀b ps,H b=some (.tbl ps)->∃more,H' b=some (.tbl (ps++more))hok:ni P w H' b0
theorem Cn.un{P:Mc}{w:LV}{l:List Env}{H H':Hp}{h b0 h2:LZ}(x:Cn P w (gU l) H H' h b0)(st:b0.StaysIn h2)(sl:wy l h h2):Un (gU l) [] H H' h h2/\ni P w H' h2:=⟨⟨λb o e n hb _=>st b o (x.keep b o e n hb),λb o e n hb _=>sl b hb o e,λb o e n _=>x.free b o e n,λb o e _=>by
 by_cases hb:b∈gU l;·obtain⟨s2,e2⟩:=sl b hb o e;exact⟨_,e2⟩
 ·obtain⟨o',e'⟩:=x.there b o e hb;exact⟨o',st b o' e'⟩,x.tups,x.frzs,x.tbls⟩,x.hok.kept st⟩
def nU(P:Mc)(w:LV)(C:LQ):pk:=λouter H s _ e s'=>∃(a:LQ) (t:LP) (b0:LZ) (H':Hp),e=.ref a/\s'.os=s.os/\Od s'.gens/\Heap.FlyingW b0 outer a (.ref C) t s'.heap/\wy outer s.heap s'.heap/\H' a=none/\s.heap.get? a=none/\Kp H H'/\Cn P w (gU outer) H H' s.heap b0
theorem p6{h base b0:LZ}:∀{l:List Env},(∀b∈gU l,b0.get? b=none)->h.FunFrames base l->h.FunFrames b0 l
 |[],_,_=>trivial|env::r,hn,hl=>by
  obtain⟨hk,⟨L,o,hf,_,ho,hd⟩,hr⟩:=hl;have e:gU (env::r)=L::gU r:=by unfold gU;rw[Ph,hf]
  rw[e]at hn;exact⟨hk,⟨L,o,hf,hn L ↥1,ho,hd⟩,p6 (λb hb=>hn b (by simp[hb])) hr⟩
section
variable{P:Mc}{w:LV}{K:⇑0}{mg:Str->Option LP}{base:LZ}{N:List Str}{qual:Str}{scope:Mr}{f:LQ}{cd:LP}{A:Md}{outer:List Env}{s:LR}{H:Hp}{E:XK}{C:LQ}{pins:List (LQ×Obj)}{σ:L2.St}{H1:Hp}{s1:LR}
theorem mi{CX:pk}(I:aA (dR CX P w K mg base N qual scope f cd A outer s H E) pins σ H1 s1):(Mt qual scope ↑s f cd).frame=some (Mt qual scope ↑s f cd).locals/\∀b o,s.heap.get? b=some o->b∉gU outer->b∉gU (Mt qual scope ↑s f cd::outer):=by
 have hf:(Mt qual scope ↑s f cd).frame=some (Mt qual scope ↑s f cd).locals:=by
  rcases I.ok.stk with e|e;·exact absurd (congrArg List.length (show Mt qual scope ↑s f cd::outer=outer from e)) ↥1
  ·exact e.2
 refine⟨hf,λb o e hb z=>?_⟩;have frc:gU (Mt qual scope ↑s f cd::outer)=(Mt qual scope ↑s f cd).locals::gU outer:=by unfold gU;rw[Ph,hf]
 rw[frc]at z;have lt:=Mq e;rcases LN z with z|z;·have ab:↑s<=(Mt qual scope ↑s f cd).locals:=I.ok.above;rw[z]at lt;exact absurd lt (Nat.not_lt.mpr ab)
 ·exact hb z
theorem B2{env:Env}{b:LQ}(h:b∈gU outer):b∈gU (env::outer):=by
 unfold gU at h⊢;rw[Ph];split;·exact h
 ·exact Nt _ h
theorem Cn.up{CX:pk}{H':Hp}{b0:LZ}(I:aA (dR CX P w K mg base N qual scope f cd A outer s H E) pins σ H1 s1)(x:Cn P w (gU (Mt qual scope ↑s f cd::outer)) H1 H' s1.heap b0):Cn P w (gU outer) H H' s.heap b0:=by have ib:Un (gU outer) [] H H1 s.heap s1.heap:=I.base;have nf:=(mi I).2;exact⟨λb o e n hb=>x.keep b o (ib.keep b o e n hb ↥1) (ib.free b o e n ↥1) (nf b o e hb),λb o e hb=>by obtain⟨o',e'⟩:=ib.there b o e ↥1;exact x.there b o' e' (nf b o e hb),λb o e n=>by obtain⟨o',e'⟩:=ib.there b o e ↥1;exact x.free b o' e' (ib.free b o e n ↥1),λb xs q=>x.tups b xs (ib.tups b xs q),λb o u q=>x.frzs b o u (ib.frzs b o u q),λb ps q=>by obtain⟨m1,e1⟩:=ib.tbls b ps q;obtain⟨m2,e2⟩:=x.tbls b _ e1;exact⟨m1++m2,by rw[e2,Array.append_assoc]⟩,x.hok⟩
theorem jz{l:List Env}{h h1 h2 b0:LZ}(x:wy l h h1)(f:h1.FunFrames b0 l)(u:h1.UpToSlots h2):wy l h h2:=λb hb o e=>by obtain⟨sl,q⟩:=x b hb o e;obtain⟨_,o',q',nf⟩:=f.mem hb;rw[q]at q';cases q';obtain⟨s2,q2⟩:=u b _ q nf;exact⟨s2,q2⟩
theorem tI{CX:pk}{a:LQ}(I:aA (dR CX P w K mg base N qual scope f cd A outer s H E) pins σ H1 s1)(h:s1.heap.get? a=none):s.heap.get? a=none:=by have ib:Un (gU outer) [] H H1 s.heap s1.heap:=I.base;cases q:s.heap.get? a with|none=>rfl|some o=>obtain⟨o',e⟩:=ib.there a o q ↥1;rw[e]at h;cases h
theorem qe{CX:pk}(I:aA (dR CX P w K mg base N qual scope f cd A outer s H E) pins σ H1 s1):wy outer s.heap s1.heap:=λb hb o e=>(show Un (gU outer) [] H H1 s.heap s1.heap from I.base).slot b o e (I.ok.frf b hb) hb ↥1
theorem zU:qJ (dR (nU P w C) P w K mg base N qual scope f cd A outer s H E) C:=by
 intro pins σ H1 s1 h' a vs I hkp hx;have hst:(dR (nU P w C) P w K mg base N qual scope f cd A outer s H E).stack=Mt qual scope ↑s f cd::outer:=rfl;have sfr:=I.stkFree;have sfun:=I.stack;rw[hst]at sfr sfun;have hf:=(mi I).1;have hid:∀b o,s1.heap.get? b=some o->b∉gU (Mt qual scope ↑s f cd::outer)->(Pe s1.heap (gU (Mt qual scope ↑s f cd::outer))).get? b=some o:=λb o e hn=>PySem.W.hideAll_get _ e hn;have hx0:Cn P w (gU (Mt qual scope ↑s f cd::outer)) H1 H1 s1.heap (Pe s1.heap (gU (Mt qual scope ↑s f cd::outer))):=⟨λb o e _ hb=>hid b o e hb,λb o e hb=>⟨o,hid b o e hb⟩,λ_ _ _ n=>n,λ_ _ q=>q,λ_ _ _ q=>q,λb ps q=>⟨#[],by rw[q];simp⟩,λb u e=>(I.hok b u e).stay (λc v hc q=>hid c v q λz=>by
  have zn:=sfr c z;rcases hc with rfl|hc;·rw[e]at zn;cases zn
  ·rw[hc]at zn;cases zn) (λ_ q=>q) (λ_ _ q=>q)⟩;have kb:s1.heap.FunFrames (Pe s1.heap (gU (Mt qual scope ↑s f cd::outer))) (Mt qual scope ↑s f cd::outer):=p6 (λb hb=>PySem.W.hideAll_none _ hb) sfun;refine wpAny_leaves_madeW (base:=Pe s1.heap (gU (Mt qual scope ↑s f cd::outer))) (h:=s1.heap) (I.ok.frames.trans (by rw[hst])) hf (λb o e=>PySem.W.of_hideAll _ e) kb hx λh2 t fl _ _ up=>?_;refine⟨a,.ref t,_,H1,rfl,I.os,I.bare,fl,?_,?_,tI I hx.new,hkp,hx0.up I⟩;·refine jz (b0:=Pe s1.heap (gU (Mt qual scope ↑s f cd::outer))) (h1:=h') (λb hb o e=>?_) (kb.of_keeps λb o hb _=>⟨o,hx.keeps b o hb,rfl⟩).2.2 up;obtain⟨sl,q⟩:=qe I b hb o e;exact⟨sl,hx.keeps b _ q⟩
 ·cases q:H1 a with|none=>rfl|some u=>obtain⟨o,e⟩:=(I.hok a u q).some;have:=hx.new;rw[e]at this;cases this
theorem Bv{x:LP}{s2:LR}(I:aA (dR (nU P w C) P w K mg base N qual scope f cd A outer s H E) pins σ H1 s1)(kp:Kp H H1)(h:nU P w C (Mt qual scope ↑s f cd::outer) H1 s1 E0 x s2):(dR (nU P w C) P w K mg base N qual scope f cd A outer s H E).xe x s2:=by obtain⟨a,t,b0,H',rfl,os,bare,fl,sl,hn,na,kp2,ex⟩:=h;have hst:(dR (nU P w C) P w K mg base N qual scope f cd A outer s H E).stack=Mt qual scope ↑s f cd::outer:=rfl;refine wpAny_leaves_onW (I.ok.frames.trans (by rw[hst])) (mi I).1 fl λh2 fl2 up=>?_;refine⟨a,t,b0,H',rfl,os.trans I.os,bare,fl2,?_,hn,tI I na,λc o q=>kp2 c o (kp c o q),ex.up I⟩;refine jz (h1:=s2.heap) (b0:=b0) (λb hb o e=>?_) fl.2.2.1.2.2 up;obtain⟨s3,q3⟩:=qe I b hb o e;obtain⟨s4,q4⟩:=sl b (B2 hb) _ q3;exact⟨s4,q4⟩
end
theorem Cq.okX{P:Mc}{w:LV}{K:⇑0}{mg:Str->Option LP}{base:LZ}{CX:pk}{x qual:Str}{st:Me}{f:LQ}{fd:Mw}{N ps:List Str}{k:Nat}{sp:Sp}(F:Cq K x qual st f fd)(S:aw N ps (ao st))(len:∀vs H Q E,sp vs H Q E->vs.length=ps.length)(hb:∀(cdv:LP) (A:Md) (outer:List Env) (s:LR) (H:Hp) (vs:List V) (Q:VK) (E:XK),bZ k (A.deeper (Mt qual (ao st) ↑s f cdv))->sp vs H Q E->∃t,ky (dR CX P w K mg base N qual (ao st) f cdv A outer s H E) (b_ st) t/\t {nx:=λ_ H'=>Q .non H',rt:=Q} (dM N vs) H):a_ P w K mg base CX (k+1) f fd ps sp:=by obtain⟨oc,od,kV,doc,pm,an,cdv,ct,osl,e1,lk,hcd⟩:=F.ex;rw[e1]at lk⊢;exact CB lk hcd S len λA outer s H vs Q E hr hsp=>hb cdv A outer s H vs Q E hr hsp
def mf(e:En):Bool:=e.all λs=>match s with|none=>true|some (.d _)=>true|_=>false
theorem jQ{e:En}(h:mf e=true){σ:L2.St}{H:Hp}{a:LQ}(o:cn σ e H a):False:=by
 obtain⟨i,⟨xs,q,_⟩|⟨xss,_,_,q,_⟩⟩:=o;·have:=ML.mp h _ (LO q);cases this
 ·have:=ML.mp h _ (LO q);cases this
def fR(H0:Hp)(K:⇑0)(g:En->Prop):TS:=λ_ σ H=>∃F e,aZ K F H σ e/\mf e=true/\Kp H0 H/\g e
section
variable{X:Cx}{K:⇑0}{st r:Me}{dc:List Me}{c:LU}{pos:Pos}{f1:FS}{ft:FT}{W1:List Nat}{g:En->Prop}
theorem PA.nox{es:List LU}{t:TA}(h:PA X.nox es t):PA X es t:=λpp pins s σ H Q I hw=>Ms (h pp pins s σ H Q (I.wish _) hw) (λ_ _⟨vs,H',I',r,q⟩=>⟨vs,H',I'.unwish,r,q⟩) λ_ _ z=>Nf z
theorem Gy(hc:PT X c (fT K ft))(hr:PS X r (fR X.H₀ K g)):ky X (.If c [r] [] pos::dc) (fR X.H₀ K λe=>∃e',ft e=some (true,e')/\mf e'=true/\g e'):=by
 intro pins s σ H D I⟨F,e,R,no,kp,e',he,no',hg⟩;have hi:=zF (pos:=pos) hc (jS hr) (rP (X:=X));refine PC (ck (hi pins s σ H {nx:=λ_ _=>False,rt:=λ_ _=>False} I ⟨F,e,true,e',R,he,λF' H' x R'=>?_⟩) λf s1 q=>?_);·exact wY ⟨F',e',R',no',λa o h=>x.tmp a o (kp a o h) (jQ no),hg⟩
 ·cases f with|next=>obtain⟨_,_,_,z⟩:=q;exact z.elim|brk=>obtain⟨_,_,_,z⟩:=q;exact z.elim|cont=>obtain⟨_,_,_,z⟩:=q;exact z.elim|ret u=>obtain⟨_,_,_,_,_,z⟩:=q;exact z.elim
theorem EF(hr:PS X r (fR X.H₀ K g)):ky X (r::dc) (fR X.H₀ K g):=by intro pins s σ H D I h;refine PC (ck (hr pins s σ H {nx:=λ_ _=>False,rt:=λ_ _=>False} I h) λf s1 q=>?_);cases f with|next=>obtain⟨_,_,_,z⟩:=q;exact z.elim|brk=>obtain⟨_,_,_,z⟩:=q;exact z.elim|cont=>obtain⟨_,_,_,z⟩:=q;exact z.elim|ret u=>obtain⟨_,_,_,_,_,z⟩:=q;exact z.elim
end
def Ax(K:⇑0)(n k0:Nat)(g:En->Prop):Sp:=λvs H _ _=>vs.length=n/\∃(F:Hp) (as:List Sv),aZ K F H (vs.map some) (as.map some)/\mf (as.map some)=true/\g (as.map some++Mh k0 none)
theorem y8{e:En}{k:Nat}(h:mf e=true):mf (e++Mh k none)=true:=by unfold mf at h⊢;rw[List.all_append,h,Bool.true_and,ML];intro s hs;rw[(List.mem_replicate.mp hs).2]
theorem eQ.fnR{P:Mc}{w:LV}{K:⇑0}{mg:Str->Option LP}{base:LZ}{x:Str}{st:Me}{f C:LQ}{fd:Mw}{N ps:List Str}{k n k0:Nat}{g:En->Prop}(h:eQ K mg x st f fd ps)(S:aw N ps (ao st))(hn:ps.length=n)(hN:N.length=n+k0)(hb:∀(cdv:LP) (A:Md) (outer:List Env) (s:LR) (H:Hp) (E:XK),bZ k (A.deeper (Mt x (ao st) ↑s f cdv))->ky (dR (nU P w C) P w K mg base N x (ao st) f cdv A outer s H E) (b_ st) (fR H K g)):a_ P w K mg base (nU P w C) (k+1) f fd ps (Ax K n k0 g):=by
 refine h.F.okX S (λvs H Q E q=>by rw[hn];exact q.1) λcdv A outer s H vs Q E hr hsp=>⟨_,hb cdv A outer s H E hr,?_⟩;obtain⟨hl,F,as,R,no,hg⟩:=hsp;have hst:dM N vs=vs.map some++Mh k0 none:=by unfold dM;rw[hN,hl];congr 2;lia
 rw[hst];exact⟨F,_,R.pad,y8 no,λ_ _ z=>z,hg⟩
open PySem PySem.Spec PyProof.Rows PySem.W
section
variable{prog:Mc}{w:LV}{A:Md}{E:LP->LR->Prop}{h:LZ}{g:Array GenState}{d:Drawn}{t:Nat}{os:OsState}{a D:LQ}{o:Obj}{K:Frag}
structure pq (K:Frag) (D:LQ):Prop where
 ga:findIn K (.ref D) "__getattribute__"=some (some (.builtin "BaseException.__getattribute__"))gt:findIn K (.ref D) "__getattr__"=some none
 cl:findIn K (.ref D) "__class__"=some (some (.builtin "object.__class__"))mo:mroIn K D (.type "object")=some true
 mb:mroIn K D (.type "BaseException")=some true
 cs:(clsIn K D).isSome=true
theorem n9(hx:h.get? a=some o)(hc:o.cls=.ref D)(M:Model):Looks M h (typeOf (.ref a)) (.ref D):=hc▸(Looks.ld hx).andThen .now
theorem wL{tk:Tok}{Q:Fin->LR->Prop}(X:K.In h)(Z:pq K D)(hx:h.get? a=some o)(hc:o.cls=.ref D)(hq:Q (.done (.ret (.ref D))) ⟨h,g,d,t,os⟩):Ma (LY prog w) A (NH.«object.__getattribute__» ⟨[.ref a,.str "__class__" tk],[]⟩) Q E ⟨h,g,d,t,os⟩:=by
 have T:=n9 hx hc (LY prog w);have L1:=looks_findIn (M:=LY prog w) X Z.cl;have hT5:(⟨h,g,d,t,os⟩:LR).TypeIs (.builtin "object.__class__") "getset_descriptor":=F.typeOf_object_class;have f5:=F.typeOf_object_class;have f6:=F.slot_gs_get.lookup;have f7:=F.slot_gs_set.lookup;repeat (any_goals (first|assumption|(with_reducible refine Qf hx ?_;rw[hc])|with_reducible refine L1.at ?_|wp_step))
 have L2:=looks_mroIn (M:=LY prog w) X Z.mo;refine codeAny_call_builtin F.slot_gs_get.plain F.entry_gs_get (F.slot_gs_get.check _ _ _ _ _ _ _ _ hT5 (F.args_gs_get _ _ _) ?_);unfold NH.«getset_descriptor.__get__»Builtin.Getset_descriptor.descrGet;rw[dga_obj];refine Mb (Mj ?_);unfold Builtin.Getset_descriptor.descrGetter Builtin.Getset_descriptor.descrCheckInstance Builtin.Getset_descriptor.descrNameAndClass isInstance;simp only[KF.owner_class];repeat (any_goals (first|assumption|(with_reducible refine Qf hx ?_;rw[hc])|with_reducible refine L2.at ?_|wp_step))
 refine⟨QW _ ↥2,PR KF.entry_class ?_⟩;unfold NH.«object.__class__»shownTypeOf;repeat (any_goals (first|assumption|(with_reducible refine Qf hx ?_;rw[hc])|wp_step))
theorem wK{nv:LP}{Q:Unit->LR->Prop}(X:K.In h)(Z:pq K D)(hx:h.get? a=some o)(hc:o.cls=.ref D)(hq:Q () ⟨h,g,d,t,os⟩):Ma (LY prog w) A (checkBuiltinCall "BaseException.__getattribute__" ⟨[.ref a,nv],[]⟩) Q E ⟨h,g,d,t,os⟩:=by
 have L3:=looks_mroIn (M:=LY prog w) X Z.mb;have hk:builtinKind "BaseException.__getattribute__"=some .slot:=by decide+kernel
 have hs:splitId "BaseException.__getattribute__"=some ("BaseException","__getattribute__"):=by decide+kernel
 have ha:=F.args_bexc_ga (.ref a) nv;simp only[checkBuiltinCall,hk,hs];refine Mb ?_;unfold isInstance;repeat (first|(with_reducible refine Qf hx ?_;rw[hc])|with_reducible refine L3.at ?_|wp_step)
 exact hq
theorem Dt{tk:Tok}{Q:LP->LR->Prop}(X:K.In h)(Z:pq K D)(hx:h.get? a=some o)(hc:o.cls=.ref D)(hq:Q (.ref D) ⟨h,g,d,t,os⟩):Ma (LY prog w) A (getAttrBy (.ref a) (.str "__class__" tk) false) Q E ⟨h,g,d,t,os⟩:=by
 have L1:=looks_findIn (M:=LY prog w) X Z.ga;have L2:=looks_findIn (M:=LY prog w) X Z.gt;have L3:=looks_mroIn (M:=LY prog w) X Z.mb;have f3:=F.excAttr_ValueError.ga.bind (.ref a);have hx2:(QM "BaseException.__getattribute__"==QM "object.__getattribute__")=false:=by decide+kernel
 have hx1:(onTheHeap (Value.ref D)&&QM "BaseException.__getattribute__"==QM "object.__getattribute__")=false:=by rw[hx2,Bool.and_false]
 repeat (any_goals (first|assumption|(with_reducible refine Qf hx ?_;rw[hc])|with_reducible refine L1.at ?_|with_reducible refine L2.at ?_|wp_step))
 exact codeAny_call_builtin F.attr_ValueError.ga.plain F.entry_bexc_ga (wK X Z hx hc (wL X Z hx hc (handed_on rfl hq)))
theorem sX(Z:pq K D):KitX K (.ref a) (.ref D) (λh=>∃o,h.get? a=some o/\o.cls=.ref D) where
 ty:=λM h _⟨o,h1,h2⟩=>n9 h1 h2 M;it:=λM h X _=>by
  obtain⟨cd,hc⟩:=QS.mp Z.cs;unfold clsIn at hc;split at hc;case h_2=>cases hc
  case h_1 ho=>intro A' Q' E' s' k q;unfold isType loadHead;exact Mb (wpAny_loadPart (k _ _ (X _ _ ho)) (Mj q))
 ne:=λh tp dd its n sl X htp=>by
  obtain⟨cd,hc⟩:=QS.mp Z.cs;refine Bool.eq_false_iff.mpr λq=>?_;have e:D=tp:=Value.ref.inj (beq_iff_eq.mp q);subst e;unfold clsIn at hc;split at hc;case h_2=>cases hc
  case h_1 ho=>cases (X _ _ ho).symm.trans htp
 ca:=fun{_ _ _ _ _ s}X⟨o,h1,h2⟩k=>by obtain⟨hh,g,d,t,os⟩:=s;unfold getAttr? getAttrBy?;exact Mb (wpAny_mkText (Mb (wpAny_attempt (Dt X Z h1 h2 (Mj k)))))
end
def Hw(C a:LQ)(h:LZ):Prop:=∃o,h.get? a=some o/\o.cls=.ref C
def xR(C a:LQ):HO:=.ext (Hw C a)
section
variable{X:Cx}{pins:List (LQ×Obj)}{σ:L2.St}{H H':Hp}{s:LR}{n:Str}{j:Nat}
theorem AV{M:Model}{A:Md}{E:LP->LR->Prop}{pos:Pos}{Q:Unit->LR->Prop}(I:aA X pins σ H s)(hN:X.N.Nodup)(hj:X.N[j]?=some n)(lj:X.env.scope.names.lookup n=some .local)(h:∀s',aA X pins (σ.set j none) H s'->Q () s'):Ma M A (do bindName X.env n .none;unbindBehindTheSuite X.env n pos) Q E s:=by
 obtain⟨m,hn,hl⟩:=id I.loc;have hp:(X.env.scope.kind==.class||(X.env.scope.kind==.module&&X.env.locals !=X.env.globals))=false:=by rw[I.ok.kind];rfl
 refine wpAny_nameGoes_keeps lj hn hp λh' v hn' hs=>h _ ?_;obtain⟨oL,_,_,hoL,_⟩:=id hn;have old:∀b o,X.s₀.heap.get? b=some o->h'.get? b=s.heap.get? b:=λb o e=>hs.2 b (MI (MW (Mq e) I.ok.above));refine⟨I.ok,I.os,I.bare,⟨λb o e k hb hx=>(old b o e).trans (I.base.keep b o e k hb hx),λb o e k hb hx=>?_,I.base.free,λb o e hx=>?_,I.base.tups,I.base.frzs,I.base.tbls⟩,⟨_,hn',λi y w e1 e2 e3=>?_⟩,λy c e=>?_,I.free,I.freeC,λp hp'=>?_,λb ob e=>?_,by rw[Pb];exact I.len⟩;·obtain⟨sl,q⟩:=I.base.slot b o e k hb hx;exact⟨sl,(old b o e).trans q⟩
 ·obtain⟨o',q⟩:=I.base.there b o e hx;exact⟨o',(old b o e).trans q⟩
 ·have ij:i≠j:=λz=>by
   subst z;by_cases z2:i<σ.length;·rw[NV z2]at e2;cases e2
   ·rw[Rg (by rw[Pb];lia)]at e2;cases e2
  rw[Nu (NM ij)]at e2;obtain⟨u,r,q⟩:=hl i y w e1 e2 e3;refine⟨u,r,?_⟩;have yn:y≠n:=λz=>ij (oD hN e1 (z▸hj));rcases q with⟨k,q⟩|⟨k,c,q,z⟩;·exact .inl ⟨k,(if_neg yn).trans q⟩
  ·exact .inr ⟨k,c,q,z.sameBut hs (I.cne y c q)⟩
 ·obtain⟨w,z⟩:=I.cell y c e;exact⟨w,z.sameBut hs (I.cne y c e)⟩
 ·obtain⟨e,k,ne,nf,d⟩:=I.pin p hp';exact⟨(hs.2 p.1 ne).trans e,k,ne,nf,d⟩
 ·refine(I.hok b ob e).stay (λc w hc q=>(hs.2 c ?_).trans q) (λ_ q=>q) λ_ _ q=>q;rintro rfl;have fr:=I.free;rcases hc with rfl|hc;·rw[fr]at e;cases e
  ·rw[fr]at hc;cases hc
abbrev Cx.inX(X:Cx)(a:LQ):Cx:={X with A:=X.A.mark (some (.ref a)),calm:=false,xe:=λ_ _=>False}
theorem aA.inX(I:aA X pins σ H s)(a:LQ):aA (X.inX a) pins σ H s:=⟨⟨I.ok.mod,I.ok.kind,I.ok.glob,I.ok.blt,I.ok.above,I.ok.inj,I.ok.has,I.ok.cab,λz=>(by cases z),I.ok.frames,I.ok.stk,I.ok.exf,I.ok.bs,I.ok.bsz,I.ok.noex,I.ok.exfs,I.ok.funs,I.ok.frf⟩,I.os,I.bare,I.base,I.loc,I.cell,I.free,I.freeC,I.pin,I.hok,I.len⟩
theorem aA.outX{a:LQ}(I:aA (X.inX a) pins σ H s)(hd:X.calm=true->X.A.handled=none):aA X pins σ H s:=⟨⟨I.ok.mod,I.ok.kind,I.ok.glob,I.ok.blt,I.ok.above,I.ok.inj,I.ok.has,I.ok.cab,hd,I.ok.frames,I.ok.stk,I.ok.exf,I.ok.bs,I.ok.bsz,I.ok.noex,I.ok.exfs,I.ok.funs,I.ok.frf⟩,I.os,I.bare,I.base,I.loc,I.cell,I.free,I.freeC,I.pin,I.hok,I.len⟩
theorem aA.raised{C a:LQ}{t:LP}{b0 h2:LZ}{g':Array GenState}{d':Drawn}{t':Nat}(I:aA X pins σ H s)(hf:Heap.FlyingW b0 X.stack a (.ref C) t h2)(sl:wy X.stack s.heap h2)(hn:H' a=none)(na:s.heap.get? a=none)(bare:Od g')(un:Cn X.prog X.w (gU X.stack) H H' s.heap b0):aA X pins σ (bI H' a (xR C a)) {s with heap:=h2,gens:=g',drawn:=d',toks:=t'}:=by
 obtain⟨u,ok⟩:=un.un hf.1 sl;obtain⟨oe,vs,he,hc,hd,_⟩:=hf.first;have nb:∀b o,H' b=some o->b≠a:=λb o q z=>by subst z;rw[hn]at q;cases q
 refine I.call (ch:=[]) ⟨u.keep,u.slot,λb o e k hx=>?_,u.there,λb xs q=>?_,λb o v q=>?_,λb ps q=>?_⟩ (λb o e=>?_) bare (λb z=>by cases z);·rw[aJ λz=>by subst z;rw[na]at e;cases e];exact u.free b o e k hx
 ·have:=u.tups b xs q;rw[aJ (nb b _ this)];exact this
 ·have:=u.frzs b o v q;rw[aJ (nb b _ this)];exact this
 ·obtain⟨mo,q⟩:=u.tbls b ps q;exact⟨mo,by rw[aJ (nb b _ q)];exact q⟩
 ·by_cases z:b=a;·subst z;rw[aC]at e;cases e;exact⟨⟨oe,he,hc⟩,⟨oe,he⟩,λh1 h3⟨o,q1,q2⟩k=>⟨o,k o q1,q2⟩⟩
  ·rw[aJ z]at e;exact(ok b o e).stay (λ_ _ _ q=>q) (λc q=>by rw[aJ (nb c _ q)];exact q) λc xs q=>by rw[aJ (nb c _ q)];exact q
end
section
variable{X:Cx}{C Cb f:LQ}{fd:Mw}{ps:List Str}{k n k0 i j:Nat}{g:En->Prop}{fn B kx nx:Str}{p pos ep bp kp np ap hp tp:Pos}{e:LU}{es:List LU}{t:TA}
theorem zE(hcalm:X.calm=true)(hst:X.stack=X.env::X.outer)(F:a_ X.prog X.w X.K X.mg X.base (nU X.prog X.w C) k f fd ps (Ax X.K n k0 g))(hr:bZ k X.A)(hg:Gl X fn)(hm:X.mg fn=some (.ref f))(hk:OI X.K (.ref f)=true)(hb:nR X.K fd ps [])(ha:PA X.nox (e::es) t)(hB:Gl X B)(hmB:X.mg B=some (.ref Cb))(hex:PySem.W.exmOne X.K (.ref C) (.ref Cb)=some true)(nd:X.N.Nodup)(hi:X.N[i]?=some kx)(hj:X.N[j]?=some nx)(li:X.env.scope.names.lookup kx=some .local)(lj:X.env.scope.names.lookup nx=some .local)(ij:i≠j)(hs:OR (.Call (.Name fn p) (e::es) [] pos) none ep.line X.env=pure false:=by rfl)(hs2:OR (.Name nx np) (some (.Name kx kp)) ap.line X.env=pure false:=by rfl)(hdb:(fn==("__debug__":Str))=false:=by decide)(hdB:(B==("__debug__":Str))=false:=by decide)(hdn:(nx==("__debug__":Str))=false:=by decide)(hdc:(nx==("__classdict__":Str))=false:=by decide)(he:Mf (e::es) X.env=(false,Ml e X.env)::Mf es X.env:=by rfl)(hpl:(MF pos (Mf es X.env)).any (·.1)=false:=by rfl):PS X (.Try [.Expr (.Call (.Name fn p) (e::es) [] pos) ep] [.ExceptHandler (some (.Name B bp)) (some nx) [.Assign [.Name kx kp] (.Name nx np) ap] hp] [] [] tp) (λD σ H=>t σ H λvs H1=>Ax X.K n k0 g vs H1 (λ_ _=>False) E0/\∀a H',Kp H1 H'->H' a=none->D.nx (((σ.set j (some (.ref a))).set i (some (.ref a))).set j none) (bI H' a (xR C a))):=by
 intro pins s σ H D I h;refine wpAny_Try_except (PC (wpAny_Expr_any ?_ I.quiet hs));refine Pj (jN I hg hm ?_ hdb);refine QR (h₀:=X.base) I.ok.mod.kin hk (Ms (ha pos pins s σ H _ (I.wish _) h) (λus s1⟨vs,H1,I1,r,q,qD⟩=>⟨I1.kIn,?_⟩) λ_ _ z=>z.elim) he hpl;have I1:aA X pins σ H1 s1:=I1.unwish;have hl:us.length=ps.length:=by rw[<-r.length];exact F.len _ _ _ _ q
 refine wpAny_call (PF (F.run X.A X.stack s1 H1 ⟨us,[]⟩ us vs (λ_ _=>False) E0 hr I1.env0 (by have:=hb s1 us I1.kIn (by rw[Mu];exact hl);rw[Mu]at this;exact this) r q) λr s' hq=>?_);cases r with
 |ok fl=>cases fl with|ret u=>obtain⟨_,_,_,_,_,_,_,z⟩:=hq;exact z.elim|next=>exact Nf hq|brk=>exact Nf hq|cont=>exact Nf hq
 |error x=>
  obtain⟨a,ta,b0,H',rfl,os,bare,fl,sl,hn,na,kpp,un⟩:=hq;have hfr:X.A.frames=some (X.env::X.outer):=by rw[I.ok.frames,hst]
  have hf:X.env.frame=some X.env.locals:=by
   rcases I.ok.stk with z|z;·rw[hst]at z;exact absurd (congrArg List.length z) ↥1
   ·exact z.2
  have fl':=fl;rw[hst]at fl;refine wpAny_looks_onW hfr hf fl λh2 held up2=>?_;have sl2:=jz sl fl'.2.2.1 up2;refine wpAny_landsW (s:={s' with heap:=h2}) held λh3 fl3 up3=>?_;rw[<-hst]at fl3 held;have sl3:=jz sl2 held.2.2.1 up3;obtain⟨hh,g',d',t',o'⟩:=s';have eo:o'=s1.os:=os;subst eo;have I3:=I1.raised (h2:=h3) (g':=g') (d':=d') (t':=t') fl3 sl3 hn na bare un;obtain⟨oe,vs0,e3,c3,_,_⟩:=fl3.first;refine wpAny_handleBy_cons (codeAny_handlers_test (jN (I3.inX a) hB hmB ?_ hdB)) (by intro z;cases z);refine(PySem.W.exm_one (M:=LY X.prog X.w) I3.kIn (n9 e3 c3 _) hex).at ?_;show ND _ _ _ _ _;refine codeAny_handlers_suite_as ?_;refine lands_againW (s:={heap:=h3,gens:=g',drawn:=d',toks:=t',os:=s1.os}) fl3 λh4 fl4 up4=>?_;have sl4:=jz sl3 fl3.2.2.1 up4;have I4:=(I1.raised (h2:=h4) (g':=g') (d':=d') (t':=t') fl4 sl4 hn na bare un);refine jA I4 nd hj (.inl lj) (v:=.ref a) rfl (λs5 I5=>?_) (.inr lj);have hjl:j<σ.length:=by rw[I.len];exact(LJ hj).1
  have as:=jS (uY (X:=X.inX a) (pos:=ap) (pos':=kp) nd hi (.inl li) (uW (X:=X.inX a) (pos:=np) hj (.inl lj) hdn hdc) hs2 (.inr li));refine Ms (as pins s5 _ _ {nx:=λσ' H''=>σ'=(σ.set j (some (.ref a))).set i (some (.ref a))/\H''=bI H' a (xR C a),rt:=λ_ _=>False} (I5.inX a) ⟨.ref a,by rw[NV hjl],rfl,rfl⟩) (λfl s6 q6=>?_) λ_ _ z=>z.elim;cases fl with|next=>obtain⟨σ6,H6,I6,e6,e7⟩:=q6;subst e6 e7;exact AV (I6.outX I.ok.hd) nd hj lj λs7 I7=>⟨_,_,I7,qD a _ kpp hn⟩|brk=>obtain⟨_,_,_,z⟩:=q6;exact z.elim|cont=>obtain⟨_,_,_,z⟩:=q6;exact z.elim|ret u=>obtain⟨_,_,_,_,_,z⟩:=q6;exact z.elim
end
section
variable{X:Cx}{C:LQ}{i:Nat}{x c:Str}{p p1 p2 pos:Pos}{v:V}{u:LP}{b:Bool}
theorem yg(Z:pq X.K C):cJ X (.builtin "isinstance") (λxs H Q=>∃a v u b,xs=[.ref a,v]/\H a=some (xR C a)/\(∀u',bu v u'->u'=u)/\OP X.K (.ref C) u=some b/\Q (.bl b) H):=by
 intro pins s σ H xs us Q I r h;obtain⟨a,v,u,b,rfl,ha,hu,hk,q⟩:=h;obtain⟨u1,u2,rfl,r1,r2⟩:∃u1 u2,us=[u1,u2]/\bu (.ref a) u1/\bu v u2:=by cases r with|cons p q=>cases q with|cons p' q'=>cases q';exact⟨_,_,rfl,p,p'⟩
 cases (show u1=Value.ref a from r1);cases hu u2 r2;obtain⟨o,h1,h2⟩:=(show df X.prog X.w H s.heap a (xR C a) from I.hok a _ ha).1;exact PySem.W.kia_one (sX Z) I.kIn ⟨o,h1,h2⟩ hk (λz=>nomatch z) λtk=>⟨.bl b,H,I.tok _,rfl,q⟩
def EL(i:Nat)(C:LQ)(b:Bool):TE:=λσ H Q=>∃a,σ[i]?=some (some (.ref a))/\H a=some (xR C a)/\Q (.bl b) H
theorem uV(Z:pq X.K C)(hg:Gl X "isinstance")(hm:X.mg "isinstance"=none)(hv:NL "isinstance"=some (.builtin "isinstance"))(hx:PE X (.Name x p1) (xG i))(hc:PE X (.Name c p2) (tC v))(hu:∀u',bu v u'->u'=u)(hk:OP X.K (.ref C) u=some b)(he:Mf [.Name x p1,.Name c p2] X.env=(false,Ml (.Name x p1) X.env)::Mf [.Name c p2] X.env:=by rfl)(he2:Mf [.Name c p2] X.env=(false,Ml (.Name c p2) X.env)::Mf [] X.env:=by rfl)(hpl:(MF pos (Mf [.Name c p2] X.env)).any (·.1)=false:=by rfl):PE X (.Call (.Name "isinstance" p) [.Name x p1,.Name c p2] [] pos) (EL i C b):=(oJ (yg Z) hg hm hv (dJ hx (dJ hc mj he2) he) ⋯ ⋯ he hpl).mono λσ H Q⟨a,h1,h2,q⟩=>⟨.ref a,h1,a,v,u,b,rfl,h2,hu,hk,q⟩
end
abbrev t3(C:LQ)(b1 b2 b3:Bool):TE:=GI (lR (EL 0 C b1) (lR (EL 0 C b2) (lR (EL 0 C b3) Ae)))
theorem oy{H:Hp}{l:LQ}{o:HO}(h:H l=none):Kp H (bI H l o):=λa u e=>by rw[aJ λz=>by subst z;rw[h]at e;cases e];exact e
open Classical in def E7(n k0:Nat)(g:En->Prop):FM:=λas=>if as.length=n/\mf (as.map some)=true/\g (as.map some++Mh k0 none) then some (.d (.bool true),as) else none
theorem DS{n k0:Nat}{g:En->Prop}{as:List Sv}(h1:as.length=n)(h2:mf (as.map some)=true)(h3:g (as.map some++Mh k0 none)):E7 n k0 g as=some (.d (.bool true),as):=if_pos ⟨h1,h2,h3⟩
section
variable{K:⇑0}
theorem Ds{n k0:Nat}{g:En->Prop}{vs:List V}{H H':Hp}{Q:VK}{E:XK}(h:fZ K n (E7 n k0 g) vs H Q E)(kp:Kp H H'):Q (.bl true) H':=by
 obtain⟨hl,F,as,r,as',R,nN,hm,nr,q⟩:=h;unfold E7 at hm;split at hm;case isFalse=>cases hm
 case isTrue hc=>
 cases hm;have no:∀{a:LQ}{Z:Hp},¬cn (vs.map some) (as.map some) Z a:=λz=>jQ hc.2.1 z;have nol:∀(i:Nat) (xs:List LS),(as.map some)[i]?≠some (some (.l xs)):=λi xs z=>by have:=ML.mp hc.2.1 _ (LO z);cases this
 have non:∀(i:Nat) (xs:List (List LS)),(as.map some)[i]?≠some (some (.n xs)):=λi xs z=>by have:=ML.mp hc.2.1 _ (LO z);cases this
 refine q F H' (.bl true) ⟨av.refl _,λa z=>?_,λ_ _ z _ _=>z,λa vs z=>⟨vs,kp a _ z⟩,λa o z _=>kp a o z,λ_=>Iff.rfl,λa z=>(no z).elim,λ_ _ z _ _=>z⟩ ⟨λa o z=>kp a o (R.sm a o z),R.len,R.dat,λi xs z=>(nol i xs z).elim,λi xs z=>(non i xs z).elim,λi j a z=>(no ⟨i,z⟩).elim⟩ (show DA K F (.bool true) (.bl true) from d_.mpr rfl);cases e:H a with|none=>rfl|some o=>rw[kp a o e]at z;cases z
theorem Ab{n k0:Nat}{g:En->Prop}{vs:List V}{H:Hp}{Q Q':VK}{E E':XK}(h:fZ K n (E7 n k0 g) vs H Q E):Ax K n k0 g vs H Q' E':=by
 obtain⟨hl,F,as,r,as',R,nN,hm,nr,q⟩:=h;unfold E7 at hm;split at hm;case isFalse=>cases hm
 case isTrue hc=>exact⟨hl,F,as,R,hc.2.1,hc.2.2⟩
end
theorem cu.len{K:⇑0}{σ:L2.St}{H0 F H:Hp}{e:En}:∀{rs:List Rv}{vs:List V},cu K σ H0 F H e rs vs->vs.length=rs.length|[],vs,h=>by rw[show vs=[]from h];rfl|r::rs,vs,h=>by obtain⟨v,ws,rfl,_,h2⟩:=h;rw[Nj,Nj,cu.len h2]
theorem vY{K:⇑0}{σ:L2.St}{H0 F H:Hp}{e:En}:∀{ds:List LS}{vs:List V},cu K σ H0 F H e (ds.map Rv.d) vs->∀(i:Nat) (x:LS),ds[i]?=some x->∃v,vs[i]?=some v/\DA K F x v|[],vs,_,i,x,h=>by simp at h|d::ds,vs,h,i,x,hi=>by obtain⟨v,ws,rfl,h1,h2⟩:=h;cases i with|zero=>simp at hi;subst hi;exact⟨v,rfl,h1⟩|succ i=>exact vY h2 i x (by simpa using hi)
theorem Ez{K:⇑0}{σ:L2.St}{H0 F H:Hp}{e:En}{ds:List LS}{vs:List V}(sm:av F H)(h:cu K σ H0 F H e (ds.map Rv.d) vs):aZ K F H (vs.map some) ((ds.map Sv.d).map some)/\mf ((ds.map Sv.d).map some)=true:=by
 have no:mf ((ds.map Sv.d).map some)=true:=by unfold mf;rw[ML];intro s hs;obtain⟨y,hy,rfl⟩:=LM hs;obtain⟨x,_,rfl⟩:=LM hy;rfl
 refine⟨⟨sm,by have:=h.len;simp at this⊢;exact this,λi x q=>?_,λi xs q=>(jQ (σ:=(ds.map λ_=>some (V.ref 0))) (H:=H) (a:=0) no ?_).elim,λi xs q=>?_,λi j a z=>(jQ no ⟨i,z⟩).elim⟩,no⟩;·rw[MS,MS]at q;obtain⟨y,hy,e1⟩:=LI q;obtain⟨z,hz,e2⟩:=LI hy;cases e2;cases e1;obtain⟨v,hv,hd⟩:=vY h i x hz;exact⟨v,by rw[MS,hv];rfl,hd⟩
 ·have:=ML.mp no _ (LO q);cases this
 ·have:=ML.mp no _ (LO q);cases this
section
variable{X:Cx}{K:⇑0}{C:LQ}{x:Str}{p pos rp:Pos}{e:LU}{fs:FA}
theorem zY(hcalm:X.calm=true)(hg:Gl X x)(hm:X.mg x=some (.ref C))(hC:Py X.K C xO "ValueError.__new__"=true)(hx:qJ X C)(ha:PA X.nox [e] (fA K fs))(hdb:(x==("__debug__":Str))=false:=by decide)(he:Mf [e] X.env=[(false,Ml e X.env)]:=by rfl):PS X (.Raise (some (.Call (.Name x p) [e] [] pos)) none rp) (fR X.H₀ K λe=>∃(rs:List Rv) (e':En),fs e=some (rs,e')/\rs.length=1):=PS.mono (zG hcalm hg hm hC hx (PA.nox ha) hdb he) λD σ H⟨F,e,R,no,kp,rs,e',he,hl⟩=>⟨F,e,rs,e',R,he,λF' H' vs x R' A=>⟨by rw[A.len,hl];decide,λa o h=>x.tmp a o (kp a o h) (jQ no)⟩⟩
end
section
variable{P:Mc}{w:LV}{K:⇑0}{mg:Str->Option LP}{base:LZ}{N ps:List Str}{qual fn:Str}{scope:Mr}{fa f:LQ}{cd:LP}{A:Md}{outer:List Env}{s:LR}{H:Hp}{E:XK}{C:LQ}{st:Me}{fd:Mw}{k n k0:Nat}{g:En->Prop}{p pos ep:Pos}{e:LU}{es:List LU}{fs:FA}
theorem BS(h:eQ K mg fn st f fd ps)(F:a_ P w K mg base (nU P w C) k f fd ps (Ax K n k0 g))(hr:bZ k (dR (nU P w C) P w K mg base N qual scope fa cd A outer s H E).A)(hg:Gl (dR (nU P w C) P w K mg base N qual scope fa cd A outer s H E) fn)(ha:PA (dR (nU P w C) P w K mg base N qual scope fa cd A outer s H E).nox (e::es) (fA K fs))(hs:OR (.Call (.Name fn p) (e::es) [] pos) none ep.line (dR (nU P w C) P w K mg base N qual scope fa cd A outer s H E).env=pure false:=by rfl)(hdb:(fn==("__debug__":Str))=false:=by decide)(he:Mf (e::es) (dR (nU P w C) P w K mg base N qual scope fa cd A outer s H E).env=(false,Ml e (dR (nU P w C) P w K mg base N qual scope fa cd A outer s H E).env)::Mf es (dR (nU P w C) P w K mg base N qual scope fa cd A outer s H E).env:=by rfl)(hpl:(MF pos (Mf es (dR (nU P w C) P w K mg base N qual scope fa cd A outer s H E).env)).any (·.1)=false:=by rfl):PS (dR (nU P w C) P w K mg base N qual scope fa cd A outer s H E) (.Expr (.Call (.Name fn p) (e::es) [] pos) ep) (fR H K λe=>∃(ds:List LS) (e':En),fs e=some (ds.map Rv.d,e')/\ds.length=n/\g ((ds.map Sv.d).map some++Mh k0 none)):=by
 intro pins s0 σ H0 D I⟨F0,en,R,no,kp,ds,e',hfs,hl,hg'⟩;refine wpAny_Expr_any ?_ I.quiet hs;refine Pj (jN I hg h.m ?_ hdb);refine QR (h₀:=base) I.ok.mod.kin h.F.kp (Ms (ha pos pins s0 σ H0 (λvs H1=>Ax K n k0 g vs H1 (λ_ _=>False) E0/\Kp H H1) (I.wish _) ⟨F0,en,_,e',R,hfs,λF' H' vs x R' A'=>?_⟩) (λus s1⟨vs,H1,I1,r,q,kq⟩=>⟨I1.kIn,?_⟩) λ_ _ z=>z.elim) he hpl;·obtain⟨rr,nn⟩:=Ez R'.sm A';exact⟨⟨by rw[A'.len,Mn];exact hl,F',ds.map Sv.d,rr,nn,hg'⟩,λa o z=>x.tmp a o (kp a o z) (jQ no)⟩
 ·have I1:=I1.unwish;have hl':us.length=ps.length:=by rw[<-r.length];exact F.len _ _ _ _ q
  refine wpAny_call (PF (F.run _ _ s1 H1 ⟨us,[]⟩ us vs (λ_ _=>False) E0 hr I1.env0 (by have:=h.b s1 us I1.kIn (by rw[Mu];exact hl');rw[Mu]at this;exact this) r q) λr s' hq=>?_);cases r with
  |ok fl=>cases fl with|ret u=>obtain⟨_,_,_,_,_,_,_,z⟩:=hq;exact z.elim|next=>exact Nf hq|brk=>exact Nf hq|cont=>exact Nf hq
  |error y=>exact Bv I1 kq hq
end
section
variable{X:Cx}{C:LQ}{i:Nat}{x:Str}{p p1 p2 pos:Pos}{vs:List V}{us:List LP}{b:Bool}{cs:List LU}{ctx:Nat}
theorem yf(Z:pq X.K C):cJ X (.builtin "isinstance") (λxs H Q=>∃a tp vs us b,xs=[.ref a,.ref tp]/\H a=some (xR C a)/\H tp=some (.tup vs)/\(∀us',aR vs us'->us'=us)/\PySem.W.kitAny X.K (.ref C) us=some b/\Q (.bl b) H):=by
 intro pins s σ H xs ws Q I r h;obtain⟨a,tp,vs,us,b,rfl,ha,ht,hu,hk,q⟩:=h;obtain⟨u1,u2,rfl,r1,r2⟩:∃u1 u2,ws=[u1,u2]/\bu (.ref a) u1/\bu (.ref tp) u2:=by cases r with|cons p q=>cases q with|cons p' q'=>cases q';exact⟨_,_,rfl,p,p'⟩
 cases (show u1=Value.ref a from r1);cases (show u2=Value.ref tp from r2);obtain⟨o,h1,h2⟩:=(show df X.prog X.w H s.heap a (xR C a) from I.hok a _ ha).1;obtain⟨_,its,hv,o',g1,g2,n,g3,g4⟩:=(show df X.prog X.w H s.heap tp (.tup vs) from I.hok tp _ ht);have eu:=hu its hv;subst eu;obtain⟨oc,od,odt,osl⟩:=o';have g2:oc=.type "tuple":=g2;have g3:odt=.seq its.toArray n:=g3;subst g2 g3;exact PySem.W.kia_tup (sX Z) I.kIn ⟨o,h1,h2⟩ g1 hk (λz=>nomatch z) λtk=>⟨.bl b,H,I.tok _,rfl,q⟩
def GH(i:Nat)(C:LQ)(vs:List V)(b:Bool):TE:=λσ H Q=>∃a,σ[i]?=some (some (.ref a))/\H a=some (xR C a)/\∀p,H p=none->Q (.bl b) (bI H p (.tup vs))
theorem Ec(Z:pq X.K C)(hg:Gl X "isinstance")(hm:X.mg "isinstance"=none)(hv:NL "isinstance"=some (.builtin "isinstance"))(hx:PE X (.Name x p1) (xG i)){t:TA}(hc:PA X cs t)(ht:∀σ H Q,Q vs H->t σ H Q)(hl:vs.length<=Mi)(hu:∀us',aR vs us'->us'=us)(hk:PySem.W.kitAny X.K (.ref C) us=some b)(he:Mf [.Name x p1,.Tuple cs ctx p2] X.env=(false,Ml (.Name x p1) X.env)::Mf [.Tuple cs ctx p2] X.env:=by rfl)(he2:Mf [.Tuple cs ctx p2] X.env=(false,Ml (.Tuple cs ctx p2) X.env)::Mf [] X.env:=by rfl)(hpl:(MF pos (Mf [.Tuple cs ctx p2] X.env)).any (·.1)=false:=by rfl):PE X (.Call (.Name "isinstance" p) [.Name x p1,.Tuple cs ctx p2] [] pos) (GH i C vs b):=(oJ (yf Z) hg hm hv (dJ hx (dJ (zu hc) mj he2) he) ⋯ ⋯ he hpl).mono λσ H Q⟨a,h1,h2,q⟩=>⟨.ref a,h1,ht _ _ _ ⟨hl,λz hz=>⟨a,z,vs,us,b,rfl,oy hz _ _ h2,aC,hu,hk,q z hz⟩⟩⟩
end
section
variable{K:⇑0}{σ:L2.St}{H:Hp}
end
section
variable{X:Cx}
end
def HL(C:LQ):Sp:=λvs H Q _=>∃a,vs=[.ref a]/\H a=some (xR C a)/\∀H',Kp H H'->Q (.bl true) H'
theorem xw{C a:LQ}{vs:List V}{D:qF}{H:Hp}(ha:H a=some (xR C a))(q:∀H',Kp H H'->D.rt (.bl true) H'):GL (GG (HQ (EM (tB (EL 0 C true))) (tB (GH 0 C vs false))) (B7 (tC (.bl false))) Da) (B7 (C_ (EL 0 C true) (EL 0 C true))) D [some (.ref a)] H:=by refine⟨a,rfl,ha,true,rfl,?_⟩;refine wX ⟨a,rfl,ha,λp hp=>⟨false,rfl,wX ?_⟩⟩;exact⟨a,rfl,oy hp _ _ ha,true,rfl,wY ⟨a,rfl,oy hp _ _ ha,q _ (oy hp)⟩⟩
theorem xx{C a:LQ}{i:Nat}{D:qF}{H:Hp}{σ:L2.St}(h0:σ[i]?=some (some (.ref a)))(ha:H a=some (xR C a))(q:∀H',Kp H H'->D.rt (.bl true) H'):B7 (wj (HL C) [] E0 (lR (xG i) Ae)) D σ H:=⟨.ref a,h0,a,rfl,ha,q⟩
abbrev Hk(l:List Nat):Prop:=l.Pairwise (·<·)
section
variable{prog:Mc}{w:LV}{A:Md}{E:LP->LR->Prop}{s:LR}
end
section
variable{prog:Mc}{w:LV}{A:Md}{E:LP->LR->Prop}{s:LR}
end
def IW(t:SetTable):Nat->Nat|0=>0|i+1=>t.place.getD i 0+1
inductive Ho (w:LV) (a:LQ) (es:Array (Int×LP)) (ep:Nat) (t:SetTable) (h:LZ):List LP->LQ->Nat->LP->Prop where|text (hb:w.params.followText "set-order"=true) (p:LQ) (i:Nat) (hp:p=a):Ho w a es ep t h ((pickOrder (w.params.setOrder a ep) es).toList.map (·.2)) p i (rawInt 0)|led (hb:w.params.followText "set-order"=false) (hd:(!t.plain&&es.size>1)=false) (hl:t.led=true) (hr:Hk t.place.toList) (p:LQ) (i:Nat) (hp:p=a):Ho w a es ep t h (es.toList.map (·.2)) p i (rawInt (IW t i))|drawn (hb:w.params.followText "set-order"=false) (p:LQ) (i:Nat) (ys:List Nat) (hy:ys.Perm (MD es.size)) (hp:IsTup h p (ys.map fun(i:Nat)=>rawInt i).toArray):Ho w a es ep t h (ys.filterMap λi=>es[i]?.map (·.2)) p i (.ref p)
section
variable{prog:Mc}{w:LV}{A:Md}{E:LP->LR->Prop}{s:LR}
end
section
variable{prog:Mc}{w:LV}{A:Md}{E:LP->LR->Prop}{s:LR}{I a p:LQ}{es:Array (Int×LP)}{ep:Nat}{t:SetTable}{L:List LP}{i:Nat}
end
section
variable{prog:Mc}{w:LV}{A:Md}{E:LP->LR->Prop}{s:LR}{a:LQ}{es:Array (Int×LP)}{ep:Nat}{t:SetTable}
end
section
variable{prog:Mc}{w:LV}{A:Md}{E:LP->LR->Prop}{s:LR}
end
section
variable{prog:Mc}{w:LV}{A:Md}{E:LP->LR->Prop}{s:LR}
end
section
variable{X:Cx}{K:⇑0}{a:LU}{fa:FE}{pos p pos2 p2:Pos}
end
section
variable{X:Cx}{K:⇑0}{a b1 b2 b3:LU}{fa:FE}{fs:FA}{pos p pos2 p2:Pos}
end
section
variable{prog:Mc}{w:LV}{A:Md}{E:LP->LR->Prop}{s:LR}
end
section
variable{X:Cx}{K:⇑0}{b1 b2 b3:LU}{fs:FA}{pos p pos2 p2:Pos}
end
section
variable{X:Cx}{K:⇑0}{es:List LU}{k0:Nat}{tp:Pos}{a b:LU}{fs:FA}{p pos:Pos}
end
section
variable{X:Cx}{pins:List (LQ×Obj)}{σ:L2.St}{H:Hp}{s:LR}
end
section
variable{prog:Mc}{w:LV}{A:Md}{E:LP->LR->Prop}{s:LR}
end
section
variable{X:Cx}{K:⇑0}{es:List LU}{k0:Nat}{tp:Pos}{a b:LU}{fs:FA}{p pos:Pos}
end
section
variable{X:Cx}{K:⇑0}{es:List LU}{k0:Nat}{tp:Pos}{a b:LU}{fs:FA}{p pos:Pos}
end
section
variable{X:Cx}{K:⇑0}{es:List LU}{k0:Nat}{tp:Pos}{a:LU}{ta:TA}{p pos:Pos}
end
section
variable{X:Cx}{K:⇑0}{es:List LU}{k0:Nat}{tp:Pos}{a:LU}{fs:FA}{p pos:Pos}
end
section
variable(P:Mc)(w:LV)
end
section
variable{P:Mc}{w:LV}{H H':Hp}{h h':LZ}{a:LQ}{o:HO}
end
section
variable{P:Mc}{w:LV}{H:Hp}{h h':LZ}{x e:LQ}{o':HO}
end
section
variable{fs fs' ex ex':List LQ}{H H1 H2:Hp}{h h1 h2 h':LZ}{a x e:LQ}{o:HO}
end
section
variable{X:Cx}{pins:List (LQ×Obj)}{σ:List (Option V)}{H H':Hp}{s:LR}{h':LZ}
end
section
variable{X:Cx}
variable{a b:LU}{ta tb:TE}{pos:Pos}
variable{tA tB':TT}{dc:List LU}
end
section
variable{X:Cx}{pins:List (LQ×Obj)}{σ:St}{H:Hp}{s:LR}{a:LQ}{xs ys:List V}
end
section
variable{X:Cx}{pins:List (LQ×Obj)}{σ:St}{H:Hp}{s:LR}{E:LP->LR->Prop}
end
section
variable{X:Cx}{st:Me}{dc:List Me}{t u:TS}{e:LU}{te:TE}{pos:Pos}
end
section
variable{X:Cx}{pos:Pos}
end
section
variable{X:Cx}{pos:Pos}
end
section
variable{X:Cx}{tg:LU}
end
section
variable{X:Cx}{a b c:LU}{ta tb tc:TE}{pos:Pos}
end
section
variable{X:Cx}{a b c:LU}{ta tb tc:TE}{pos:Pos}
end
section
variable{prog:Mc}{w:LV}{A:Md}{E:LP->LR->Prop}{s:LR}{K:⇑0}{x dx C f:LQ}{mA:Str->Option LP}{name:Str}{v:LP}
end
section
variable{P:Mc}{w:LV}{H H':Hp}{h h':LZ}{a C dx:LQ}{fs fs':List (Str×V)}
end
section
variable{X:Cx}{pins:List (LQ×Obj)}{σ:St}{H:Hp}{s:LR}{a C dx:LQ}{fs:List (Str×V)}{f:Str}{v:V}{A:Md}{E:LP->LR->Prop}
end
section
variable{X:Cx}{o e value:LU}{f:Str}{pos pos' tpos:Pos}{ta tv:TE}
end
section
variable{X:Cx}{pins:List (LQ×Obj)}{σ:St}{H:Hp}{s:LR}{A:Md}{E:LP->LR->Prop}{Q:LP->LR->Prop}{c:LP}{b:Bool}
end
section
variable{X:Cx}{e:LU}{es:List LU}{te:TE}{t:TA}{pos:Pos}
end
section
variable{X:Cx}{pins:List (LQ×Obj)}{σ:St}{H:Hp}{s s':LR}
end
section
variable{X:Cx}{CX:pk}{k:Nat}{f C:LQ}{fd:Mw}{ps:List Str}{sp:Sp}{dvs:List V}{ds:List LP}{E:XK}{x m:Str}{p pos apos:Pos}{e o:LU}{es:List LU}{ta:TE}{t:TA}
end
section
variable{X:Cx}{CX:pk}{k:Nat}{f C:LQ}{fd:Mw}{ps ks:List Str}{sp:Sp}{E:XK}{x m:Str}{p pos apos kpos:Pos}{e o:LU}{es:List LU}{kws:List NQ}{te ta:TE}{t tk:TA}{nm:Option Str}
variable{g:List LP->List LP->List LP}{gV:List V->List V->List V}
end
section
variable{X:Cx}{x:Str}{p pos:Pos}{e:LU}{es:List LU}{t:TA}{id T:String}{r:List V->Hp->VK->Prop}
end
section
variable{κ:Type}[DecidableEq κ]
end
section
variable{P:Mc}{w:LV}{H:Hp}{h:LZ}{a:LQ}
end
section
variable{X:Cx}{pins:List (LQ×Obj)}{σ:St}{H:Hp}{s:LR}{a:LQ}{y v:V}{u r:LP}{o:Option V}{A:Md}{E:LP->LR->Prop}
end
section
variable{X:Cx}{pins:List (LQ×Obj)}{σ:St}{H:Hp}{s:LR}{a:LQ}{kvs:List (j8×V)}{k:j8}{u:LP}{A:Md}{E:LP->LR->Prop}
end
section
variable{X:Cx}{o i e value:LU}{pos pos' tpos:Pos}{td ty tv:TE}
end
section
variable{X:Cx}{pos:Pos}
end
structure M2 (X:Cx) (o:LU) (m:Str) (apos:Pos) (e f:LU) (cpos:Pos):Prop where
 base:PN o m X.env (Ml o X.env)=Ml o X.env
 few:((MF cpos (Mf [e,f] X.env)).all (λx=>!x.1)&&(backToKw cpos (keywordEach [] X.env)).all (λx=>x.1.isSome)&&decide (([e,f]:List LU).length+([]:List NQ).length+(if ([]:List NQ).isEmpty then 0 else 1)<30))=true
 line:(apos.endLine==cpos.line)=true
 trees:MF cpos (Mf [e,f] X.env)=[(false,Ml e X.env),(false,Ml f X.env)]
section
variable{X:Cx}{pins:List (LQ×Obj)}{σ:St}{H:Hp}{s:LR}{a:LQ}{y d:V}{u r:LP}{o:Option V}{A:Md}{E:LP->LR->Prop}
end
section
variable{X:Cx}{o e f:LU}{apos cpos:Pos}{td ty tx:TE}
end
section
variable{X:Cx}{pins:List (LQ×Obj)}{σ:St}{H:Hp}{s:LR}{a:LQ}{kvs:List (j8×V)}{A:Md}{E:LP->LR->Prop}
end
section
variable{X:Cx}{pins:List (LQ×Obj)}{σ:St}{H:Hp}{s:LR}{a:LQ}{y:V}{u:LP}{A:Md}{E:LP->LR->Prop}
end
end L2
namespace Att
open PySem PySem.W PySem.Calls PyProof.Rows
section
variable{prog:Mc}{w:LV}{A:Md}{E:LP->LR->Prop}{s:LR}{K:Frag}
end
end Att
namespace L2
open PySem PySem.Spec PyProof.Rows
section
variable{P:Mc}{w:LV}{K:⇑0}{mg:Str->Option LP}{base:LZ}
end
section
variable{X:Cx}
end
section
variable{κ:Type}[DecidableEq κ]
end
section
variable{prog:Mc}{w:LV}{A:Md}{R:Result->LR->Prop}
end
structure G5 (cp:List (Nat×Str)) (nT:Nat) (wi:TI) (g:TG) (tk tv:TE) (σ:L2.St) (H:Hp) (Q:VK):Prop where go:wi σ H λJ H1=>∀l,H1 l=none->∃W:Nat->Nat->L2.St->Hp->Prop,(∃m,W 0 m (e_ cp nT σ) (bI H1 l (.dK [])))/\∀i m σ' H',W i m σ' H'->(J.stop i H'/\Q (.ref l) H')\/(J.go i H'/\∃N:L2.St->Hp->Prop,(∀σ2 H2,N σ2 H2->∃m',m'<m/\W (i+1) m' σ2 H2)/\∀x H2,J.yld i H' x H2->g x σ' H2 λσ2 H4=>tk σ2 H4 λy H5=>tv σ2 H5 λv H6=>∃(kk:j8) (kvs:List (j8×V)),y=kV kk/\H6 l=some (.dK kvs)/\kvs.length<Mi/\N σ2 (bI H6 l (.dK (Gm kvs kk v))))
abbrev GY:=Int×Int×Int
def pD(p:GY):LS×LS:=(.int p.1,.tuple [.int p.2.1,.int p.2.2])
section
variable{K:⇑0}{F H F' H':Hp}{σ σ':L2.St}{e e':En}{cp:List (Nat×Str)}{nT:Nat}
def IP(m:List (Int×sj))(acc:List GY):Prop:=m.map aD=acc.map pD
inductive Iw (K:⇑0) (W:List Nat) (σ0:L2.St) (F1 H1:Hp) (e0:En) (l:LQ) (P:Hp->En->List GY->Prop) (σ':L2.St) (H':Hp):Prop|mk{F':Hp}{ei:En}{acc:List GY}{m:List (Int×sj)}(R:aZ K F' H' σ' ei) (X:cL W σ0 F1 H1 e0 σ' F' H' ei) (fl:F' l=none) (hl:H' l=some (.dK (m.map aK))) (ok:∀p∈m,p.2.ok K F') (ha:IP m acc) (hc:P F' ei acc):Iw K W σ0 F1 H1 e0 l P σ' H'
end
section
variable{X:Cx}{K:⇑0}{pos:Pos}
end
theorem wJ{X:Cx}{use:Option (LP->Sem Unit)}{RR:LP->LR->Prop}{pins:List (LQ×Obj)}{s:LR}{σ:L2.St}{H:Hp}{Q:VK}{elt iter tg iter2 tg2:LU}{ifs ifs2:List LU}{scope:Mr}{pos:Pos}{wi wi2:TI}{g g2:TG}{tc tc2:TT}{te:TE}(sc0:Mr)(N0:List Str)(cp:List (Nat×Str))(tgN:List Str)(hc:X.calm=true)(hsc:X.env.scope=sc0)(hN0:X.N=N0)(hi:PI X tg iter wi)(hg:∀C s0 H0 fp,PG (ar X scope cp tgN C s0 H0 fp) tg g)(ht:∀C s0 H0 fp,sr (ar X scope cp tgN C s0 H0 fp) ifs tc)(hi2:∀C s0 H0 fp,PI (ar X scope cp tgN C s0 H0 fp) tg2 iter2 wi2)(hg2:∀C s0 H0 fp,PG (ar X scope cp tgN C s0 H0 fp) tg2 g2)(ht2:∀C s0 H0 fp,sr (ar X scope cp tgN C s0 H0 fp) ifs2 tc2)(he:∀C s0 H0 fp,PE (ar X scope cp tgN C s0 H0 fp) elt te)(hk:scope.kind=.function)(hown:∀y∈scope.names,y.2=.cell->scope.names.lookup y.1=some .cell)(hnames:∀y∈scope.names,y.2=.local->scope.names.lookup y.1=some .local)(hfr:∀y∈scope.names,y.2=.free->scope.names.lookup y.1=some .free/\sc0.names.lookup y.1=some .cell)(hcp:∀p∈cp,N0[p.1]?=some p.2)(hcq:∀p∈cp,sc0.names.lookup p.2=some .cell/\scope.names.lookup p.2=some .free)(hs2:∀C s0 H0 fp x,NP iter2 (ar X scope cp tgN C s0 H0 fp).env x=pure x)(hs:∀x,NP iter X.env x=pure x)(I:aA X pins σ H s)(h:vd cp tgN.length wi g tc wi2 g2 tc2 te σ H Q)(fin:∀(C D:LQ) (H5:Hp) (s6:LR),(∃m,s6.heap.Ns C m)->Q (.ref D) H5->j7 X pins H5 C->(∀h',Pi C s6.heap h'->aA X pins σ H5 {s6 with heap:=h'})->compPost (LY X.prog X.w) X.A X.xe use RR (.ref D) C (.ok .next) s6):Ma (LY X.prog X.w) X.A (comprehension (.ListComp elt [⟨tg,iter,ifs,0⟩,⟨tg2,iter2,ifs2,0⟩] scope pos) scope X.env (firstIterPos [⟨tg,iter,ifs,0⟩,⟨tg2,iter2,ifs2,0⟩] pos) (newList []) (firstAsync [⟨tg,iter,ifs,0⟩,⟨tg2,iter2,ifs2,0⟩]) (firstIter [⟨tg,iter,ifs,0⟩,⟨tg2,iter2,ifs2,0⟩] X.env) use) RR X.xe s:=by
 have hkind:∀x,X.env.kindOf x=sc0.names.lookup x:=λx=>by unfold Env.kindOf;rw[hsc]
 have hfree:∀y∈scope.names,y.2=.free->∃c,X.env.cells.lookup y.1=some c:=λy hy e=>I.ok.has y.1 (.inl (by rw[hkind];exact(hfr y hy e).2));refine wpAny_comprehension_free (use:=use) rfl hs (n5 hfree) hk hnames (Ms (hi pins s σ H _ I h.go) (λxv s₁ h₁=>Ms h₁ (λitv s₂ h₂=>?_) λ_ _ e=>e) λ_ _ e=>e);obtain⟨it,fp,tn,J,H2,rfl,I2,T,st2,f2,hq⟩:=h₂;refine OG ?_;have hlF:H2 ↑s₂=none:=I2.hok.fresh ↥8;have I3:aA X pins σ (bI H2 ↑s₂ (.lst [])) {s₂ with heap:=s₂.heap.push {cls:=.type "list",data:=.seq ([]:List LP).toArray}}:=I2.lnew (t':=s₂.toks) .nil (Np _);obtain⟨W,⟨m0,w0⟩,turn⟩:=hq _ hlF;have f3:∀b∈fp,j7 X pins (bI H2 ↑s₂ (.lst [])) b:=λb hb=>by obtain⟨f0,fr⟩:=f2 b hb;obtain⟨o,ho,_⟩:=T.obj _ _ st2 b hb;exact⟨by rw[aJ (MI (Mq ho))];exact f0,fr⟩
 have st3:tn 0 (s₂.heap.push {cls:=.type "list",data:=.seq ([]:List LP).toArray}):=T.keep _ _ _ st2 λb _ o e=>MJ _ e;generalize hD:↑s₂=D at*;generalize hs3:({s₂ with heap:=s₂.heap.push {cls:=.type "list",data:=.seq ([]:List LP).toArray}}:LR)=s₃ at*;have hst3:tn 0 s₃.heap:=by rw[<-hs3];exact st3
 refine vP (λh₁ hns₁ old hownC apC=>?_);generalize hC:↑s₃=C at*;have nC:∀b o,s₃.heap.get? b=some o->b≠C:=λb o e=>by rw[<-hC];exact MI (Mq e)
 obtain⟨ok',I4⟩:=pX (cp:=cp) (tgN:=tgN) hsc hN0 hk hown hfr hcp hcq I3 f3 (λb hb=>let⟨o,e,_⟩:=T.obj _ _ hst3 b hb;⟨o,e⟩) hC hns₁ old hownC apC;have hst4:tn 0 h₁:=T.keep _ _ _ hst3 λb _ o e=>old b o e;have loop:ND (LY X.prog X.w) X.A (.compLoop (.ListComp elt [⟨tg,iter,ifs,0⟩,⟨tg2,iter2,ifs2,0⟩] scope pos) 0 (.ref it) (.ref D) (compEnvC scope (MB (C+1) scope.names (gT X.env scope.names [])) C X.env)) (compPost (LY X.prog X.w) X.A X.xe use RR (.ref D) C) {s₃ with heap:=h₁}:=by
  refine qR (λn s'=>∃i σ' H',aA (ar X scope cp tgN C s₃ (bI H2 D (.lst [])) fp) [] σ' H' s'/\tn i s'.heap/\(∀b∈fp,H' b=none)/\W i n σ' H') ?_ (n0:=m0) ⟨0,_,_,I4,hst4,λb hb=>(f3 b hb).1,w0⟩;rintro n s5⟨i,σ5,H5,I5,st5,fr5,w5⟩;have stat:∀{H':Hp},(∀b∈fp,H' b=none)->∀b∈fp,j7 (ar X scope cp tgN C s₃ (bI H2 D (.lst [])) fp) [] H' b:=λhn b hb=>⟨hn b hb,(ok'.exf b hb).1,ok'.exfs b hb,.inl hb,(ok'.exf b hb).2,λp hp=>by simp[ar]at hp⟩;rcases turn i n σ5 H5 w5 with⟨stop,qn⟩|⟨go,N,hN,step⟩;·refine ck (T.done (ar X scope cp tgN C s₃ (bI H2 D (.lst [])) fp) rfl rfl rfl hc i [] s5 σ5 H5 (λ_ _=>False) I5 (stat fr5) st5 stop) λr s6⟨hr,I6⟩=>?_;subst hr;refine⟨λ_=>?_,λv z=>by cases z⟩;obtain⟨m,hn,_⟩:=I6.loc;exact fin C D H5 s6 ⟨m,hn⟩ qn (I3.fpOk (by rw[hC];exact MU _) I6.free) (pY I3 f3 nC I6)
  ·refine ck (T.item (ar X scope cp tgN C s₃ (bI H2 D (.lst [])) fp) rfl rfl rfl hc i [] s5 σ5 H5 (λ_ _=>False) I5 (stat fr5) st5 go) λr s6⟨u,hr,h6⟩=>?_;subst hr;refine⟨λz=>(by cases z),λv z=>?_⟩;cases z;refine ck h6 λ_ s7⟨x,H7,I7,r7,y7,st7,fr7⟩=>?_;have I7':=I7.pinned (stat fr7) (T.obj _ _ st7);have again:∀{σ8:L2.St}{H8:Hp}{s8:LR},aA (ar X scope cp tgN C s₃ (bI H2 D (.lst [])) fp) ([]++kh fp s7.heap) σ8 H8 s8->N σ8 H8->∃m,m<n/\∃i σ' H',aA (ar X scope cp tgN C s₃ (bI H2 D (.lst [])) fp) [] σ' H' s8/\tn i s8.heap/\(∀b∈fp,H' b=none)/\W i m σ' H':=fun{σ8 H8 s8}I8 n8=>by obtain⟨m',hm,w8⟩:=hN σ8 H8 n8;refine⟨m',hm,i+1,σ8,H8,I8.unpinned,T.keep _ _ _ st7 λb hb o e=>(I8.pin (b,o) (MR _ (MR _ (cA hb e)))).1,λb hb=>?_,w8⟩;obtain⟨o,e,d⟩:=T.obj _ _ st7 b hb;exact(I8.pin (b,o) (MR _ (MR _ (cA hb e)))).2.1
   refine ck (hg C s₃ (bI H2 D (.lst [])) fp _ s7 σ5 H7 x u _ I7' r7 (step x H7 y7)) λ_ s8⟨σ8,H8,I8,q8⟩=>?_;refine ck (ht C s₃ (bI H2 D (.lst [])) fp _ s8 σ8 H8 _ I8 q8) λok s9⟨H9,I9,q9⟩=>?_;cases ok with|false=>rw[if_neg Oo]at q9⊢;exact again I9 q9|true=>rw[if_pos rfl]at q9⊢;exactλk Q' E' hk=>yI (Y:=ar X scope cp tgN C s₃ (bI H2 D (.lst [])) fp) hc rfl (hi2 C s₃ _ fp) (hg2 C s₃ _ fp) (ht2 C s₃ _ fp) (he C s₃ _ fp) (hs2 C s₃ _ fp) I9 q9 k Q' E' λs'⟨σ11,H11,I11,q11⟩=>hk s' (again I11 q11)
 exact codeAny_compStart_list loop (T.self X.A 0 _ _ _ hst4 loop)
theorem xo{X:Cx}{elt iter tg iter2 tg2:LU}{ifs ifs2:List LU}{scope:Mr}{pos:Pos}{wi wi2:TI}{g g2:TG}{tc tc2:TT}{te:TE}(sc0:Mr)(N0:List Str)(cp:List (Nat×Str))(tgN:List Str)(hc:X.calm=true)(hsc:X.env.scope=sc0)(hN0:X.N=N0)(hi:PI X tg iter wi)(hg:∀C s0 H0 fp,PG (ar X scope cp tgN C s0 H0 fp) tg g)(ht:∀C s0 H0 fp,sr (ar X scope cp tgN C s0 H0 fp) ifs tc)(hi2:∀C s0 H0 fp,PI (ar X scope cp tgN C s0 H0 fp) tg2 iter2 wi2)(hg2:∀C s0 H0 fp,PG (ar X scope cp tgN C s0 H0 fp) tg2 g2)(ht2:∀C s0 H0 fp,sr (ar X scope cp tgN C s0 H0 fp) ifs2 tc2)(he:∀C s0 H0 fp,PE (ar X scope cp tgN C s0 H0 fp) elt te)(hk:scope.kind=.function)(hown:∀y∈scope.names,y.2=.cell->scope.names.lookup y.1=some .cell)(hnames:∀y∈scope.names,y.2=.local->scope.names.lookup y.1=some .local)(hfr:∀y∈scope.names,y.2=.free->scope.names.lookup y.1=some .free/\sc0.names.lookup y.1=some .cell)(hcp:∀p∈cp,N0[p.1]?=some p.2)(hcq:∀p∈cp,sc0.names.lookup p.2=some .cell/\scope.names.lookup p.2=some .free)(hs2:∀C s0 H0 fp x,NP iter2 (ar X scope cp tgN C s0 H0 fp).env x=pure x)(hs:∀x,NP iter X.env x=pure x:=by intro _;rfl):PE X (.ListComp elt [⟨tg,iter,ifs,0⟩,⟨tg2,iter2,ifs2,0⟩] scope pos) (vd cp tgN.length wi g tc wi2 g2 tc2 te):=by intro pins s σ H Q I h;rw[eval_ListComp];exact wJ sc0 N0 cp tgN hc hsc hN0 hi hg ht hi2 hg2 ht2 he hk hown hnames hfr hcp hcq hs2 hs I h λC D H5 s6⟨m,hn⟩q _ key=>⟨m,hn,λh' sb=>⟨.ref D,H5,key h' sb,rfl,q⟩⟩
section
variable{X:Cx}{K:⇑0}{pos:Pos}
theorem zK{elt iter tg iter2 tg2:LU}{ifs ifs2:List LU}{scope:Mr}{fi fi2:FI}{g g2:FG}{ft ft2:FT}{fe:FE}{W W2:List Nat}(cp:List (Nat×Str))(tgN:List Str)(hc:X.calm=true)(hi:PI X tg iter (fI K fi))(hg:∀C s0 H0 fp,PG (ar X scope cp tgN C s0 H0 fp) tg (fG K g W))(ht:∀C s0 H0 fp,sr (ar X scope cp tgN C s0 H0 fp) ifs (fT K ft))(hi2:∀C s0 H0 fp,PI (ar X scope cp tgN C s0 H0 fp) tg2 iter2 (fI K fi2))(hg2:∀C s0 H0 fp,PG (ar X scope cp tgN C s0 H0 fp) tg2 (fG K g2 W2))(ht2:∀C s0 H0 fp,sr (ar X scope cp tgN C s0 H0 fp) ifs2 (fT K ft2))(he:∀C s0 H0 fp,PE (ar X scope cp tgN C s0 H0 fp) elt (fE K fe))(hk:scope.kind=.function)(hch:AH X.env.scope scope X.N cp (W++W2)=true)(hs2:∀C s0 H0 fp x,NP iter2 (ar X scope cp tgN C s0 H0 fp).env x=pure x)(hs:∀x,NP iter X.env x=pure x):PE X (.ListComp elt [⟨tg,iter,ifs,0⟩,⟨tg2,iter2,ifs2,0⟩] scope pos) (fE K (mz cp tgN.length fi g ft fi2 g2 ft2 fe)):=by obtain⟨h0,h1,h2,h3,h4,h5,h6⟩:=vA hch;exact(xo X.env.scope X.N cp tgN hc rfl rfl hi (λC s0 H0 fp=>(hg C s0 H0 fp).wide λj hj=>Qj W2 hj) ht hi2 (λC s0 H0 fp=>(hg2 C s0 H0 fp).wide λj hj=>MR W hj) ht2 he hk h0 h1 h2 h3 h4 hs2 hs).mono λ_ _ _ h=>xN h5 h6 h
end
section
variable{X:Cx}{K:⇑0}{g:En->Prop}{x:Str}{e a:LU}{es:List LU}{p pos:Pos}{T:String}
end
section
variable{P:Mc}{w:LV}{K:⇑0}{mg:Str->Option LP}{base:LZ}{N ps:List Str}{qual fn:Str}{scope:Mr}{fa f:LQ}{cd:LP}{A:Md}{outer:List Env}{s:LR}{H:Hp}{E:XK}{C:LQ}{st:Me}{fd:Mw}{k n k0:Nat}{g:En->Prop}{p pos:Pos}{e:LU}{es:List LU}{fs:FA}
end
def sm(f:Nat->Int):Nat->Int|0=>0|n+1=>sm f n+f n
def sg:Nat->Int|0=>1|n+1=>-sg n
def sk(j a:Nat):Nat:=if a<j then a else a+1
def Ij:Nat->(Nat->Nat->Int)->Int|0,_=>1|k+1,c=>sm (λj=>sg j*c j 0*Ij k (λa i=>c (sk j a) (i+1))) (k+1)
def pu(c:Nat->Nat->Int)(p:Nat)(v:Nat->Int):Nat->Nat->Int:=λa=>if a=p then v else c a
def sq(f:Nat->Rat):Nat->Rat|0=>0|n+1=>sq f n+f n
structure Tb where
 T:Nat->Nat->Int
 d:Int
 out:Nat->Nat
 win:Nat->Nat
def IV(s:Tb)(r c:Nat):Tb where T:=λi j=>if i=r then(if j=c then s.d else s.T r j) else if j=c then-s.T i c else(s.T i j*s.T r c-s.T i c*s.T r j)/s.d;d:=s.T r c;out:=λj=>if j=c then s.win r else s.out j;win:=λk=>if k=r then s.out c else s.win k
section
variable(n m:Nat)(C:Nat->Nat->Int)
def Hi(x:Nat->Rat):Prop:=∀i,i<=m->sq (λj=>(C j i:Rat)*x j) n+x (n+i)=(C (n+m+1) i:Rat)
structure Iv (s:Tb):Prop where
 dp:0<s.d
 cl:∀j,j<=n->∀i,s.d*C (s.out j) i=sm (λk=>s.T k j*C (s.win k) i) (m+1)dt:Ij (m+1) (λk=>C (s.win k))=s.d
 fe:∀i,i<m->0<=s.T i n
 wm:s.win m=n+m
 on:s.out n=n+m+1
 oi:∀j,j<n->∀j',j'<n->s.out j=s.out j'->j=j'
 wi:∀k,k<=m->∀k',k'<=m->s.win k=s.win k'->k=k'
 dj:∀j,j<n->∀k,k<=m->s.out j≠s.win k
 cv:∀v,v<=n+m->(∃j,j<n/\s.out j=v)\/(∃k,k<=m/\s.win k=v)og:∀j,j<n->s.out j<=n+m
 wg:∀k,k<=m->s.win k<=n+m
 eq:∀x,Hi n m C x↔∀k,k<=m->(s.d:Rat)*x (s.win k)+sq (λj=>(s.T k j:Rat)*x (s.out j)) n=(s.T k n:Rat)
end
section
variable{n m:Nat}{C:Nat->Nat->Int}{s:Tb}(I:Iv n m C s){r c:Nat}(hr:r<m)(hc:c<n)(hp:0<s.T r c)
include I hr hc hp
end
section
variable(n m:Nat)
structure Iz (s:Tb) (c:Nat):Prop where
 hc:c<n
 neg:s.T m c<0
 first:∀j,j<n->s.T m j<0->s.out c<=s.out j
structure IE (s:Tb) (c r:Nat):Prop where
 hr:r<m
 pos:0<s.T r c
 rat:∀i,i<m->0<s.T i c->s.T r n*s.T i c<=s.T i n*s.T r c
 first:∀i,i<m->0<s.T i c->s.T r n*s.T i c=s.T i n*s.T r c->s.win r<=s.win i
structure II (C:Nat->Nat->Int) (st:Nat->Tb) (cs rs:Nat->Nat) (K:Nat):Prop where iv:∀k,k<=K->Iv n m C (st k)en:∀k,k<K->Iz n m (st k) (cs k)le:∀k,k<K->IE n m (st k) (cs k) (rs k)nx:∀k,k<K->st (k+1)=IV (st k) (rs k) (cs k)
end
section
variable{n m:Nat}{C:Nat->Nat->Int}
variable{st:Nat->Tb}{cs rs:Nat->Nat}{K:Nat}(W:II n m C st cs rs K)
include W
end
section
variable{n m:Nat}{C:Nat->Nat->Int}
end
open PySem PySem.Spec PyProof.Rows PySem.W
section
variable{prog:Mc}{w:LV}{A:Md}{R:Result->LR->Prop}
structure IG (I l S:LQ) (vs:List LP) (rs:List (List Int)) (j:Nat) (arr:Array LP) (c:Nat) (h:LZ):Prop where
 it:h.IsListIter I l j
 ls:h.IsList l vs.toArray
 ro:∀(i:Nat) (r:List Int),rs[i]?=some r->∃v,vs[i]?=some v/\Hl h v r
 sc:h.get? S=some {cls:=.type "list",dict:=none,data:=.seq arr c,slots:=#[]}
end
section
variable{X:Cx}{K:⇑0}
end
section
variable{X:Cx}{K:⇑0}{x y:Str}{p p2 pos:Pos}{i j:Nat}{a c:LU}
end
section
variable{X:Cx}{K:⇑0}{pos p2:Pos}
end
structure Jh (n m:Nat) (s:Tb):Prop where
 d:Bt 1900 s.d
 t:∀i,i<=m->∀j,j<=n->Bt 1900 (s.T i j)
def IU(n m:Nat)(g:Nat->Int)(A:Nat->Nat->Int)(b:Nat->Int)(v i:Nat):Int:=if v<n then(if i<m then A i v else if i=m then-g v else 0) else if v<=n+m then(if i=v-n then 1 else 0) else if v=n+m+1 then(if i<m then b i else 0) else 0
section
variable(n m:Nat)(g:Nat->Int)(A:Nat->Nat->Int)(b:Nat->Int)
end
section
variable{n m:Nat}{g:Nat->Int}{A:Nat->Nat->Int}{b:Nat->Int}
end
abbrev TL:=lV×Rat
def rs(f:TL->Rat):List TL->Rat|[]=>0|p::P=>f p+rs f P
def DB(th:Int)(t:lV):Bool:=t.one==th||t.other==th
def FB(th:Int)(p:TL):Rat:=if DB th p.1=true then(p.1.top:Rat)*p.2 else 0
def Fj(th:Int)(p:TL):Rat:=if DB th p.1=true then(p.1.bot:Rat)*p.2 else 0
def Fi(p:TL):Rat:=(p.1.bot:Rat)*p.2
def CK(p:TL):Rat:=((p.1.top*p.1.worth:Int):Rat)*p.2
structure Cp (W:aN) (P:List TL):Prop where
 ties:P.map (·.1)=W.ties
 nn:∀p∈P,0<=p.2
 once:∀p∈P,Fi p<=1
 keep:∀k:Nat,(k:Int)<W.things->rs (FB k) P<=1
 bear:∀k:Nat,(k:Int)<W.things->rs (Fj k) P<=(W.pat.getD k 0:Rat)ask:rs Fi P<=(W.asks:Rat)
structure Jc (W:aN) (V:Rat):Prop where
 ex:∃P,Cp W P/\rs CK P=V
 top:∀P,Cp W P->rs CK P<=V
structure Up (t t':lV) (r:Rat):Prop where
 one:t'.one=t.one
 other:t'.other=t.other
 r0:0<=r
 top:(t'.top:Rat)*r<=(t.top:Rat)bot:(t'.bot:Rat)*r<=(t.bot:Rat)gain:((t.top*t.worth:Int):Rat)<=((t'.top*t'.worth:Int):Rat)*r
def tj(W:aN)(j:Nat):lV:=W.ties.getD j ⟨0,0,0,0,0⟩
def wT(W:aN):Nat:=W.things.toNat
section
variable{W:aN}
end
def nv(p q i:Nat):Int:=(if i=p then 1 else 0)-(if i=q then 1 else 0)
section
variable{n m:Nat}{g:Nat->Int}{A:Nat->Nat->Int}{b:Nat->Int}
end
def hG(W:aN)(j:Nat):Int:=(tj W j).worth
def hA(W:aN)(i j:Nat):Int:=if DB (i:Int) (tj W j)=true then 1 else 0
def hO(_:Nat):Int:=1
abbrev hC(W:aN):Nat->Nat->Int:=IU W.ties.length (wT W) (hG W) (hA W) hO
def hS(c:Int->Bool)(i:Nat):Int:=if c (i:Int)=true then 1 else-1
section
variable{W:aN}(ok:W.Ok){c:Int->Bool}(hc:∀t∈W.ties,c t.one≠c t.other)
include ok hc
end
structure ID (W:aN) (X Y:Nat->Int):Prop where
 x01:∀j,j<W.ties.length->X j=0\/X j=1
 one:∀i,i<wT W->sm (λj=>hA W i j*X j) W.ties.length<=1
 y0:∀i,0<=Y i
 paid:∀j,j<W.ties.length->hG W j<=Y (tj W j).one.toNat+Y (tj W j).other.toNat
 eq:sm Y (wT W)=sm (λj=>hG W j*X j) W.ties.length
end L2
namespace V24
open PySem PySem.Spec PyProof.Rows L2
variable{P:Mc}{w:LV}{K:W.Frag}{mg:Str->Option LP}{base:LZ}{f:LQ}{fd:Mw}
local macro_rules|`(tactic|trivial)=>`(tactic|first|exact .inl rfl|exact .inr rfl|assumption)
local macro_rules|`(¬$n:num)=>`(@qw _ _ $n _ _ (by rfl) (by rfl) (by decide))
local macro_rules|`($a∘$b)=>`(@HH _ _ _ _ _ _ $a $b (by rfl))
theorem mR{α:Type u}{β:Type v}{f:α->β}:OM f []=[]:=rfl
theorem mQ{α:Type u}{β:Type v}{f:α->β}{a:α}{l:List α}:OM f (a::l)=f a::OM f l:=rfl
theorem mL{α:Type u}{l:List α}:[]++l=l:=rfl
theorem mK{α:Type u}{a:α}{l m:List α}:(a::l)++m=a::(l++m):=rfl
theorem mO{α:Type u}{a:α}{l:List α}:(a::l)[0]?=some a:=rfl
theorem mP{α:Type u}{a:α}{l:List α}{i:Nat}:(a::l)[i+1]?=l[i]?:=rfl
theorem mM{α:Type u}{β:Type v}{a:α}{f:α->Option β}:Option.bind (some a) f=f a:=rfl
theorem mS{α:Type u}{β:Type v}{a:α}{f:α->β}:Option.map f (some a)=some (f a):=rfl
structure iq (mg:Str->Option LP):Prop where
 b_abs:mg "abs"=none
 b_len:mg "len"=none
 b_min:mg "min"=none
 b_max:mg "max"=none
 b_range:mg "range"=none
 b_repr:mg "repr"=none
 b_tuple:mg "tuple"=none
 b_int:mg "int"=none
 b_sorted:mg "sorted"=none
 b_isinstance:mg "isinstance"=none
 b_all:mg "all"=none
 b_list:mg "list"=none
 b_ValueError:mg "ValueError"=none
abbrev Cl(P:Mc)(w:LV)(K:W.Frag)(mg:Str->Option LP)(base:LZ)(n:Str)(s:Me)(ps:List Str)(lv k:Nat)(m:FM):Prop:=∃f fd,eQ K mg n s f fd ps/\a_ P w K mg base eW lv f fd ps (fZ K k m)
def jb:FS:=(i0 (aO (aB Dw (af 0) (af 1))) C8 de)
def cz:FM:=gz 2 0 ([]++[]) jb
theorem cZ:aw ["many","most"] ["many","most"] (ao bD):=⟨rfl,rfl,rfl,by decide+kernel,rfl,by decide+kernel,by decide+kernel⟩
theorem nD(h:eQ K mg "refuse_above" bD f fd ["many","most"])(T:iq mg):a_ P w K mg base eW 1 f fd ["many","most"] (fZ K 2 cz):=by have nd:=cZ.nd;exact h.fn cZ rfl rfl (λcdv A outer s H E hr=>(@am _ _ _ _ _ (@cD _ _ _ _ _ _ _ _ _ _ _ (@a9 _ _ _ _ _ _ _ _ _ (@AE _ _) (¬0) (¬1) (be _)) (@am _ _ _ _ _ (@BN _ _ _)) (@bg _ _))))
def fM:En->Prop:=λe=>∃e',(aO (aB Dw (af 0) (af 1))) e=some (true,e')/\mf e'=true/\(λe=>∃(rs:List Rv) (e':En),(aa (G8 (ui q_ (af 0)) (vC (.str (" are more than ":Str))) (ui q_ (af 1))) aj) e=some (rs,e')/\rs.length=1) e'
theorem mh(h:eQ K mg "refuse_above" bD f fd ["many","most"])(T:iq mg){C:LQ}(m_TooMany:mg "TooMany"=some (.ref C))(x_TooMany:Py K C xO "ValueError.__new__"=true):a_ P w K mg base (nU P w C) 1 f fd ["many","most"] (Ax K 2 0 fM):=by have nd:=cZ.nd;exact h.fnR cZ rfl rfl (λcdv A outer s H E hr=>(Gy (PT.nox (@a9 _ _ _ _ _ _ _ _ _ (@AE _ _) (¬0) (¬1) (be _))) (zY rfl rfl m_TooMany x_TooMany zU ((@HG _ _ _ _ _ _ _ _ _ (@CY _ _ _ _ _ (¬0)) (@Es _ _ _ _ _) (@CY _ _ _ _ _ (¬1)))∘ae) ⋯ rfl)))
def bB:FT:=(aO (aB (cS true) (af 1) (vC (.int 0))))
def b6:FS:=(nF 0 1 (aa (af 1) (aa (aB a7 (af 0) (af 1)) aj)))
def gS:FS:=(aE (iR (2^4200) bB b6) (bh (aI (g1 uC) (aa (af 0) aj))))
def bO:FM:=gz 2 0 ([0,1]++[]) gS
theorem gD:aw ["one","other"] ["one","other"] (ao bS):=⟨rfl,rfl,rfl,by decide+kernel,rfl,by decide+kernel,by decide+kernel⟩
theorem lm(h:eQ K mg "common_divisor" bS f fd ["one","other"])(T:iq mg):a_ P w K mg base eW 1 f fd ["one","other"] (fZ K 2 bO):=by have nd:=gD.nd;exact h.fn gD rfl rfl (λcdv A outer s H E hr=>(@ah _ _ _ _ _ _ _ _ (@lD _ _ _ _ _ _ _ _ _ NB (@a9 _ _ _ _ _ _ _ _ _ (@wC _ _ _ rfl hr) (¬1) ag (be _)) (@am _ _ _ _ _ (@zN _ _ _ _ _ 0 1 _ _ _ _ _ _ _ _ _ rfl nd rfl rfl ⋯ rfl rfl ((¬1)∘((@aV _ _ _ _ _ _ _ (¬0) (¬1))∘ae)) ∅ ∅))) (@am _ _ _ _ _ (@aH _ _ _ _ _ (@aT _ _ _ _ _ _ _ _ _ (@b_abs _ _) ∅ T.b_abs ((¬0)∘ae) ⋯ ⋯ ∅ ∅)))))
def sC:FS:=(aE (aU 2 (bY 2 bO (aa (af 0) (aa (af 1) aj)))) (aE (i0 (aO (aB AR (af 1) (vC (.int 0)))) (aU 2 (ui yA (af 2))) de) (bh (bf (aa (aB er (af 0) (af 2)) (aa (aB er (af 1) (af 2)) aj))))))
def fP:FM:=gz 2 1 ([2]++(([2]++[])++[])) sC
theorem qo:aw ["top","bottom","divisor"] ["top","bottom"] (ao hX):=⟨rfl,rfl,rfl,by decide+kernel,rfl,by decide+kernel,by decide+kernel⟩
theorem xl(h:eQ K mg "lowest" hX f fd ["top","bottom"])(T:iq mg)(z_common_divisor:Cl P w K mg base "common_divisor" bS ["one","other"] 1 2 bO):a_ P w K mg base eW 2 f fd ["top","bottom"] (fZ K 2 fP):=by obtain⟨Kf,Kg,Jo,JI⟩:=z_common_divisor;have nd:=qo.nd;exact h.fn qo rfl rfl (λcdv A outer s H E hr=>(@ah _ _ _ _ _ _ _ _ (@ax _ _ _ _ _ 2 _ _ nd rfl ↥3 (@aS _ _ _ _ _ _ _ _ _ _ _ _ _ _ _ Jo JI (hr.mono ⋯) ((¬0)∘((¬1)∘ae)) ∅ ⋯ ∅ ∅) ∅ (by trivial)) (@ah _ _ _ _ _ _ _ _ (@cD _ _ _ _ _ _ _ _ _ _ _ (@a9 _ _ _ _ _ _ _ _ _ (@yc _ _) (¬1) ag (be _)) (@am _ _ _ _ _ (@ax _ _ _ _ _ 2 _ _ nd rfl ↥3 (@CZ _ _ _ _ _ (¬2)) ∅ (by trivial))) (@bg _ _)) (@am _ _ _ _ _ (@aH _ _ _ _ _ (@aG _ _ _ _ _ _ ((@gM _ _ _ _ _ _ _ (¬0) (¬2))∘((@gM _ _ _ _ _ _ _ (¬1) (¬2))∘ae))))))))
def vy:FS:=(bh (bY 2 fP (aa (aB fJ (aB cK (af 0) (vC (.int 0))) (aB cK (af 1) (vC (.int 0)))) (aa (aB fJ (aB cK (af 0) (vC (.int 1))) (aB cK (af 1) (vC (.int 1)))) aj))))
def lc:FM:=gz 2 0 [] vy
theorem tY:aw ["one","other"] ["one","other"] (ao lK):=⟨rfl,rfl,rfl,by decide+kernel,rfl,by decide+kernel,by decide+kernel⟩
theorem zh(h:eQ K mg "times" lK f fd ["one","other"])(T:iq mg)(z_lowest:Cl P w K mg base "lowest" hX ["top","bottom"] 2 2 fP):a_ P w K mg base eW 3 f fd ["one","other"] (fZ K 2 lc):=by obtain⟨Kr,Ks,Jz,JW⟩:=z_lowest;have nd:=tY.nd;exact h.fn tY rfl rfl (λcdv A outer s H E hr=>(@am _ _ _ _ _ (@aH _ _ _ _ _ (@aS _ _ _ _ _ _ _ _ _ _ _ _ _ _ _ Jz JW (hr.mono ⋯) ((@js _ _ _ _ _ _ _ rfl (@bA _ _ _ _ _ _ _ rfl (¬0) ag ↥4) (@bA _ _ _ _ _ _ _ rfl (¬1) ag ↥4))∘((@js _ _ _ _ _ _ _ rfl (@bA _ _ _ _ _ _ _ rfl (¬0) ag ↥4) (@bA _ _ _ _ _ _ _ rfl (¬1) ag ↥4))∘ae)) ∅ ⋯ ∅ ∅))))
def nY:FS:=(bh (bY 2 fP (aa (aB iD (aB cK (af 0) (vC (.int 1))) (aB cK (af 0) (vC (.int 0)))) (aa (aB cK (af 0) (vC (.int 1))) aj))))
def fQ:FM:=gz 1 0 [] nY
theorem m8:aw ["chance"] ["chance"] (ao fX):=⟨rfl,rfl,rfl,by decide+kernel,rfl,by decide+kernel,by decide+kernel⟩
theorem tH(h:eQ K mg "one_less" fX f fd ["chance"])(T:iq mg)(z_lowest:Cl P w K mg base "lowest" hX ["top","bottom"] 2 2 fP):a_ P w K mg base eW 3 f fd ["chance"] (fZ K 1 fQ):=by obtain⟨Kr,Ks,Jz,JW⟩:=z_lowest;have nd:=m8.nd;exact h.fn m8 rfl rfl (λcdv A outer s H E hr=>(@am _ _ _ _ _ (@aH _ _ _ _ _ (@aS _ _ _ _ _ _ _ _ _ _ _ _ _ _ _ Jz JW (hr.mono ⋯) ((@qg _ _ _ _ _ _ _ (@bA _ _ _ _ _ _ _ rfl (¬0) ag ↥4) (@bA _ _ _ _ _ _ _ rfl (¬0) ag ↥4))∘((@bA _ _ _ _ _ _ _ rfl (¬0) ag ↥4)∘ae)) ∅ ⋯ ∅ ∅))))
def mE:FS:=(bh (si (aB cK (aB cK (af 0) (vC (.int 1))) (af 1)) eV (eM (vC (.int 2)))))
def bJ:FM:=gz 2 0 [] mE
theorem lM:aw ["web","tie"] ["web","tie"] (ao cG):=⟨rfl,rfl,rfl,by decide+kernel,rfl,by decide+kernel,by decide+kernel⟩
theorem rM(h:eQ K mg "things_of" cG f fd ["web","tie"])(T:iq mg):a_ P w K mg base eW 1 f fd ["web","tie"] (fZ K 2 bJ):=by have nd:=lM.nd;exact h.fn lM rfl rfl (λcdv A outer s H E hr=>(@am _ _ _ _ _ (@aH _ _ _ _ _ (@iL _ _ _ _ _ _ _ _ _ _ rfl (@bA _ _ _ _ _ _ _ rfl (@bA _ _ _ _ _ _ _ rfl (¬0) ag ↥4) (¬1) ↥4) (@iM _ _) (@iN _ _ _ _ ag)))))
def j5:FI:=(jm (af 1))
def cN:FT:=(aO (aB (wN false) (af 0) (bY 2 bJ (aa (af 1) (aa (af 2) aj)))))
def cO:FE:=(af 2)
def mD:FS:=(bh (aI (g1 gK) (aa (ig [(2,"thing"),(0,"web")] 1 j5 (aq 2) cN cO) aj)))
def eL:FM:=gz 3 0 [] mD
theorem lL:aw ["web","asked","thing"] ["web","asked","thing"] (ao eO):=⟨rfl,rfl,rfl,by decide+kernel,rfl,by decide+kernel,by decide+kernel⟩
theorem rL(h:eQ K mg "many_asks" eO f fd ["web","asked","thing"])(T:iq mg)(z_things_of:Cl P w K mg base "things_of" cG ["web","tie"] 1 2 bJ):a_ P w K mg base eW 2 f fd ["web","asked","thing"] (fZ K 3 eL):=by obtain⟨JM,JN,Jm,Js⟩:=z_things_of;have nd:=lL.nd;exact h.fn lL rfl rfl (λcdv A outer s H E hr=>(@am _ _ _ _ _ (@aH _ _ _ _ _ (@aT _ _ _ _ _ _ _ _ _ (@b_len _ _ rfl) ∅ T.b_len ((@nM _ _ _ _ _ _ _ _ _ _ _ _ _ [(2,"thing"),(0,"web")] ["tie"] rfl rfl (@fU _ _ _ _ _ rfl (¬1)) (λC s0 H0 fp=>(@aM _ _ _ 2 _ (show OE (["thing","web","tie"]:List Str) by decide+kernel) rfl ↥3 (by trivial))) (λC s0 H0 fp=>(@rS _ _ _ _ (@a9 _ _ _ _ _ _ _ _ _ (@ya _ _ _ rfl hr) (¬0) (@aS _ _ _ _ _ _ _ _ _ _ _ _ _ _ _ Jm Js (hr.mono ⋯) ((¬1)∘((¬2)∘ae)) ∅ ⋯ ∅ ∅) (by with_unfolding_all rfl)))) (λC s0 H0 fp=>(¬2)) rfl ∅ ↥5)∘ae) ⋯ ⋯ ∅ ∅))))
def dQ:FS:=(aE (kj (af 1) (bC (au (aq 3) (au (aq 4) br)))) (bh (jE (aB (wN true) (af 2) (af 4)) (aB AR (bY 3 eL (aa (af 0) (aa (af 3) (aa (af 2) aj)))) (aB cK (aB cK (af 0) (vC (.int 2))) (af 2))))))
def bz:FM:=gz 3 2 (([3]++([4]++[]))++[]) dQ
theorem gC:aw ["web","stand","thing","asked","taken"] ["web","stand","thing"] (ao bR):=⟨rfl,rfl,rfl,by decide+kernel,rfl,by decide+kernel,by decide+kernel⟩
theorem lh(h:eQ K mg "bears_one_more" bR f fd ["web","stand","thing"])(T:iq mg)(z_many_asks:Cl P w K mg base "many_asks" eO ["web","asked","thing"] 2 3 eL):a_ P w K mg base eW 3 f fd ["web","stand","thing"] (fZ K 3 bz):=by obtain⟨KD,KG,Jw,J'⟩:=z_many_asks;have nd:=gC.nd;exact h.fn gC rfl rfl (λcdv A outer s H E hr=>(@ah _ _ _ _ _ _ _ _ (@oM _ _ _ _ _ _ _ _ (¬1) (@gN _ _ _ _ _ _ _ _ rfl rfl (@aW _ _ _ _ _ _ _ _ (@aM _ _ _ 3 _ nd rfl ↥3 (by trivial)) (@aW _ _ _ _ _ _ _ _ (@aM _ _ _ 4 _ nd rfl ↥3 (by trivial)) (@ee _ _) ∅) ∅) (bj (bj gL)) ∅ ∅) ∅ ∅ ∅) (@am _ _ _ _ _ (@aH _ _ _ _ _ (@Eo _ _ _ _ _ _ _ _ (@vU _ _ _ _ _ _ _ _ _ (@AF _ _ _ rfl hr) (¬2) (¬4) (by with_unfolding_all rfl)) (@Er _ _ _ _ _ _ (@vU _ _ _ _ _ _ _ _ _ (@yc _ _) (@aS _ _ _ _ _ _ _ _ _ _ _ _ _ _ _ Jw J' (hr.mono ⋯) ((¬0)∘((¬3)∘((¬2)∘ae))) ∅ ⋯ ∅ ∅) (@bA _ _ _ _ _ _ _ rfl (@bA _ _ _ _ _ _ _ rfl (¬0) ag ↥4) (¬2) ↥4) (be _))))))))
def mZ:FI:=(jm (bY 2 bJ (aa (af 0) (aa (af 2) aj))))
def jf:FE:=(bY 3 bz (aa (af 0) (aa (af 1) (aa (af 2) aj))))
def jI:FS:=(aE (aU 3 (aB cK (af 1) (vC (.int 0)))) (aE (i0 (um (aO (aB (wN false) (af 2) (af 3))) (aO (aB CG (aI (g1 gK) (aa (af 3) aj)) (aB cK (af 0) (vC (.int 3)))))) (bh (vC (.bool false))) de) (bh (aI (g1 (om sR)) (aa (ig [(0,"web"),(1,"stand")] 1 mZ (aq 2) jC jf) aj)))))
def dW:FM:=gz 3 1 ([3]++(([]++[])++[])) jI
theorem o5:aw ["web","stand","tie","asked"] ["web","stand","tie"] (ao h_):=⟨rfl,rfl,rfl,by decide+kernel,rfl,by decide+kernel,by decide+kernel⟩
theorem uT(h:eQ K mg "may_ask" h_ f fd ["web","stand","tie"])(T:iq mg)(z_bears_one_more:Cl P w K mg base "bears_one_more" bR ["web","stand","thing"] 3 3 bz)(z_things_of:Cl P w K mg base "things_of" cG ["web","tie"] 1 2 bJ):a_ P w K mg base eW 4 f fd ["web","stand","tie"] (fZ K 3 dW):=by obtain⟨Kh,Ki,Jp,JJ⟩:=z_bears_one_more;obtain⟨JM,JN,Jm,Js⟩:=z_things_of;have nd:=o5.nd;exact h.fn o5 rfl rfl (λcdv A outer s H E hr=>(@ah _ _ _ _ _ _ _ _ (@ax _ _ _ _ _ 3 _ _ nd rfl ↥3 (@bA _ _ _ _ _ _ _ rfl (¬1) ag ↥4) ∅ (by trivial)) (@ah _ _ _ _ _ _ _ _ (@cD _ _ _ _ _ _ _ _ _ _ _ (@u7 _ _ _ _ (@tL _ _ _ _ _ _ _ _ (@a9 _ _ _ _ _ _ _ _ _ (@ya _ _ _ rfl hr) (¬2) (¬3) (by with_unfolding_all rfl)) (@oN _ _ _ _ _ (@a9 _ _ _ _ _ _ _ _ _ (@x_ _ _) (@aT _ _ _ _ _ _ _ _ _ (@b_len _ _ rfl) ∅ T.b_len ((¬3)∘ae) ⋯ ⋯ ∅ ∅) (@bA _ _ _ _ _ _ _ rfl (¬0) ag ↥4) (be _))))) (@am _ _ _ _ _ (@aH _ _ _ _ _ (@iY _ _ _ _ _))) (@bg _ _)) (@am _ _ _ _ _ (@aH _ _ _ _ _ (@aT _ _ _ _ _ _ _ _ _ (@b_all _ _ _ rfl hr) ∅ T.b_all ((@nM _ _ _ _ _ _ _ _ _ _ _ _ _ [(0,"web"),(1,"stand")] ["thing"] rfl rfl (@fU _ _ _ _ _ rfl (@aS _ _ _ _ _ _ _ _ _ _ _ _ _ _ _ Jm Js (hr.mono ⋯) ((¬0)∘((¬2)∘ae)) ∅ ⋯ ∅ ∅)) (λC s0 H0 fp=>(@aM _ _ _ 2 _ (show OE (["web","stand","thing"]:List Str) by decide+kernel) rfl ↥3 (by trivial))) (λC s0 H0 fp=>(@rR _ _)) (λC s0 H0 fp=>(@aS _ _ _ _ _ _ _ _ _ _ _ _ _ _ _ Jp JJ (hr.mono ⋯) ((¬0)∘((¬1)∘((¬2)∘ae))) ∅ ⋯ ∅ ∅)) rfl ∅ ↥5)∘ae) ⋯ ⋯ ∅ ∅))))))
def fy:FS:=(aE (kj (af 1) (bC (au (aq 4) (au (aq 5) br)))) (aE (i0 (aO (af 3)) (aU 5 (aI (g1 bN) (aa (aI (g1 bi) (aa (aB cQ (af 5) (bY 2 bJ (aa (af 0) (aa (af 2) aj)))) aj)) aj))) de) (bh (bf (aa (aI (g1 bN) (aa (aI (g1 bi) (aa (aB cQ (af 4) (bf (aa (af 2) aj))) aj)) aj)) (aa (af 5) aj))))))
def bQ:FM:=gz 4 2 (([4]++([5]++[]))++(([5]++[])++[])) fy
theorem i4:aw ["web","stand","tie","truth","asked","taken"] ["web","stand","tie","truth"] (ao cF):=⟨rfl,rfl,rfl,by decide+kernel,rfl,by decide+kernel,by decide+kernel⟩
theorem nE(h:eQ K mg "stand_behind" cF f fd ["web","stand","tie","truth"])(T:iq mg)(z_things_of:Cl P w K mg base "things_of" cG ["web","tie"] 1 2 bJ):a_ P w K mg base eW 2 f fd ["web","stand","tie","truth"] (fZ K 4 bQ):=by obtain⟨JM,JN,Jm,Js⟩:=z_things_of;have nd:=i4.nd;exact h.fn i4 rfl rfl (λcdv A outer s H E hr=>(@ah _ _ _ _ _ _ _ _ (@oM _ _ _ _ _ _ _ _ (¬1) (@gN _ _ _ _ _ _ _ _ rfl rfl (@aW _ _ _ _ _ _ _ _ (@aM _ _ _ 4 _ nd rfl ↥3 (by trivial)) (@aW _ _ _ _ _ _ _ _ (@aM _ _ _ 5 _ nd rfl ↥3 (by trivial)) (@ee _ _) ∅) ∅) (bj (bj gL)) ∅ ∅) ∅ ∅ ∅) (@ah _ _ _ _ _ _ _ _ (@cD _ _ _ _ _ _ _ _ _ _ _ (@iO _ _ _ _ (¬3) ↥5) (@am _ _ _ _ _ (@ax _ _ _ _ _ 5 _ _ nd rfl ↥3 (@aT _ _ _ _ _ _ _ _ _ (@b_tuple _ _ rfl) ∅ T.b_tuple ((@aT _ _ _ _ _ _ _ _ _ (@jJ _ _ _ rfl hr) ∅ T.b_sorted ((@cB _ _ _ _ _ _ _ rfl (¬5) (@aS _ _ _ _ _ _ _ _ _ _ _ _ _ _ _ Jm Js (hr.mono ⋯) ((¬0)∘((¬2)∘ae)) ∅ ⋯ ∅ ∅))∘ae) ⋯ ⋯ ∅ ∅)∘ae) ⋯ ⋯ ∅ ∅) ∅ (by trivial))) (@bg _ _)) (@am _ _ _ _ _ (@aH _ _ _ _ _ (@aG _ _ _ _ _ _ ((@aT _ _ _ _ _ _ _ _ _ (@b_tuple _ _ rfl) ∅ T.b_tuple ((@aT _ _ _ _ _ _ _ _ _ (@jJ _ _ _ rfl hr) ∅ T.b_sorted ((@cB _ _ _ _ _ _ _ rfl (¬4) (@aG _ _ _ _ _ _ ((¬2)∘ae)))∘ae) ⋯ ⋯ ∅ ∅)∘ae) ⋯ ⋯ ∅ ∅)∘((¬5)∘ae))))))))
def eU:FI:=(jm (bf (aa (bf (aa (vC (.bool true)) (aa (af 3) aj))) (aa (bf (aa (vC (.bool false)) (aa (bY 1 fQ (aa (af 3) aj)) aj))) aj))))
def cX:FT:=(aO (aB (cS true) (af 4) (vC (.tuple [.int (0),.int (1)]))))
def cf:FE:=(bf (aa (bY 4 bQ (aa (af 0) (aa (af 1) (aa (af 2) (aa (af 3) aj))))) (aa (af 4) aj)))
def gH:FS:=(aE (i0 (jF (aO (bY 3 dW (aa (af 0) (aa (af 1) (aa (af 2) aj)))))) (bh (cW (aa (bf (aa (af 1) (aa (vC (.tuple [.int (1),.int (1)])) aj))) aj))) de) (aE (aU 3 (aB cK (aB cK (aB cK (af 0) (vC (.int 1))) (af 2)) (vC (.int 2)))) (bh (ig [(0,"web"),(1,"stand"),(2,"tie")] 2 eU (bC (au (aq 3) (au (aq 4) br))) cX cf))))
def bK:FM:=gz 3 1 (([]++[])++([3]++[])) gH
theorem jx:aw ["web","stand","tie","chance"] ["web","stand","tie"] (ao cU):=⟨rfl,rfl,rfl,by decide+kernel,rfl,by decide+kernel,by decide+kernel⟩
theorem oH(h:eQ K mg "stands_next" cU f fd ["web","stand","tie"])(T:iq mg)(z_may_ask:Cl P w K mg base "may_ask" h_ ["web","stand","tie"] 4 3 dW)(z_stand_behind:Cl P w K mg base "stand_behind" cF ["web","stand","tie","truth"] 2 4 bQ)(z_one_less:Cl P w K mg base "one_less" fX ["chance"] 3 1 fQ){g_ZERO:LQ}(m_ZERO:mg "ZERO"=some (.ref g_ZERO))(c_ZERO:∀F,DA K F (.tuple [.int (0),.int (1)]) (.ref g_ZERO)){g_ONE:LQ}(m_ONE:mg "ONE"=some (.ref g_ONE))(c_ONE:∀F,DA K F (.tuple [.int (1),.int (1)]) (.ref g_ONE)):a_ P w K mg base eW 5 f fd ["web","stand","tie"] (fZ K 3 bK):=by obtain⟨KP,KQ,JE,Kj⟩:=z_may_ask;obtain⟨Ko,Kq,Jq,JR⟩:=z_stand_behind;obtain⟨KN,KO,JA,Ke⟩:=z_one_less;have nd:=jx.nd;exact h.fn jx rfl rfl (λcdv A outer s H E hr=>(@ah _ _ _ _ _ _ _ _ (@cD _ _ _ _ _ _ _ _ _ _ _ (@ms _ _ _ _ _ (@iO _ _ _ _ (@aS _ _ _ _ _ _ _ _ _ _ _ _ _ _ _ JE Kj (hr.mono ⋯) ((¬0)∘((¬1)∘((¬2)∘ae))) ∅ ⋯ ∅ ∅) ↥5)) (@am _ _ _ _ _ (@aH _ _ _ _ _ (@bG _ _ _ _ _ ((@aG _ _ _ _ _ _ ((¬1)∘((@lC _ _ _ (V.ref g_ONE) _ _ (PyData.tuple [.int (1),.int (1)]) rfl m_ONE rfl c_ONE ⋯)∘ae)))∘ae)))) (@bg _ _)) (@ah _ _ _ _ _ _ _ _ (@ax _ _ _ _ _ 3 _ _ nd rfl ↥3 (@bA _ _ _ _ _ _ _ rfl (@bA _ _ _ _ _ _ _ rfl (@bA _ _ _ _ _ _ _ rfl (¬0) ag ↥4) (¬2) ↥4) ag ↥4) ∅ (by trivial)) (@am _ _ _ _ _ (@aH _ _ _ _ _ (@nM _ _ _ _ _ _ _ _ _ _ _ _ _ [(0,"web"),(1,"stand"),(2,"tie")] ["truth","share"] rfl rfl (@fU _ _ _ _ _ rfl (@aG _ _ _ _ _ _ ((@aG _ _ _ _ _ _ ((@iY _ _ _ _ _)∘((¬3)∘ae)))∘((@aG _ _ _ _ _ _ ((@iY _ _ _ _ _)∘((@aS _ _ _ _ _ _ _ _ _ _ _ _ _ _ _ JA Ke (hr.mono ⋯) ((¬3)∘ae) ∅ ⋯ ∅ ∅)∘ae)))∘ae)))) (λC s0 H0 fp=>(@gN _ _ _ _ _ _ _ _ rfl rfl (@aW _ _ _ _ _ _ _ _ (@aM _ _ _ 3 _ (show OE (["web","stand","tie","truth","share"]:List Str) by decide+kernel) rfl ↥3 (by trivial)) (@aW _ _ _ _ _ _ _ _ (@aM _ _ _ 4 _ (show OE (["web","stand","tie","truth","share"]:List Str) by decide+kernel) rfl ↥3 (by trivial)) (@ee _ _) ∅) ∅) (bj (bj gL)) ∅ ∅)) (λC s0 H0 fp=>(@rS _ _ _ _ (@a9 _ _ _ _ _ _ _ _ _ (@wC _ _ _ rfl hr) (¬4) (@lC _ _ _ (V.ref g_ZERO) _ _ (PyData.tuple [.int (0),.int (1)]) rfl m_ZERO rfl c_ZERO ⋯) (be _)))) (λC s0 H0 fp=>(@aG _ _ _ _ _ _ ((@aS _ _ _ _ _ _ _ _ _ _ _ _ _ _ _ Jq JR (hr.mono ⋯) ((¬0)∘((¬1)∘((¬2)∘((¬3)∘ae)))) ∅ ⋯ ∅ ∅)∘((¬4)∘ae)))) rfl ∅ ↥5))))))
def gW:FI:=(jm (af 1))
def dU:FI:=(jm (bY 3 bK (aa (af 0) (aa (af 2) (aa (af 1) aj)))))
def bx:FE:=(bf (aa (af 4) (aa (bY 2 lc (aa (af 3) (aa (af 5) aj))) aj)))
def ja:FS:=(bh (aI (g1 bN) (aa (aI (g1 bi) (aa (mz [(0,"web"),(2,"tie")] 4 gW (bC (au (aq 2) (au (aq 3) br))) jC dU (bC (au (aq 4) (au (aq 5) br))) jC bx) aj)) aj)))
def bP:FM:=gz 3 0 [] ja
theorem i3:aw ["web","layer","tie"] ["web","layer","tie"] (ao bT):=⟨rfl,rfl,rfl,by decide+kernel,rfl,by decide+kernel,by decide+kernel⟩
theorem nB(h:eQ K mg "layer_behind" bT f fd ["web","layer","tie"])(T:iq mg)(z_times:Cl P w K mg base "times" lK ["one","other"] 3 2 lc)(z_stands_next:Cl P w K mg base "stands_next" cU ["web","stand","tie"] 5 3 bK):a_ P w K mg base eW 6 f fd ["web","layer","tie"] (fZ K 3 bP):=by obtain⟨K9,K_,JX,KH⟩:=z_times;obtain⟨Kt,Ku,Jr,JY⟩:=z_stands_next;have nd:=i3.nd;exact h.fn i3 rfl rfl (λcdv A outer s H E hr=>(@am _ _ _ _ _ (@aH _ _ _ _ _ (@aT _ _ _ _ _ _ _ _ _ (@b_tuple _ _ rfl) ∅ T.b_tuple ((@aT _ _ _ _ _ _ _ _ _ (@jJ _ _ _ rfl hr) ∅ T.b_sorted ((@zK _ _ _ _ _ _ _ _ _ _ _ _ _ _ _ _ _ _ _ _ [(0,"web"),(2,"tie")] ["stand","chance","behind","share"] rfl (@fU _ _ _ _ _ rfl (¬1)) (λC s0 H0 fp=>(@gN _ _ _ _ _ _ _ _ rfl rfl (@aW _ _ _ _ _ _ _ _ (@aM _ _ _ 2 _ (show OE (["web","tie","stand","chance","behind","share"]:List Str) by decide+kernel) rfl ↥3 (by trivial)) (@aW _ _ _ _ _ _ _ _ (@aM _ _ _ 3 _ (show OE (["web","tie","stand","chance","behind","share"]:List Str) by decide+kernel) rfl ↥3 (by trivial)) (@ee _ _) ∅) ∅) (bj (bj gL)) ∅ ∅)) (λC s0 H0 fp=>(@rR _ _)) (λC s0 H0 fp=>(@fU _ _ _ _ _ rfl (@aS _ _ _ _ _ _ _ _ _ _ _ _ _ _ _ Jr JY (hr.mono ⋯) ((¬0)∘((¬2)∘((¬1)∘ae))) ∅ ⋯ ∅ ∅))) (λC s0 H0 fp=>(@gN _ _ _ _ _ _ _ _ rfl rfl (@aW _ _ _ _ _ _ _ _ (@aM _ _ _ 4 _ (show OE (["web","tie","stand","chance","behind","share"]:List Str) by decide+kernel) rfl ↥3 (by trivial)) (@aW _ _ _ _ _ _ _ _ (@aM _ _ _ 5 _ (show OE (["web","tie","stand","chance","behind","share"]:List Str) by decide+kernel) rfl ↥3 (by trivial)) (@ee _ _) ∅) ∅) (bj (bj gL)) ∅ ∅)) (λC s0 H0 fp=>(@rR _ _)) (λC s0 H0 fp=>(@aG _ _ _ _ _ _ ((¬4)∘((@aS _ _ _ _ _ _ _ _ _ _ _ _ _ _ _ JX KH (hr.mono ⋯) ((¬3)∘((¬5)∘ae)) ∅ ⋯ ∅ ∅)∘ae)))) rfl ∅ (by intro _ _ _ _ _;rfl) ↥5)∘ae) ⋯ ⋯ ∅ ∅)∘ae) ⋯ ⋯ ∅ ∅))))
def j4:FI:=(jm (af 1))
def dZ:FS:=(cT (bV ba (af 2) (aa (bY 3 bP (aa (af 0) (aa (aB cK (af 2) (ui yA (vC (.int 1)))) (aa (af 3) aj)))) aj)))
def mC:FS:=(aE (cT (bY 2 cz (aa (aI (g1 gK) (aa (af 1) aj)) (aa (vC (.int (8))) aj)))) (aE (aU 2 (cW (aa (vC (.tuple [.tuple [.tuple [.tuple [],.tuple []],.tuple [.int (1),.int (1)]]])) aj))) (aE (eN ([3]++[]) j4 (aq 3) dZ) (bh (aI (g1 bN) (aa (af 2) aj))))))
def bX:FM:=gz 2 2 ([]++([2]++(([3]++[])++[]))) mC
theorem eZ:aw ["web","order","layers","tie"] ["web","order"] (ao cE):=⟨rfl,rfl,rfl,by decide+kernel,rfl,by decide+kernel,by decide+kernel⟩
theorem rK(h:eQ K mg "layers_of" cE f fd ["web","order"])(T:iq mg)(z_refuse_above:Cl P w K mg base "refuse_above" bD ["many","most"] 1 2 cz)(z_layer_behind:Cl P w K mg base "layer_behind" bT ["web","layer","tie"] 6 3 bP){g_FIRST_LAYER:LQ}(m_FIRST_LAYER:mg "FIRST_LAYER"=some (.ref g_FIRST_LAYER))(c_FIRST_LAYER:∀F,DA K F (.tuple [.tuple [.tuple [.tuple [],.tuple []],.tuple [.int (1),.int (1)]]]) (.ref g_FIRST_LAYER)){t_MOST_TIES_OF_ORDER:Tok}(m_MOST_TIES_OF_ORDER:mg "MOST_TIES_OF_ORDER"=some (.int (8) t_MOST_TIES_OF_ORDER)):a_ P w K mg base eW 7 f fd ["web","order"] (fZ K 2 bX):=by obtain⟨Jt,Ju,Jj,JS⟩:=z_refuse_above;obtain⟨JT,JU,Jn,JB⟩:=z_layer_behind;have nd:=eZ.nd;exact h.fn eZ rfl rfl (λcdv A outer s H E hr=>(@ah _ _ _ _ _ _ _ _ (@cY _ _ _ _ _ (@aS _ _ _ _ _ _ _ _ _ _ _ _ _ _ _ Jj JS (hr.mono ⋯) ((@aT _ _ _ _ _ _ _ _ _ (@b_len _ _ rfl) ∅ T.b_len ((¬1)∘ae) ⋯ ⋯ ∅ ∅)∘((@lC _ _ _ (V.int (8)) _ _ (PyData.int (8)) rfl m_MOST_TIES_OF_ORDER ⟨_,rfl⟩ (λ_=>c_.mpr rfl) ⋯)∘ae)) ∅ ⋯ ∅ ∅) ∅) (@ah _ _ _ _ _ _ _ _ (@ax _ _ _ _ _ 2 _ _ nd rfl ↥3 (@bG _ _ _ _ _ ((@lC _ _ _ (V.ref g_FIRST_LAYER) _ _ (PyData.tuple [.tuple [.tuple [.tuple [],.tuple []],.tuple [.int (1),.int (1)]]]) rfl m_FIRST_LAYER rfl c_FIRST_LAYER ⋯)∘ae)) ∅ (by trivial)) (@ah _ _ _ _ _ _ _ _ (@fV _ _ _ _ _ _ _ _ _ _ _ NB rfl (@fU _ _ _ _ _ rfl (¬1)) (@aM _ _ _ 3 _ nd rfl ↥3 (by trivial)) (@am _ _ _ _ _ (@cY _ _ _ _ _ (@cC _ _ _ _ _ _ _ _ _ rfl (¬2) ((@aS _ _ _ _ _ _ _ _ _ _ _ _ _ _ _ Jn JB (hr.mono ⋯) ((¬0)∘((@bA _ _ _ _ _ _ _ rfl (¬2) (@CZ _ _ _ _ _ ag) ↥4)∘((¬3)∘ae))) ∅ ⋯ ∅ ∅)∘ae) ∅ ∅ ∅ ∅ ∅) ∅)) ↥5) (@am _ _ _ _ _ (@aH _ _ _ _ _ (@aT _ _ _ _ _ _ _ _ _ (@b_tuple _ _ rfl) ∅ T.b_tuple ((¬2)∘ae) ⋯ ⋯ ∅ ∅)))))))
def jk:En->Prop:=λe=>∃(ds:List LS) (e':En),(aa (aI (g1 gK) (aa (af 1) aj)) (aa (vC (.int (8))) aj)) e=some (ds.map Rv.d,e')/\ds.length=2/\fM ((ds.map Sv.d).map some++Mh 0 none)
theorem pH(h:eQ K mg "layers_of" cE f fd ["web","order"])(T:iq mg)(z_layer_behind:Cl P w K mg base "layer_behind" bT ["web","layer","tie"] 6 3 bP){g_FIRST_LAYER:LQ}(m_FIRST_LAYER:mg "FIRST_LAYER"=some (.ref g_FIRST_LAYER))(c_FIRST_LAYER:∀F,DA K F (.tuple [.tuple [.tuple [.tuple [],.tuple []],.tuple [.int (1),.int (1)]]]) (.ref g_FIRST_LAYER)){t_MOST_TIES_OF_ORDER:Tok}(m_MOST_TIES_OF_ORDER:mg "MOST_TIES_OF_ORDER"=some (.int (8) t_MOST_TIES_OF_ORDER)){C:LQ}{Jt:LQ}{Ju:Mw}(Jj:eQ K mg "refuse_above" bD Jt Ju ["many","most"])(R_refuse_above:a_ P w K mg base (nU P w C) 1 Jt Ju ["many","most"] (Ax K 2 0 fM)):a_ P w K mg base (nU P w C) 7 f fd ["web","order"] (Ax K 2 2 jk):=by have nd:=eZ.nd;obtain⟨JT,JU,Jn,JB⟩:=z_layer_behind;exact h.fnR eZ rfl rfl (λcdv A outer s H E hr=>(EF (BS Jj R_refuse_above (hr.mono ⋯) rfl ((@aT _ _ _ _ _ _ _ _ _ (@b_len _ _ rfl) ∅ T.b_len ((¬1)∘ae) ⋯ ⋯ ∅ ∅)∘((@lC _ _ _ (V.int (8)) _ _ (PyData.int (8)) rfl m_MOST_TIES_OF_ORDER ⟨_,rfl⟩ (λ_=>c_.mpr rfl) ⋯)∘ae)))))
def vq:FS:=(aE (aU 2 (aB a7 (aB cQ (aB cQ (aB fJ (aB a7 (af 0) (vC (.int 2147483647))) (vC (.int 48271))) (aB fJ (aB fJ (vC (.int 7919)) (af 1)) (af 1))) (vC (.int 104729))) (vC (.int 2147483647)))) (bh (aB a7 (aB fJ (af 2) (af 2)) (vC (.int 2147483629)))))
def jP:FM:=gz 2 1 ([2]++[]) vq
theorem tU:aw ["_law_cell","_law_k","_law_number"] ["_law_cell","_law_k"] (ao lG):=⟨rfl,rfl,rfl,by decide+kernel,rfl,by decide+kernel,by decide+kernel⟩
theorem y'(h:eQ K mg "_law_mixed" lG f fd ["_law_cell","_law_k"])(T:iq mg):a_ P w K mg base eW 1 f fd ["_law_cell","_law_k"] (fZ K 2 jP):=by have nd:=tU.nd;exact h.fn tU rfl rfl (λcdv A outer s H E hr=>(@ah _ _ _ _ _ _ _ _ (@ax _ _ _ _ _ 2 _ _ nd rfl ↥3 (@aV _ _ _ _ _ _ _ (@cB _ _ _ _ _ _ _ rfl (@cB _ _ _ _ _ _ _ rfl (@js _ _ _ _ _ _ _ rfl (@aV _ _ _ _ _ _ _ (¬0) ag) ag) (@js _ _ _ _ _ _ _ rfl (@js _ _ _ _ _ _ _ rfl ag (¬1)) (¬1))) ag) ag) ∅ (by trivial)) (@am _ _ _ _ _ (@aH _ _ _ _ _ (@aV _ _ _ _ _ _ _ (@js _ _ _ _ _ _ _ rfl (¬2) (¬2)) ag)))))
def fj:FT:=(my (aO (aB CG (af 3) (aB uD (vC (.int 10)) (vC (.int 18))))) (aO (aB AR (aI (g1 gK) (aa (af 1) aj)) (vC (.int 900)))))
def jH:FS:=(aE (cT (bV ba (af 1) (aa (aB a7 (af 3) (vC (.int 2147483629))) aj))) (aU 3 (aB er (af 3) (vC (.int 2147483629)))))
def jL:FI:=(ed (aa (vC (.int 12)) aj))
def gQ:FS:=(cT (bV ba (af 1) (aa (bY 2 jP (aa (bY 2 jP (aa (af 3) (aa (aB cQ (aB fJ (vC (.int 3)) (af 4)) (vC (.int 1))) aj))) (aa (aB cQ (aB cQ (af 4) (af 2)) (vC (.int 2))) aj))) aj)))
def l6:FI:=(ed (aa (aI (g2 yx) (aa (aI (g1 gK) (aa (af 0) aj)) (aa (vC (.int 63)) aj))) aj))
def ff:FS:=(aE (aU 3 (aI (g1 uC) (aa (aB cK (af 0) (af 2)) aj))) (aE (i0 (aO (aB AR (af 3) (aB uD (vC (.int 10)) (vC (.int 18))))) (eN ([4]++[]) jL (aq 4) gQ) de) (aE (iR (2^4200) fj jH) (i0 (aO (aB CG (af 3) (vC (.int 2147483629)))) (cT (bV ba (af 1) (aa (aB a7 (af 3) (vC (.int 2147483629))) aj))) de))))
def vo:FS:=(aE (aU 1 (cW aj)) (aE (eN ([2]++([3]++((([4]++[])++[])++(([]++[3])++([]++[]))))) l6 (aq 2) ff) (bh (af 1))))
def kZ:FM:=gz 1 4 ([1]++(([2]++([3]++((([4]++[])++[])++(([]++[3])++([]++[])))))++[])) vo
theorem tT:aw ["_law_script","_law_drawn","_law_k","_law_cell","_law_j"] ["_law_script"] (ao lF):=⟨rfl,rfl,rfl,by decide+kernel,rfl,by decide+kernel,by decide+kernel⟩
theorem y_(h:eQ K mg "_law_draws" lF f fd ["_law_script"])(T:iq mg)(zLmixed:Cl P w K mg base "_law_mixed" lG ["_law_cell","_law_k"] 1 2 jP):a_ P w K mg base eW 2 f fd ["_law_script"] (fZ K 1 kZ):=by obtain⟨K',La,JO,Kk⟩:=zLmixed;have nd:=tT.nd;exact h.fn tT rfl rfl (λcdv A outer s H E hr=>(@ah _ _ _ _ _ _ _ _ (@ax _ _ _ _ _ 1 _ _ nd rfl ↥3 (@bG _ _ _ _ _ ae) ∅ (by trivial)) (@ah _ _ _ _ _ _ _ _ (@fV _ _ _ _ _ _ _ _ _ _ _ NB rfl (@fx _ _ _ _ _ _ _ rfl T.b_range ((@aT _ _ _ _ _ _ _ _ _ (@b_min _ _ rfl) ∅ T.b_min ((@aT _ _ _ _ _ _ _ _ _ (@b_len _ _ rfl) ∅ T.b_len ((¬0)∘ae) ⋯ ⋯ ∅ ∅)∘(ag∘ae)) ⋯ ⋯ ∅ ∅)∘ae) ∅) (@aM _ _ _ 2 _ nd rfl ↥3 (by trivial)) (@ah _ _ _ _ _ _ _ _ (@ax _ _ _ _ _ 3 _ _ nd rfl ↥3 (@aT _ _ _ _ _ _ _ _ _ (@b_abs _ _) ∅ T.b_abs ((@bA _ _ _ _ _ _ _ rfl (¬0) (¬2) ↥4)∘ae) ⋯ ⋯ ∅ ∅) ∅ (by trivial)) (@ah _ _ _ _ _ _ _ _ (@cD _ _ _ _ _ _ _ _ _ _ _ (@a9 _ _ _ _ _ _ _ _ _ (@yc _ _) (¬3) (@C0 _ _ _ _ _ _ _ ag ag) (be _)) (@am _ _ _ _ _ (@fV _ _ _ _ _ _ _ _ _ _ _ NB rfl (@fx _ _ _ _ _ _ _ rfl T.b_range (ag∘ae) ∅) (@aM _ _ _ 4 _ nd rfl ↥3 (by trivial)) (@am _ _ _ _ _ (@cY _ _ _ _ _ (@cC _ _ _ _ _ _ _ _ _ rfl (¬1) ((@aS _ _ _ _ _ _ _ _ _ _ _ _ _ _ _ JO Kk (hr.mono ⋯) ((@aS _ _ _ _ _ _ _ _ _ _ _ _ _ _ _ JO Kk (hr.mono ⋯) ((¬3)∘((@cB _ _ _ _ _ _ _ rfl (@js _ _ _ _ _ _ _ rfl ag (¬4)) ag)∘ae)) ∅ ⋯ ∅ ∅)∘((@cB _ _ _ _ _ _ _ rfl (@cB _ _ _ _ _ _ _ rfl (¬4) (¬2)) ag)∘ae)) ∅ ⋯ ∅ ∅)∘ae) ∅ ∅ ∅ ∅ ∅) ∅)) ↥5)) (@bg _ _)) (@ah _ _ _ _ _ _ _ _ (@lD _ _ _ _ _ _ _ _ _ NB (@u7 _ _ _ _ (@zO _ _ _ _ _ _ _ _ (@a9 _ _ _ _ _ _ _ _ _ (@x_ _ _) (¬3) (@C0 _ _ _ _ _ _ _ ag ag) (be _)) (@vV _ _ _ _ _ (@a9 _ _ _ _ _ _ _ _ _ (@yc _ _) (@aT _ _ _ _ _ _ _ _ _ (@b_len _ _ rfl) ∅ T.b_len ((¬1)∘ae) ⋯ ⋯ ∅ ∅) ag (be _))))) (@ah _ _ _ _ _ _ _ _ (@cY _ _ _ _ _ (@cC _ _ _ _ _ _ _ _ _ rfl (¬1) ((@aV _ _ _ _ _ _ _ (¬3) ag)∘ae) ∅ ∅ ∅ ∅ ∅) ∅) (@am _ _ _ _ _ (@ax _ _ _ _ _ 3 _ _ nd rfl ↥3 (@gM _ _ _ _ _ _ _ (¬3) ag) ∅ (by trivial))))) (@am _ _ _ _ _ (@cD _ _ _ _ _ _ _ _ _ _ _ (@a9 _ _ _ _ _ _ _ _ _ (@x_ _ _) (¬3) ag (be _)) (@am _ _ _ _ _ (@cY _ _ _ _ _ (@cC _ _ _ _ _ _ _ _ _ rfl (¬1) ((@aV _ _ _ _ _ _ _ (¬3) ag)∘ae) ∅ ∅ ∅ ∅ ∅) ∅)) (@bg _ _)))))) ↥5) (@am _ _ _ _ _ (@aH _ _ _ _ _ (¬1))))))
def uu:FS:=(aE (i0 (aO (aB (cS false) (af 0) (cW aj))) (bh (vC (.int 0))) de) (bh (bV dI (af 0) (aa (vC (.int 0)) aj))))
def aY:FM:=gz 1 0 (([]++[])++[]) uu
theorem wa:aw ["_law_drawn"] ["_law_drawn"] (ao gO):=⟨rfl,rfl,rfl,by decide+kernel,rfl,by decide+kernel,by decide+kernel⟩
theorem Bg(h:eQ K mg "_law_next" gO f fd ["_law_drawn"])(T:iq mg):a_ P w K mg base eW 1 f fd ["_law_drawn"] (fZ K 1 aY):=by have nd:=wa.nd;exact h.fn wa rfl rfl (λcdv A outer s H E hr=>(@ah _ _ _ _ _ _ _ _ (@cD _ _ _ _ _ _ _ _ _ _ _ (@a9 _ _ _ _ _ _ _ _ _ (@uv _ _ _ rfl hr) (¬0) (@bG _ _ _ _ _ ae) (be _)) (@am _ _ _ _ _ (@aH _ _ _ _ _ ag)) (@bg _ _)) (@am _ _ _ _ _ (@aH _ _ _ _ _ (@rQ _ _ _ _ _ _ _ _ _ rfl (¬0) (ag∘ae) ∅ ∅ ∅ ∅ ∅)))))
def kG:FT:=(aO (aB (cS true) (af 1) (vC (.int 0))))
def nH:FS:=(nF 0 1 (aa (af 1) (aa (aB a7 (af 0) (af 1)) aj)))
def Ct:FS:=(aE (iR (2^4200) kG nH) (bh (aI (g1 uC) (aa (af 0) aj))))
def tw:FM:=gz 2 0 ([0,1]++[]) Ct
theorem z4:aw ["_law_one","_law_other"] ["_law_one","_law_other"] (ao tQ):=⟨rfl,rfl,rfl,by decide+kernel,rfl,by decide+kernel,by decide+kernel⟩
theorem DX(h:eQ K mg "_law_gcd" tQ f fd ["_law_one","_law_other"])(T:iq mg):a_ P w K mg base eW 1 f fd ["_law_one","_law_other"] (fZ K 2 tw):=by have nd:=z4.nd;exact h.fn z4 rfl rfl (λcdv A outer s H E hr=>(@ah _ _ _ _ _ _ _ _ (@lD _ _ _ _ _ _ _ _ _ NB (@a9 _ _ _ _ _ _ _ _ _ (@wC _ _ _ rfl hr) (¬1) ag (be _)) (@am _ _ _ _ _ (@zN _ _ _ _ _ 0 1 _ _ _ _ _ _ _ _ _ rfl nd rfl rfl ⋯ rfl rfl ((¬1)∘((@aV _ _ _ _ _ _ _ (¬0) (¬1))∘ae)) ∅ ∅))) (@am _ _ _ _ _ (@aH _ _ _ _ _ (@aT _ _ _ _ _ _ _ _ _ (@b_abs _ _) ∅ T.b_abs ((¬0)∘ae) ⋯ ⋯ ∅ ∅)))))
def Cu:FS:=(aE (aU 2 (bY 2 tw (aa (af 0) (aa (af 1) aj)))) (bh (bf (aa (aB er (af 0) (af 2)) (aa (aB er (af 1) (af 2)) aj)))))
def m6:FM:=gz 2 1 ([2]++[]) Cu
theorem z5:aw ["_law_top","_law_bottom","_law_common"] ["_law_top","_law_bottom"] (ao qi):=⟨rfl,rfl,rfl,by decide+kernel,rfl,by decide+kernel,by decide+kernel⟩
theorem DY(h:eQ K mg "_law_low" qi f fd ["_law_top","_law_bottom"])(T:iq mg)(zLgcd:Cl P w K mg base "_law_gcd" tQ ["_law_one","_law_other"] 1 2 tw):a_ P w K mg base eW 2 f fd ["_law_top","_law_bottom"] (fZ K 2 m6):=by obtain⟨LA,LB,Kv,Lb⟩:=zLgcd;have nd:=z5.nd;exact h.fn z5 rfl rfl (λcdv A outer s H E hr=>(@ah _ _ _ _ _ _ _ _ (@ax _ _ _ _ _ 2 _ _ nd rfl ↥3 (@aS _ _ _ _ _ _ _ _ _ _ _ _ _ _ _ Kv Lb (hr.mono ⋯) ((¬0)∘((¬1)∘ae)) ∅ ⋯ ∅ ∅) ∅ (by trivial)) (@am _ _ _ _ _ (@aH _ _ _ _ _ (@aG _ _ _ _ _ _ ((@gM _ _ _ _ _ _ _ (¬0) (¬2))∘((@gM _ _ _ _ _ _ _ (¬1) (¬2))∘ae)))))))
def vw:FS:=(bh (bY 2 m6 (aa (aB fJ (aB cK (af 0) (vC (.int 0))) (aB cK (af 1) (vC (.int 0)))) (aa (aB fJ (aB cK (af 0) (vC (.int 1))) (aB cK (af 1) (vC (.int 1)))) aj))))
def k9:FM:=gz 2 0 [] vw
theorem tW:aw ["_law_one","_law_other"] ["_law_one","_law_other"] (ao lI):=⟨rfl,rfl,rfl,by decide+kernel,rfl,by decide+kernel,by decide+kernel⟩
theorem zb(h:eQ K mg "_law_times" lI f fd ["_law_one","_law_other"])(T:iq mg)(zLlow:Cl P w K mg base "_law_low" qi ["_law_top","_law_bottom"] 2 2 m6):a_ P w K mg base eW 3 f fd ["_law_one","_law_other"] (fZ K 2 k9):=by obtain⟨Lc,Ld,Ka,Kw⟩:=zLlow;have nd:=tW.nd;exact h.fn tW rfl rfl (λcdv A outer s H E hr=>(@am _ _ _ _ _ (@aH _ _ _ _ _ (@aS _ _ _ _ _ _ _ _ _ _ _ _ _ _ _ Ka Kw (hr.mono ⋯) ((@js _ _ _ _ _ _ _ rfl (@bA _ _ _ _ _ _ _ rfl (¬0) ag ↥4) (@bA _ _ _ _ _ _ _ rfl (¬1) ag ↥4))∘((@js _ _ _ _ _ _ _ rfl (@bA _ _ _ _ _ _ _ rfl (¬0) ag ↥4) (@bA _ _ _ _ _ _ _ rfl (¬1) ag ↥4))∘ae)) ∅ ⋯ ∅ ∅))))
def xZ:FS:=(bh (bf (aa (aB iD (aB cK (af 0) (vC (.int 1))) (aB cK (af 0) (vC (.int 0)))) (aa (aB cK (af 0) (vC (.int 1))) aj))))
def oA:FM:=gz 1 0 [] xZ
theorem wb:aw ["_law_one"] ["_law_one"] (ao oS):=⟨rfl,rfl,rfl,by decide+kernel,rfl,by decide+kernel,by decide+kernel⟩
theorem Bh(h:eQ K mg "_law_rest" oS f fd ["_law_one"])(T:iq mg):a_ P w K mg base eW 1 f fd ["_law_one"] (fZ K 1 oA):=by have nd:=wb.nd;exact h.fn wb rfl rfl (λcdv A outer s H E hr=>(@am _ _ _ _ _ (@aH _ _ _ _ _ (@aG _ _ _ _ _ _ ((@qg _ _ _ _ _ _ _ (@bA _ _ _ _ _ _ _ rfl (¬0) ag ↥4) (@bA _ _ _ _ _ _ _ rfl (¬0) ag ↥4))∘((@bA _ _ _ _ _ _ _ rfl (¬0) ag ↥4)∘ae))))))
def x4:FS:=(bh (aB (cS false) (aI (g1 mW) (aa (af 0) aj)) (aI (g1 mW) (aa (af 1) aj))))
def iK:FM:=gz 2 0 [] x4
theorem wc:aw ["_law_found","_law_due"] ["_law_found","_law_due"] (ao oT):=⟨rfl,rfl,rfl,by decide+kernel,rfl,by decide+kernel,by decide+kernel⟩
theorem Bi(h:eQ K mg "_law_same" oT f fd ["_law_found","_law_due"])(T:iq mg):a_ P w K mg base eW 1 f fd ["_law_found","_law_due"] (fZ K 2 iK):=by have nd:=wc.nd;exact h.fn wc rfl rfl (λcdv A outer s H E hr=>(@am _ _ _ _ _ (@aH _ _ _ _ _ (@vU _ _ _ _ _ _ _ _ _ (@uv _ _ _ rfl hr) (@aT _ _ _ _ _ _ _ _ _ (@b_repr _ _ _ rfl hr) ∅ T.b_repr ((¬0)∘ae) ⋯ ⋯ ∅ ∅) (@aT _ _ _ _ _ _ _ _ _ (@b_repr _ _ _ rfl hr) ∅ T.b_repr ((¬1)∘ae) ⋯ ⋯ ∅ ∅) (be _)))))
def i_:FS:=(aE (i0 (aO (aB (cS false) (af 1) (vC (.int 0)))) (bh (aB cK (cW (aa (bf (aa (vC (.int 1)) (aa (vC (.int 2)) aj))) (aa (bf (aa (vC (.int 1)) (aa (vC (.int 3)) aj))) (aa (bf (aa (vC (.int 2)) (aa (vC (.int 3)) aj))) (aa (bf (aa (vC (.int 1)) (aa (vC (.int 1)) aj))) (aa (bf (aa (vC (.int 0)) (aa (vC (.int 1)) aj))) (aa (bf (aa (vC (.int 3)) (aa (vC (.int 4)) aj))) aj))))))) (aB a7 (af 0) (vC (.int 6))))) de) (aE (i0 (aO (aB (cS false) (af 1) (vC (.int 1)))) (aE (aU 2 (aB cQ (vC (.int 2)) (aB a7 (af 0) (vC (.int 9))))) (bh (bY 2 m6 (aa (aB cQ (vC (.int 1)) (aB a7 (aB er (af 0) (vC (.int 9))) (aB iD (af 2) (vC (.int 1))))) (aa (af 2) aj))))) de) (aE (i0 (aO (aB (cS false) (af 1) (vC (.int 2)))) (aE (aU 2 (aB cQ (vC (.int 1)) (aB a7 (af 0) (vC (.int 100))))) (bh (bY 2 m6 (aa (aB a7 (aB er (af 0) (vC (.int 100))) (aB cQ (af 2) (vC (.int 1)))) (aa (af 2) aj))))) de) (bh (bf (aa (vC (.int 1)) (aa (vC (.int 1)) aj)))))))
def eK:FM:=gz 2 1 (([]++[])++((([2]++[])++[])++((([2]++[])++[])++[]))) i_
theorem qk:aw ["_law_number","_law_kind","_law_bottom"] ["_law_number","_law_kind"] (ao jv):=⟨rfl,rfl,rfl,by decide+kernel,rfl,by decide+kernel,by decide+kernel⟩
theorem xj(h:eQ K mg "_law_chance" jv f fd ["_law_number","_law_kind"])(T:iq mg)(zLlow:Cl P w K mg base "_law_low" qi ["_law_top","_law_bottom"] 2 2 m6):a_ P w K mg base eW 3 f fd ["_law_number","_law_kind"] (fZ K 2 eK):=by obtain⟨Lc,Ld,Ka,Kw⟩:=zLlow;have nd:=qk.nd;exact h.fn qk rfl rfl (λcdv A outer s H E hr=>(@ah _ _ _ _ _ _ _ _ (@cD _ _ _ _ _ _ _ _ _ _ _ (@a9 _ _ _ _ _ _ _ _ _ (@uv _ _ _ rfl hr) (¬1) ag (be _)) (@am _ _ _ _ _ (@aH _ _ _ _ _ (@bA _ _ _ _ _ _ _ rfl (@bG _ _ _ _ _ ((@aG _ _ _ _ _ _ (ag∘(ag∘ae)))∘((@aG _ _ _ _ _ _ (ag∘(ag∘ae)))∘((@aG _ _ _ _ _ _ (ag∘(ag∘ae)))∘((@aG _ _ _ _ _ _ (ag∘(ag∘ae)))∘((@aG _ _ _ _ _ _ (ag∘(ag∘ae)))∘((@aG _ _ _ _ _ _ (ag∘(ag∘ae)))∘ae))))))) (@aV _ _ _ _ _ _ _ (¬0) ag) ↥4))) (@bg _ _)) (@ah _ _ _ _ _ _ _ _ (@cD _ _ _ _ _ _ _ _ _ _ _ (@a9 _ _ _ _ _ _ _ _ _ (@uv _ _ _ rfl hr) (¬1) ag (be _)) (@ah _ _ _ _ _ _ _ _ (@ax _ _ _ _ _ 2 _ _ nd rfl ↥3 (@cB _ _ _ _ _ _ _ rfl ag (@aV _ _ _ _ _ _ _ (¬0) ag)) ∅ (by trivial)) (@am _ _ _ _ _ (@aH _ _ _ _ _ (@aS _ _ _ _ _ _ _ _ _ _ _ _ _ _ _ Ka Kw (hr.mono ⋯) ((@cB _ _ _ _ _ _ _ rfl ag (@aV _ _ _ _ _ _ _ (@gM _ _ _ _ _ _ _ (¬0) ag) (@qg _ _ _ _ _ _ _ (¬2) ag)))∘((¬2)∘ae)) ∅ ⋯ ∅ ∅)))) (@bg _ _)) (@ah _ _ _ _ _ _ _ _ (@cD _ _ _ _ _ _ _ _ _ _ _ (@a9 _ _ _ _ _ _ _ _ _ (@uv _ _ _ rfl hr) (¬1) ag (be _)) (@ah _ _ _ _ _ _ _ _ (@ax _ _ _ _ _ 2 _ _ nd rfl ↥3 (@cB _ _ _ _ _ _ _ rfl ag (@aV _ _ _ _ _ _ _ (¬0) ag)) ∅ (by trivial)) (@am _ _ _ _ _ (@aH _ _ _ _ _ (@aS _ _ _ _ _ _ _ _ _ _ _ _ _ _ _ Ka Kw (hr.mono ⋯) ((@aV _ _ _ _ _ _ _ (@gM _ _ _ _ _ _ _ (¬0) ag) (@cB _ _ _ _ _ _ _ rfl (¬2) ag))∘((¬2)∘ae)) ∅ ⋯ ∅ ∅)))) (@bg _ _)) (@am _ _ _ _ _ (@aH _ _ _ _ _ (@aG _ _ _ _ _ _ (ag∘(ag∘ae)))))))))
def vx:FS:=(bh (aB cK (cW (aa (aB a7 (af 0) (vC (.int 7))) (aa (aB cQ (vC (.int 5)) (aB a7 (af 0) (vC (.int 2)))) (aa (aB a7 (af 0) (vC (.int 1001))) (aa (aB iD (vC (.int 1000)) (aB a7 (af 0) (vC (.int 3)))) aj))))) (aB a7 (af 1) (vC (.int 4)))))
def k_:FM:=gz 2 0 [] vx
theorem tX:aw ["_law_number","_law_kind"] ["_law_number","_law_kind"] (ao lJ):=⟨rfl,rfl,rfl,by decide+kernel,rfl,by decide+kernel,by decide+kernel⟩
theorem zc(h:eQ K mg "_law_worth" lJ f fd ["_law_number","_law_kind"])(T:iq mg):a_ P w K mg base eW 1 f fd ["_law_number","_law_kind"] (fZ K 2 k_):=by have nd:=tX.nd;exact h.fn tX rfl rfl (λcdv A outer s H E hr=>(@am _ _ _ _ _ (@aH _ _ _ _ _ (@bA _ _ _ _ _ _ _ rfl (@bG _ _ _ _ _ ((@aV _ _ _ _ _ _ _ (¬0) ag)∘((@cB _ _ _ _ _ _ _ rfl ag (@aV _ _ _ _ _ _ _ (¬0) ag))∘((@aV _ _ _ _ _ _ _ (¬0) ag)∘((@qg _ _ _ _ _ _ _ ag (@aV _ _ _ _ _ _ _ (¬0) ag))∘ae))))) (@aV _ _ _ _ _ _ _ (¬1) ag) ↥4))))
def oq:FI:=(ed (aa (af 2) aj))
def gR:FS:=(aE (aU 8 (bY 1 aY (aa (af 0) aj))) (aE (aU 9 (aB cK (cW (aa (aB a7 (af 8) (af 1)) (aa (vC (.int 0)) (aa (aB a7 (af 7) (af 1)) (aa (aB a7 (af 8) (af 1)) (aa (aB a7 (af 8) (vC (.int 2))) (aa (aB a7 (af 8) (af 1)) aj))))))) (af 3))) (aE (aU 10 (aB a7 (aB cQ (aB cQ (af 9) (vC (.int 1))) (aB a7 (aB er (af 8) (vC (.int 12))) (aB iD (af 1) (vC (.int 1))))) (af 1))) (aE (i0 (aO (aB (cS false) (af 3) (vC (.int 4)))) (kj (bf (aa (vC (.int 0)) (aa (vC (.int 1)) aj))) (bC (au (aq 9) (au (aq 10) br)))) de) (aE (aU 11 (bY 1 aY (aa (af 0) aj))) (aE (aU 12 (bf (aa (aI (g2 yx) (aa (af 9) (aa (af 10) aj))) (aa (aI (g2 wQ) (aa (af 9) (aa (af 10) aj))) aj)))) (cT (bV ba (af 6) (aa (aB cQ (af 12) (bf (aa (bY 2 eK (aa (af 11) (aa (af 4) aj))) (aa (bY 2 k_ (aa (aB er (af 11) (vC (.int 10007))) (aa (af 5) aj))) aj)))) aj)))))))))
def x5:FS:=(aE (aU 3 (aB a7 (bY 1 aY (aa (af 0) aj)) (vC (.int 6)))) (aE (aU 4 (aB a7 (bY 1 aY (aa (af 0) aj)) (vC (.int 4)))) (aE (aU 5 (aB a7 (bY 1 aY (aa (af 0) aj)) (vC (.int 4)))) (aE (aU 6 (cW aj)) (aE (eN ([7]++([8]++([9]++([10]++((([9]++([10]++[]))++[])++([11]++([12]++[]))))))) oq (aq 7) gR) (bh (aI (g1 bN) (aa (af 6) aj))))))))
def kd:FM:=gz 3 10 ([3]++([4]++([5]++([6]++(([7]++([8]++([9]++([10]++((([9]++([10]++[]))++[])++([11]++([12]++[])))))))++[]))))) x5
theorem wd:aw ["_law_drawn","_law_things","_law_many","_law_shape","_law_odds","_law_worths","_law_found","_law_k","_law_number","_law_one","_law_other","_law_cell","_law_ends"] ["_law_drawn","_law_things","_law_many"] (ao mv):=⟨rfl,rfl,rfl,by decide+kernel,rfl,by decide+kernel,by decide+kernel⟩
theorem Bj(h:eQ K mg "_law_ties" mv f fd ["_law_drawn","_law_things","_law_many"])(T:iq mg)(zLnext:Cl P w K mg base "_law_next" gO ["_law_drawn"] 1 1 aY)(zLchance:Cl P w K mg base "_law_chance" jv ["_law_number","_law_kind"] 3 2 eK)(zLworth:Cl P w K mg base "_law_worth" lJ ["_law_number","_law_kind"] 1 2 k_):a_ P w K mg base eW 4 f fd ["_law_drawn","_law_things","_law_many"] (fZ K 3 kd):=by obtain⟨J4,J5,Jk,Jl⟩:=zLnext;obtain⟨K3,K4,JK,Kx⟩:=zLchance;obtain⟨Le,Lf,JZ,KI⟩:=zLworth;have nd:=wd.nd;exact h.fn wd rfl rfl (λcdv A outer s H E hr=>(@ah _ _ _ _ _ _ _ _ (@ax _ _ _ _ _ 3 _ _ nd rfl ↥3 (@aV _ _ _ _ _ _ _ (@aS _ _ _ _ _ _ _ _ _ _ _ _ _ _ _ Jk Jl (hr.mono ⋯) ((¬0)∘ae) ∅ ⋯ ∅ ∅) ag) ∅ (by trivial)) (@ah _ _ _ _ _ _ _ _ (@ax _ _ _ _ _ 4 _ _ nd rfl ↥3 (@aV _ _ _ _ _ _ _ (@aS _ _ _ _ _ _ _ _ _ _ _ _ _ _ _ Jk Jl (hr.mono ⋯) ((¬0)∘ae) ∅ ⋯ ∅ ∅) ag) ∅ (by trivial)) (@ah _ _ _ _ _ _ _ _ (@ax _ _ _ _ _ 5 _ _ nd rfl ↥3 (@aV _ _ _ _ _ _ _ (@aS _ _ _ _ _ _ _ _ _ _ _ _ _ _ _ Jk Jl (hr.mono ⋯) ((¬0)∘ae) ∅ ⋯ ∅ ∅) ag) ∅ (by trivial)) (@ah _ _ _ _ _ _ _ _ (@ax _ _ _ _ _ 6 _ _ nd rfl ↥3 (@bG _ _ _ _ _ ae) ∅ (by trivial)) (@ah _ _ _ _ _ _ _ _ (@fV _ _ _ _ _ _ _ _ _ _ _ NB rfl (@fx _ _ _ _ _ _ _ rfl T.b_range ((¬2)∘ae) ∅) (@aM _ _ _ 7 _ nd rfl ↥3 (by trivial)) (@ah _ _ _ _ _ _ _ _ (@ax _ _ _ _ _ 8 _ _ nd rfl ↥3 (@aS _ _ _ _ _ _ _ _ _ _ _ _ _ _ _ Jk Jl (hr.mono ⋯) ((¬0)∘ae) ∅ ⋯ ∅ ∅) ∅ (by trivial)) (@ah _ _ _ _ _ _ _ _ (@ax _ _ _ _ _ 9 _ _ nd rfl ↥3 (@bA _ _ _ _ _ _ _ rfl (@bG _ _ _ _ _ ((@aV _ _ _ _ _ _ _ (¬8) (¬1))∘(ag∘((@aV _ _ _ _ _ _ _ (¬7) (¬1))∘((@aV _ _ _ _ _ _ _ (¬8) (¬1))∘((@aV _ _ _ _ _ _ _ (¬8) ag)∘((@aV _ _ _ _ _ _ _ (¬8) (¬1))∘ae))))))) (¬3) ↥4) ∅ (by trivial)) (@ah _ _ _ _ _ _ _ _ (@ax _ _ _ _ _ 10 _ _ nd rfl ↥3 (@aV _ _ _ _ _ _ _ (@cB _ _ _ _ _ _ _ rfl (@cB _ _ _ _ _ _ _ rfl (¬9) ag) (@aV _ _ _ _ _ _ _ (@gM _ _ _ _ _ _ _ (¬8) ag) (@qg _ _ _ _ _ _ _ (¬1) ag))) (¬1)) ∅ (by trivial)) (@ah _ _ _ _ _ _ _ _ (@cD _ _ _ _ _ _ _ _ _ _ _ (@a9 _ _ _ _ _ _ _ _ _ (@uv _ _ _ rfl hr) (¬3) ag (be _)) (@am _ _ _ _ _ (@oM _ _ _ _ _ _ _ _ (@aG _ _ _ _ _ _ (ag∘(ag∘ae))) (@gN _ _ _ _ _ _ _ _ rfl rfl (@aW _ _ _ _ _ _ _ _ (@aM _ _ _ 9 _ nd rfl ↥3 (by trivial)) (@aW _ _ _ _ _ _ _ _ (@aM _ _ _ 10 _ nd rfl ↥3 (by trivial)) (@ee _ _) ∅) ∅) (bj (bj gL)) ∅ ∅) ∅ ∅ ∅)) (@bg _ _)) (@ah _ _ _ _ _ _ _ _ (@ax _ _ _ _ _ 11 _ _ nd rfl ↥3 (@aS _ _ _ _ _ _ _ _ _ _ _ _ _ _ _ Jk Jl (hr.mono ⋯) ((¬0)∘ae) ∅ ⋯ ∅ ∅) ∅ (by trivial)) (@ah _ _ _ _ _ _ _ _ (@ax _ _ _ _ _ 12 _ _ nd rfl ↥3 (@aG _ _ _ _ _ _ ((@aT _ _ _ _ _ _ _ _ _ (@b_min _ _ rfl) ∅ T.b_min ((¬9)∘((¬10)∘ae)) ⋯ ⋯ ∅ ∅)∘((@aT _ _ _ _ _ _ _ _ _ (@b_max _ _ rfl) ∅ T.b_max ((¬9)∘((¬10)∘ae)) ⋯ ⋯ ∅ ∅)∘ae))) ∅ (by trivial)) (@am _ _ _ _ _ (@cY _ _ _ _ _ (@cC _ _ _ _ _ _ _ _ _ rfl (¬6) ((@cB _ _ _ _ _ _ _ rfl (¬12) (@aG _ _ _ _ _ _ ((@aS _ _ _ _ _ _ _ _ _ _ _ _ _ _ _ JK Kx (hr.mono ⋯) ((¬11)∘((¬4)∘ae)) ∅ ⋯ ∅ ∅)∘((@aS _ _ _ _ _ _ _ _ _ _ _ _ _ _ _ JZ KI (hr.mono ⋯) ((@gM _ _ _ _ _ _ _ (¬11) ag)∘((¬5)∘ae)) ∅ ⋯ ∅ ∅)∘ae))))∘ae) ∅ ∅ ∅ ∅ ∅) ∅)))))))) ↥5) (@am _ _ _ _ _ (@aH _ _ _ _ _ (@aT _ _ _ _ _ _ _ _ _ (@b_tuple _ _ rfl) ∅ T.b_tuple ((¬6)∘ae) ⋯ ⋯ ∅ ∅)))))))))
def rh:FI:=(ed (aa (af 3) aj))
def nI:FS:=(cT (bV ba (af 7) (aa (aB cK (cW (aa (vC (.int 20)) (aa (aB cQ (vC (.int 1)) (aB a7 (bY 1 aY (aa (af 0) aj)) (vC (.int 3)))) (aa (aB a7 (bY 1 aY (aa (af 0) aj)) (vC (.int 21))) aj)))) (af 6)) aj)))
def Cv:FS:=(aE (aU 3 (aB a7 (bY 1 aY (aa (af 0) aj)) (aB cQ (af 1) (vC (.int 1))))) (aE (aU 4 (aB fJ (aB a7 (bY 1 aY (aa (af 0) aj)) (aB cQ (af 2) (vC (.int 1)))) (aI (g1 wO) (aa (aB Dw (af 3) (vC (.int 1))) aj)))) (aE (aU 5 (bY 3 kd (aa (af 0) (aa (aI (g2 wQ) (aa (vC (.int 2)) (aa (af 3) aj))) (aa (af 4) aj))))) (aE (aU 6 (aB a7 (bY 1 aY (aa (af 0) aj)) (vC (.int 3)))) (aE (aU 7 (cW aj)) (aE (eN ([8]++[]) rh (aq 8) nI) (aE (aU 9 (aB cK (cW (aa (vC (.int 40)) (aa (aB cQ (vC (.int 1)) (aB a7 (bY 1 aY (aa (af 0) aj)) (aI (g2 wQ) (aa (vC (.int 1)) (aa (af 4) aj))))) (aa (aB a7 (bY 1 aY (aa (af 0) aj)) (vC (.int 41))) aj)))) (aB a7 (bY 1 aY (aa (af 0) aj)) (vC (.int 3))))) (bh (bf (aa (af 3) (aa (af 5) (aa (aI (g1 bN) (aa (af 7) aj)) (aa (af 9) aj)))))))))))))
def tD:FM:=gz 3 7 ([3]++([4]++([5]++([6]++([7]++(([8]++[])++([9]++[]))))))) Cv
theorem z7:aw ["_law_drawn","_law_most","_law_ties_here","_law_things","_law_many","_law_rows","_law_way","_law_patience","_law_k","_law_asks"] ["_law_drawn","_law_most","_law_ties_here"] (ao tS):=⟨rfl,rfl,rfl,by decide+kernel,rfl,by decide+kernel,by decide+kernel⟩
theorem D0(h:eQ K mg "_law_web" tS f fd ["_law_drawn","_law_most","_law_ties_here"])(T:iq mg)(zLties:Cl P w K mg base "_law_ties" mv ["_law_drawn","_law_things","_law_many"] 4 3 kd)(zLnext:Cl P w K mg base "_law_next" gO ["_law_drawn"] 1 1 aY):a_ P w K mg base eW 5 f fd ["_law_drawn","_law_most","_law_ties_here"] (fZ K 3 tD):=by obtain⟨KR,KS,JV,Kl⟩:=zLties;obtain⟨J4,J5,Jk,Jl⟩:=zLnext;have nd:=z7.nd;exact h.fn z7 rfl rfl (λcdv A outer s H E hr=>(@ah _ _ _ _ _ _ _ _ (@ax _ _ _ _ _ 3 _ _ nd rfl ↥3 (@aV _ _ _ _ _ _ _ (@aS _ _ _ _ _ _ _ _ _ _ _ _ _ _ _ Jk Jl (hr.mono ⋯) ((¬0)∘ae) ∅ ⋯ ∅ ∅) (@cB _ _ _ _ _ _ _ rfl (¬1) ag)) ∅ (by trivial)) (@ah _ _ _ _ _ _ _ _ (@ax _ _ _ _ _ 4 _ _ nd rfl ↥3 (@js _ _ _ _ _ _ _ rfl (@aV _ _ _ _ _ _ _ (@aS _ _ _ _ _ _ _ _ _ _ _ _ _ _ _ Jk Jl (hr.mono ⋯) ((¬0)∘ae) ∅ ⋯ ∅ ∅) (@cB _ _ _ _ _ _ _ rfl (¬2) ag)) (@aT _ _ _ _ _ _ _ _ _ (@b_int _ _) ∅ T.b_int ((@vU _ _ _ _ _ _ _ _ _ (@AE _ _) (¬3) ag (be _))∘ae) ⋯ ⋯ ∅ ∅)) ∅ (by trivial)) (@ah _ _ _ _ _ _ _ _ (@ax _ _ _ _ _ 5 _ _ nd rfl ↥3 (@aS _ _ _ _ _ _ _ _ _ _ _ _ _ _ _ JV Kl (hr.mono ⋯) ((¬0)∘((@aT _ _ _ _ _ _ _ _ _ (@b_max _ _ rfl) ∅ T.b_max (ag∘((¬3)∘ae)) ⋯ ⋯ ∅ ∅)∘((¬4)∘ae))) ∅ ⋯ ∅ ∅) ∅ (by trivial)) (@ah _ _ _ _ _ _ _ _ (@ax _ _ _ _ _ 6 _ _ nd rfl ↥3 (@aV _ _ _ _ _ _ _ (@aS _ _ _ _ _ _ _ _ _ _ _ _ _ _ _ Jk Jl (hr.mono ⋯) ((¬0)∘ae) ∅ ⋯ ∅ ∅) ag) ∅ (by trivial)) (@ah _ _ _ _ _ _ _ _ (@ax _ _ _ _ _ 7 _ _ nd rfl ↥3 (@bG _ _ _ _ _ ae) ∅ (by trivial)) (@ah _ _ _ _ _ _ _ _ (@fV _ _ _ _ _ _ _ _ _ _ _ NB rfl (@fx _ _ _ _ _ _ _ rfl T.b_range ((¬3)∘ae) ∅) (@aM _ _ _ 8 _ nd rfl ↥3 (by trivial)) (@am _ _ _ _ _ (@cY _ _ _ _ _ (@cC _ _ _ _ _ _ _ _ _ rfl (¬7) ((@bA _ _ _ _ _ _ _ rfl (@bG _ _ _ _ _ (ag∘((@cB _ _ _ _ _ _ _ rfl ag (@aV _ _ _ _ _ _ _ (@aS _ _ _ _ _ _ _ _ _ _ _ _ _ _ _ Jk Jl (hr.mono ⋯) ((¬0)∘ae) ∅ ⋯ ∅ ∅) ag))∘((@aV _ _ _ _ _ _ _ (@aS _ _ _ _ _ _ _ _ _ _ _ _ _ _ _ Jk Jl (hr.mono ⋯) ((¬0)∘ae) ∅ ⋯ ∅ ∅) ag)∘ae)))) (¬6) ↥4)∘ae) ∅ ∅ ∅ ∅ ∅) ∅)) ↥5) (@ah _ _ _ _ _ _ _ _ (@ax _ _ _ _ _ 9 _ _ nd rfl ↥3 (@bA _ _ _ _ _ _ _ rfl (@bG _ _ _ _ _ (ag∘((@cB _ _ _ _ _ _ _ rfl ag (@aV _ _ _ _ _ _ _ (@aS _ _ _ _ _ _ _ _ _ _ _ _ _ _ _ Jk Jl (hr.mono ⋯) ((¬0)∘ae) ∅ ⋯ ∅ ∅) (@aT _ _ _ _ _ _ _ _ _ (@b_max _ _ rfl) ∅ T.b_max (ag∘((¬4)∘ae)) ⋯ ⋯ ∅ ∅)))∘((@aV _ _ _ _ _ _ _ (@aS _ _ _ _ _ _ _ _ _ _ _ _ _ _ _ Jk Jl (hr.mono ⋯) ((¬0)∘ae) ∅ ⋯ ∅ ∅) ag)∘ae)))) (@aV _ _ _ _ _ _ _ (@aS _ _ _ _ _ _ _ _ _ _ _ _ _ _ _ Jk Jl (hr.mono ⋯) ((¬0)∘ae) ∅ ⋯ ∅ ∅) ag) ↥4) ∅ (by trivial)) (@am _ _ _ _ _ (@aH _ _ _ _ _ (@aG _ _ _ _ _ _ ((¬3)∘((¬5)∘((@aT _ _ _ _ _ _ _ _ _ (@b_tuple _ _ rfl) ∅ T.b_tuple ((¬7)∘ae) ⋯ ⋯ ∅ ∅)∘((¬9)∘ae)))))))))))))))
def mX:FI:=(jm (af 1))
def eg:FT:=(aO (aB (wN false) (af 0) (si (aB cK (aB cK (af 1) (vC (.int 1))) (af 2)) eV (eM (vC (.int 2))))))
def eh:FE:=(af 2)
def pL:FS:=(bh (aI (g1 gK) (aa (ig [(2,"_law_thing"),(0,"_law_web_here")] 1 mX (aq 2) eg eh) aj)))
def fq:FM:=gz 3 0 [] pL
theorem oW:aw ["_law_web_here","_law_asked","_law_thing"] ["_law_web_here","_law_asked","_law_thing"] (ao hE):=⟨rfl,rfl,rfl,by decide+kernel,rfl,by decide+kernel,by decide+kernel⟩
theorem uP(h:eQ K mg "_law_asks_of" hE f fd ["_law_web_here","_law_asked","_law_thing"])(T:iq mg):a_ P w K mg base eW 1 f fd ["_law_web_here","_law_asked","_law_thing"] (fZ K 3 fq):=by have nd:=oW.nd;exact h.fn oW rfl rfl (λcdv A outer s H E hr=>(@am _ _ _ _ _ (@aH _ _ _ _ _ (@aT _ _ _ _ _ _ _ _ _ (@b_len _ _ rfl) ∅ T.b_len ((@nM _ _ _ _ _ _ _ _ _ _ _ _ _ [(2,"_law_thing"),(0,"_law_web_here")] ["_law_tie"] rfl rfl (@fU _ _ _ _ _ rfl (¬1)) (λC s0 H0 fp=>(@aM _ _ _ 2 _ (show OE (["_law_thing","_law_web_here","_law_tie"]:List Str) by decide+kernel) rfl ↥3 (by trivial))) (λC s0 H0 fp=>(@rS _ _ _ _ (@a9 _ _ _ _ _ _ _ _ _ (@ya _ _ _ rfl hr) (¬0) (@iL _ _ _ _ _ _ _ _ _ _ rfl (@bA _ _ _ _ _ _ _ rfl (@bA _ _ _ _ _ _ _ rfl (¬1) ag ↥4) (¬2) ↥4) (@iM _ _) (@iN _ _ _ _ ag)) (by with_unfolding_all rfl)))) (λC s0 H0 fp=>(¬2)) rfl ∅ ↥5)∘ae) ⋯ ⋯ ∅ ∅))))
def vK:FI:=(jm (si (aB cK (aB cK (af 0) (vC (.int 1))) (af 2)) eV (eM (vC (.int 2)))))
def iz:FS:=(i0 (um (aO (aB (wN false) (af 5) (af 4))) (aO (aB CG (bY 3 fq (aa (af 0) (aa (af 3) (aa (af 5) aj)))) (aB cK (aB cK (af 0) (vC (.int 2))) (af 5))))) (bh (vC (.bool false))) de)
def pM:FS:=(aE (kj (af 1) (bC (au (aq 3) (au (aq 4) br)))) (aE (i0 (um (aO (aB (wN false) (af 2) (af 3))) (aO (aB CG (aI (g1 gK) (aa (af 3) aj)) (aB cK (af 0) (vC (.int 3)))))) (bh (vC (.bool false))) de) (aE (eN ([5]++([]++[])) vK (aq 5) iz) (bh (vC (.bool true))))))
def k7:FM:=gz 3 3 (([3]++([4]++[]))++(([]++[])++(([5]++([]++[]))++[]))) pM
theorem z6:aw ["_law_web_here","_law_stand","_law_tie","_law_asked","_law_taken","_law_thing"] ["_law_web_here","_law_stand","_law_tie"] (ao tR):=⟨rfl,rfl,rfl,by decide+kernel,rfl,by decide+kernel,by decide+kernel⟩
theorem DZ(h:eQ K mg "_law_may" tR f fd ["_law_web_here","_law_stand","_law_tie"])(T:iq mg)(zLasks_of:Cl P w K mg base "_law_asks_of" hE ["_law_web_here","_law_asked","_law_thing"] 1 3 fq):a_ P w K mg base eW 2 f fd ["_law_web_here","_law_stand","_law_tie"] (fZ K 3 k7):=by obtain⟨KU,KW,JF,Km⟩:=zLasks_of;have nd:=z6.nd;exact h.fn z6 rfl rfl (λcdv A outer s H E hr=>(@ah _ _ _ _ _ _ _ _ (@oM _ _ _ _ _ _ _ _ (¬1) (@gN _ _ _ _ _ _ _ _ rfl rfl (@aW _ _ _ _ _ _ _ _ (@aM _ _ _ 3 _ nd rfl ↥3 (by trivial)) (@aW _ _ _ _ _ _ _ _ (@aM _ _ _ 4 _ nd rfl ↥3 (by trivial)) (@ee _ _) ∅) ∅) (bj (bj gL)) ∅ ∅) ∅ ∅ ∅) (@ah _ _ _ _ _ _ _ _ (@cD _ _ _ _ _ _ _ _ _ _ _ (@u7 _ _ _ _ (@tL _ _ _ _ _ _ _ _ (@a9 _ _ _ _ _ _ _ _ _ (@ya _ _ _ rfl hr) (¬2) (¬3) (by with_unfolding_all rfl)) (@oN _ _ _ _ _ (@a9 _ _ _ _ _ _ _ _ _ (@x_ _ _) (@aT _ _ _ _ _ _ _ _ _ (@b_len _ _ rfl) ∅ T.b_len ((¬3)∘ae) ⋯ ⋯ ∅ ∅) (@bA _ _ _ _ _ _ _ rfl (¬0) ag ↥4) (be _))))) (@am _ _ _ _ _ (@aH _ _ _ _ _ (@iY _ _ _ _ _))) (@bg _ _)) (@ah _ _ _ _ _ _ _ _ (@fV _ _ _ _ _ _ _ _ _ _ _ NB rfl (@fU _ _ _ _ _ rfl (@iL _ _ _ _ _ _ _ _ _ _ rfl (@bA _ _ _ _ _ _ _ rfl (@bA _ _ _ _ _ _ _ rfl (¬0) ag ↥4) (¬2) ↥4) (@iM _ _) (@iN _ _ _ _ ag))) (@aM _ _ _ 5 _ nd rfl ↥3 (by trivial)) (@am _ _ _ _ _ (@cD _ _ _ _ _ _ _ _ _ _ _ (@u7 _ _ _ _ (@tL _ _ _ _ _ _ _ _ (@a9 _ _ _ _ _ _ _ _ _ (@ya _ _ _ rfl hr) (¬5) (¬4) (by with_unfolding_all rfl)) (@oN _ _ _ _ _ (@a9 _ _ _ _ _ _ _ _ _ (@x_ _ _) (@aS _ _ _ _ _ _ _ _ _ _ _ _ _ _ _ JF Km (hr.mono ⋯) ((¬0)∘((¬3)∘((¬5)∘ae))) ∅ ⋯ ∅ ∅) (@bA _ _ _ _ _ _ _ rfl (@bA _ _ _ _ _ _ _ rfl (¬0) ag ↥4) (¬5) ↥4) (be _))))) (@am _ _ _ _ _ (@aH _ _ _ _ _ (@iY _ _ _ _ _))) (@bg _ _))) ↥5) (@am _ _ _ _ _ (@aH _ _ _ _ _ (@iY _ _ _ _ _)))))))
def nX:FS:=(aE (kj (af 1) (bC (au (aq 4) (au (aq 5) br)))) (aE (aU 6 (af 5)) (aE (i0 (aO (af 3)) (aU 6 (aI (g1 bN) (aa (aI (g1 bi) (aa (aB cQ (af 5) (si (aB cK (aB cK (af 0) (vC (.int 1))) (af 2)) eV (eM (vC (.int 2))))) aj)) aj))) de) (bh (bf (aa (aI (g1 bN) (aa (aI (g1 bi) (aa (aB cQ (af 4) (bf (aa (af 2) aj))) aj)) aj)) (aa (af 6) aj)))))))
def gX:FM:=gz 4 3 (([4]++([5]++[]))++([6]++(([6]++[])++[]))) nX
theorem qj:aw ["_law_web_here","_law_stand","_law_tie","_law_truth","_law_asked","_law_taken","_law_more"] ["_law_web_here","_law_stand","_law_tie","_law_truth"] (ao jt):=⟨rfl,rfl,rfl,by decide+kernel,rfl,by decide+kernel,by decide+kernel⟩
theorem xi(h:eQ K mg "_law_behind" jt f fd ["_law_web_here","_law_stand","_law_tie","_law_truth"])(T:iq mg):a_ P w K mg base eW 1 f fd ["_law_web_here","_law_stand","_law_tie","_law_truth"] (fZ K 4 gX):=by have nd:=qj.nd;exact h.fn qj rfl rfl (λcdv A outer s H E hr=>(@ah _ _ _ _ _ _ _ _ (@oM _ _ _ _ _ _ _ _ (¬1) (@gN _ _ _ _ _ _ _ _ rfl rfl (@aW _ _ _ _ _ _ _ _ (@aM _ _ _ 4 _ nd rfl ↥3 (by trivial)) (@aW _ _ _ _ _ _ _ _ (@aM _ _ _ 5 _ nd rfl ↥3 (by trivial)) (@ee _ _) ∅) ∅) (bj (bj gL)) ∅ ∅) ∅ ∅ ∅) (@ah _ _ _ _ _ _ _ _ (@ax _ _ _ _ _ 6 _ _ nd rfl ↥3 (¬5) ∅ (by trivial)) (@ah _ _ _ _ _ _ _ _ (@cD _ _ _ _ _ _ _ _ _ _ _ (@iO _ _ _ _ (¬3) ↥5) (@am _ _ _ _ _ (@ax _ _ _ _ _ 6 _ _ nd rfl ↥3 (@aT _ _ _ _ _ _ _ _ _ (@b_tuple _ _ rfl) ∅ T.b_tuple ((@aT _ _ _ _ _ _ _ _ _ (@jJ _ _ _ rfl hr) ∅ T.b_sorted ((@cB _ _ _ _ _ _ _ rfl (¬5) (@iL _ _ _ _ _ _ _ _ _ _ rfl (@bA _ _ _ _ _ _ _ rfl (@bA _ _ _ _ _ _ _ rfl (¬0) ag ↥4) (¬2) ↥4) (@iM _ _) (@iN _ _ _ _ ag)))∘ae) ⋯ ⋯ ∅ ∅)∘ae) ⋯ ⋯ ∅ ∅) ∅ (by trivial))) (@bg _ _)) (@am _ _ _ _ _ (@aH _ _ _ _ _ (@aG _ _ _ _ _ _ ((@aT _ _ _ _ _ _ _ _ _ (@b_tuple _ _ rfl) ∅ T.b_tuple ((@aT _ _ _ _ _ _ _ _ _ (@jJ _ _ _ rfl hr) ∅ T.b_sorted ((@cB _ _ _ _ _ _ _ rfl (¬4) (@aG _ _ _ _ _ _ ((¬2)∘ae)))∘ae) ⋯ ⋯ ∅ ∅)∘ae) ⋯ ⋯ ∅ ∅)∘((¬6)∘ae)))))))))
def l7:FI:=(ed (aa (aB a7 (bY 1 aY (aa (af 0) aj)) (aB cQ (af 2) (vC (.int 1)))) aj))
def fg:FS:=(i0 (aO (aB (cS true) (af 3) (cW aj))) (cT (bV ba (af 4) (aa (bV dI (af 3) (aa (aB a7 (bY 1 aY (aa (af 0) aj)) (aI (g1 gK) (aa (af 3) aj))) aj)) aj))) de)
def vt:FS:=(aE (aU 3 (gF (aa (aI (g1 gK) (aa (aB cK (af 1) (vC (.int 1))) aj)) aj))) (aE (aU 4 (cW aj)) (aE (eN ([5]++([]++[])) l7 (aq 5) fg) (bh (aI (g1 bN) (aa (af 4) aj))))))
def k8:FM:=gz 3 3 ([3]++([4]++(([5]++([]++[]))++[]))) vt
theorem tV:aw ["_law_drawn","_law_web_here","_law_most","_law_left","_law_found","_law_k"] ["_law_drawn","_law_web_here","_law_most"] (ao lH):=⟨rfl,rfl,rfl,by decide+kernel,rfl,by decide+kernel,by decide+kernel⟩
theorem za(h:eQ K mg "_law_order" lH f fd ["_law_drawn","_law_web_here","_law_most"])(T:iq mg)(zLnext:Cl P w K mg base "_law_next" gO ["_law_drawn"] 1 1 aY):a_ P w K mg base eW 2 f fd ["_law_drawn","_law_web_here","_law_most"] (fZ K 3 k8):=by obtain⟨J4,J5,Jk,Jl⟩:=zLnext;have nd:=tV.nd;exact h.fn tV rfl rfl (λcdv A outer s H E hr=>(@ah _ _ _ _ _ _ _ _ (@ax _ _ _ _ _ 3 _ _ nd rfl ↥3 (@m7 _ _ _ _ _ _ _ _ rfl rfl T.b_list rfl T.b_range ((@aT _ _ _ _ _ _ _ _ _ (@b_len _ _ rfl) ∅ T.b_len ((@bA _ _ _ _ _ _ _ rfl (¬1) ag ↥4)∘ae) ⋯ ⋯ ∅ ∅)∘ae) ∅ ∅) ∅ (by trivial)) (@ah _ _ _ _ _ _ _ _ (@ax _ _ _ _ _ 4 _ _ nd rfl ↥3 (@bG _ _ _ _ _ ae) ∅ (by trivial)) (@ah _ _ _ _ _ _ _ _ (@fV _ _ _ _ _ _ _ _ _ _ _ NB rfl (@fx _ _ _ _ _ _ _ rfl T.b_range ((@aV _ _ _ _ _ _ _ (@aS _ _ _ _ _ _ _ _ _ _ _ _ _ _ _ Jk Jl (hr.mono ⋯) ((¬0)∘ae) ∅ ⋯ ∅ ∅) (@cB _ _ _ _ _ _ _ rfl (¬2) ag))∘ae) ∅) (@aM _ _ _ 5 _ nd rfl ↥3 (by trivial)) (@am _ _ _ _ _ (@cD _ _ _ _ _ _ _ _ _ _ _ (@a9 _ _ _ _ _ _ _ _ _ (@wC _ _ _ rfl hr) (¬3) (@bG _ _ _ _ _ ae) (be _)) (@am _ _ _ _ _ (@cY _ _ _ _ _ (@cC _ _ _ _ _ _ _ _ _ rfl (¬4) ((@rQ _ _ _ _ _ _ _ _ _ rfl (¬3) ((@aV _ _ _ _ _ _ _ (@aS _ _ _ _ _ _ _ _ _ _ _ _ _ _ _ Jk Jl (hr.mono ⋯) ((¬0)∘ae) ∅ ⋯ ∅ ∅) (@aT _ _ _ _ _ _ _ _ _ (@b_len _ _ rfl) ∅ T.b_len ((¬3)∘ae) ⋯ ⋯ ∅ ∅))∘ae) ∅ ∅ ∅ ∅ ∅)∘ae) ∅ ∅ ∅ ∅ ∅) ∅)) (@bg _ _))) ↥5) (@am _ _ _ _ _ (@aH _ _ _ _ _ (@aT _ _ _ _ _ _ _ _ _ (@b_tuple _ _ rfl) ∅ T.b_tuple ((¬4)∘ae) ⋯ ⋯ ∅ ∅)))))))
def jl:FI:=(jm (cW (aa (bf (aa (vC (.bool true)) (aa (af 6) aj))) (aa (bf (aa (vC (.bool false)) (aa (bY 1 oA (aa (af 6) aj)) aj))) aj))))
def dg:FS:=(i0 (aO (aB Dw (aB cK (af 8) (vC (.int 0))) (vC (.int 0)))) (cT (bV ba (af 3) (aa (bf (aa (bY 4 gX (aa (af 0) (aa (af 4) (aa (af 2) (aa (af 7) aj))))) (aa (bY 2 k9 (aa (af 5) (aa (af 8) aj))) aj))) aj))) de)
def mY:FI:=(jm (af 1))
def dh:FS:=(i0 (aO (bY 3 k7 (aa (af 0) (aa (af 4) (aa (af 2) aj))))) (aE (aU 6 (aB cK (aB cK (aB cK (af 0) (vC (.int 1))) (af 2)) (vC (.int 2)))) (eN (([7]++([8]++[]))++([]++[])) jl (bC (au (aq 7) (au (aq 8) br))) dg)) (cT (bV ba (af 3) (aa (bf (aa (af 4) (aa (af 5) aj))) aj))))
def pN:FS:=(aE (aU 3 (cW aj)) (aE (eN (([4]++([5]++[]))++(([6]++(([7]++([8]++[]))++([]++[])))++[])) mY (bC (au (aq 4) (au (aq 5) br))) dh) (bh (af 3))))
def g9:FM:=gz 3 6 ([3]++((([4]++([5]++[]))++(([6]++(([7]++([8]++[]))++([]++[])))++[]))++[])) pN
theorem oZ:aw ["_law_web_here","_law_ways","_law_tie","_law_found","_law_stand","_law_chance_here","_law_share","_law_truth","_law_part"] ["_law_web_here","_law_ways","_law_tie"] (ao hV):=⟨rfl,rfl,rfl,by decide+kernel,rfl,by decide+kernel,by decide+kernel⟩
theorem uS(h:eQ K mg "_law_ways_on" hV f fd ["_law_web_here","_law_ways","_law_tie"])(T:iq mg)(zLmay:Cl P w K mg base "_law_may" tR ["_law_web_here","_law_stand","_law_tie"] 2 3 k7)(zLrest:Cl P w K mg base "_law_rest" oS ["_law_one"] 1 1 oA)(zLbehind:Cl P w K mg base "_law_behind" jt ["_law_web_here","_law_stand","_law_tie","_law_truth"] 1 4 gX)(zLtimes:Cl P w K mg base "_law_times" lI ["_law_one","_law_other"] 3 2 k9):a_ P w K mg base eW 4 f fd ["_law_web_here","_law_ways","_law_tie"] (fZ K 3 g9):=by obtain⟨LC,LD,Ky,Lg⟩:=zLmay;obtain⟨Lq,Lr,Kb,KY⟩:=zLrest;obtain⟨K5,K6,JL,Kz⟩:=zLbehind;obtain⟨Lh,Li,J0,KJ⟩:=zLtimes;have nd:=oZ.nd;exact h.fn oZ rfl rfl (λcdv A outer s H E hr=>(@ah _ _ _ _ _ _ _ _ (@ax _ _ _ _ _ 3 _ _ nd rfl ↥3 (@bG _ _ _ _ _ ae) ∅ (by trivial)) (@ah _ _ _ _ _ _ _ _ (@fV _ _ _ _ _ _ _ _ _ _ _ NB rfl (@fU _ _ _ _ _ rfl (¬1)) (@gN _ _ _ _ _ _ _ _ rfl rfl (@aW _ _ _ _ _ _ _ _ (@aM _ _ _ 4 _ nd rfl ↥3 (by trivial)) (@aW _ _ _ _ _ _ _ _ (@aM _ _ _ 5 _ nd rfl ↥3 (by trivial)) (@ee _ _) ∅) ∅) (bj (bj gL)) ∅ ∅) (@am _ _ _ _ _ (@cD _ _ _ _ _ _ _ _ _ _ _ (@iO _ _ _ _ (@aS _ _ _ _ _ _ _ _ _ _ _ _ _ _ _ Ky Lg (hr.mono ⋯) ((¬0)∘((¬4)∘((¬2)∘ae))) ∅ ⋯ ∅ ∅) ↥5) (@ah _ _ _ _ _ _ _ _ (@ax _ _ _ _ _ 6 _ _ nd rfl ↥3 (@bA _ _ _ _ _ _ _ rfl (@bA _ _ _ _ _ _ _ rfl (@bA _ _ _ _ _ _ _ rfl (¬0) ag ↥4) (¬2) ↥4) ag ↥4) ∅ (by trivial)) (@am _ _ _ _ _ (@fV _ _ _ _ _ _ _ _ _ _ _ NB rfl (@fU _ _ _ _ _ rfl (@bG _ _ _ _ _ ((@aG _ _ _ _ _ _ ((@iY _ _ _ _ _)∘((¬6)∘ae)))∘((@aG _ _ _ _ _ _ ((@iY _ _ _ _ _)∘((@aS _ _ _ _ _ _ _ _ _ _ _ _ _ _ _ Kb KY (hr.mono ⋯) ((¬6)∘ae) ∅ ⋯ ∅ ∅)∘ae)))∘ae)))) (@gN _ _ _ _ _ _ _ _ rfl rfl (@aW _ _ _ _ _ _ _ _ (@aM _ _ _ 7 _ nd rfl ↥3 (by trivial)) (@aW _ _ _ _ _ _ _ _ (@aM _ _ _ 8 _ nd rfl ↥3 (by trivial)) (@ee _ _) ∅) ∅) (bj (bj gL)) ∅ ∅) (@am _ _ _ _ _ (@cD _ _ _ _ _ _ _ _ _ _ _ (@a9 _ _ _ _ _ _ _ _ _ (@AE _ _) (@bA _ _ _ _ _ _ _ rfl (¬8) ag ↥4) ag (be _)) (@am _ _ _ _ _ (@cY _ _ _ _ _ (@cC _ _ _ _ _ _ _ _ _ rfl (¬3) ((@aG _ _ _ _ _ _ ((@aS _ _ _ _ _ _ _ _ _ _ _ _ _ _ _ JL Kz (hr.mono ⋯) ((¬0)∘((¬4)∘((¬2)∘((¬7)∘ae)))) ∅ ⋯ ∅ ∅)∘((@aS _ _ _ _ _ _ _ _ _ _ _ _ _ _ _ J0 KJ (hr.mono ⋯) ((¬5)∘((¬8)∘ae)) ∅ ⋯ ∅ ∅)∘ae)))∘ae) ∅ ∅ ∅ ∅ ∅) ∅)) (@bg _ _))) ↥5))) (@am _ _ _ _ _ (@cY _ _ _ _ _ (@cC _ _ _ _ _ _ _ _ _ rfl (¬3) ((@aG _ _ _ _ _ _ ((¬4)∘((¬5)∘ae)))∘ae) ∅ ∅ ∅ ∅ ∅) ∅)))) ↥5) (@am _ _ _ _ _ (@aH _ _ _ _ _ (¬3))))))
def oo:FI:=(jm (af 1))
def iy:FS:=(aE (aU 2 (bY 3 g9 (aa (af 0) (aa (af 2) (aa (af 4) aj))))) (cT (bV ba (af 3) (aa (aI (g1 bN) (aa (aI (g1 bi) (aa (af 2) aj)) aj)) aj))))
def sy:FS:=(aE (aU 2 (cW (aa (bf (aa (bf (aa (bf aj) (aa (bf aj) aj))) (aa (bf (aa (vC (.int 1)) (aa (vC (.int 1)) aj))) aj))) aj))) (aE (aU 3 (cW (aa (aI (g1 bN) (aa (af 2) aj)) aj))) (aE (eN ([4]++([2]++[])) oo (aq 4) iy) (bh (aI (g1 bN) (aa (af 3) aj))))))
def gY:FM:=gz 2 3 ([2]++([3]++(([4]++([2]++[]))++[]))) sy
theorem qm:aw ["_law_web_here","_law_order_here","_law_ways","_law_found","_law_tie"] ["_law_web_here","_law_order_here"] (ao jw):=⟨rfl,rfl,rfl,by decide+kernel,rfl,by decide+kernel,by decide+kernel⟩
theorem xk(h:eQ K mg "_law_layers" jw f fd ["_law_web_here","_law_order_here"])(T:iq mg)(zLways_on:Cl P w K mg base "_law_ways_on" hV ["_law_web_here","_law_ways","_law_tie"] 4 3 g9):a_ P w K mg base eW 5 f fd ["_law_web_here","_law_order_here"] (fZ K 2 gY):=by obtain⟨KZ,K0,JG,Kn⟩:=zLways_on;have nd:=qm.nd;exact h.fn qm rfl rfl (λcdv A outer s H E hr=>(@ah _ _ _ _ _ _ _ _ (@ax _ _ _ _ _ 2 _ _ nd rfl ↥3 (@bG _ _ _ _ _ ((@aG _ _ _ _ _ _ ((@aG _ _ _ _ _ _ ((@aG _ _ _ _ _ _ ae)∘((@aG _ _ _ _ _ _ ae)∘ae)))∘((@aG _ _ _ _ _ _ (ag∘(ag∘ae)))∘ae)))∘ae)) ∅ (by trivial)) (@ah _ _ _ _ _ _ _ _ (@ax _ _ _ _ _ 3 _ _ nd rfl ↥3 (@bG _ _ _ _ _ ((@aT _ _ _ _ _ _ _ _ _ (@b_tuple _ _ rfl) ∅ T.b_tuple ((¬2)∘ae) ⋯ ⋯ ∅ ∅)∘ae)) ∅ (by trivial)) (@ah _ _ _ _ _ _ _ _ (@fV _ _ _ _ _ _ _ _ _ _ _ NB rfl (@fU _ _ _ _ _ rfl (¬1)) (@aM _ _ _ 4 _ nd rfl ↥3 (by trivial)) (@ah _ _ _ _ _ _ _ _ (@ax _ _ _ _ _ 2 _ _ nd rfl ↥3 (@aS _ _ _ _ _ _ _ _ _ _ _ _ _ _ _ JG Kn (hr.mono ⋯) ((¬0)∘((¬2)∘((¬4)∘ae))) ∅ ⋯ ∅ ∅) ∅ (by trivial)) (@am _ _ _ _ _ (@cY _ _ _ _ _ (@cC _ _ _ _ _ _ _ _ _ rfl (¬3) ((@aT _ _ _ _ _ _ _ _ _ (@b_tuple _ _ rfl) ∅ T.b_tuple ((@aT _ _ _ _ _ _ _ _ _ (@jJ _ _ _ rfl hr) ∅ T.b_sorted ((¬2)∘ae) ⋯ ⋯ ∅ ∅)∘ae) ⋯ ⋯ ∅ ∅)∘ae) ∅ ∅ ∅ ∅ ∅) ∅))) ↥5) (@am _ _ _ _ _ (@aH _ _ _ _ _ (@aT _ _ _ _ _ _ _ _ _ (@b_tuple _ _ rfl) ∅ T.b_tuple ((¬3)∘ae) ⋯ ⋯ ∅ ∅)))))))
def cx:FT:=(my (aO (aB (cS true) (af 3) (cW aj))) (aO (aB AR (aI (g1 gK) (aa (af 4) aj)) (af 2))))
def kD:FS:=(cT (bV ba (af 4) (aa (bV dI (af 3) (aa (aB a7 (bY 1 aY (aa (af 0) aj)) (aI (g1 gK) (aa (af 3) aj))) aj)) aj)))
def xY:FS:=(aE (aU 3 (gF (aa (aI (g1 gK) (aa (aB cK (af 1) (vC (.int 1))) aj)) aj))) (aE (aU 4 (cW aj)) (aE (iR (2^4200) cx kD) (bh (aI (g1 bN) (aa (af 4) aj))))))
def ma:FM:=gz 3 2 ([3]++([4]++([]++[]))) xY
theorem v_:aw ["_law_drawn","_law_web_here","_law_most","_law_left","_law_found"] ["_law_drawn","_law_web_here","_law_most"] (ao oR):=⟨rfl,rfl,rfl,by decide+kernel,rfl,by decide+kernel,by decide+kernel⟩
theorem Bf(h:eQ K mg "_law_full" oR f fd ["_law_drawn","_law_web_here","_law_most"])(T:iq mg)(zLnext:Cl P w K mg base "_law_next" gO ["_law_drawn"] 1 1 aY):a_ P w K mg base eW 2 f fd ["_law_drawn","_law_web_here","_law_most"] (fZ K 3 ma):=by obtain⟨J4,J5,Jk,Jl⟩:=zLnext;have nd:=v_.nd;exact h.fn v_ rfl rfl (λcdv A outer s H E hr=>(@ah _ _ _ _ _ _ _ _ (@ax _ _ _ _ _ 3 _ _ nd rfl ↥3 (@m7 _ _ _ _ _ _ _ _ rfl rfl T.b_list rfl T.b_range ((@aT _ _ _ _ _ _ _ _ _ (@b_len _ _ rfl) ∅ T.b_len ((@bA _ _ _ _ _ _ _ rfl (¬1) ag ↥4)∘ae) ⋯ ⋯ ∅ ∅)∘ae) ∅ ∅) ∅ (by trivial)) (@ah _ _ _ _ _ _ _ _ (@ax _ _ _ _ _ 4 _ _ nd rfl ↥3 (@bG _ _ _ _ _ ae) ∅ (by trivial)) (@ah _ _ _ _ _ _ _ _ (@lD _ _ _ _ _ _ _ _ _ NB (@u7 _ _ _ _ (@zO _ _ _ _ _ _ _ _ (@a9 _ _ _ _ _ _ _ _ _ (@wC _ _ _ rfl hr) (¬3) (@bG _ _ _ _ _ ae) (be _)) (@vV _ _ _ _ _ (@a9 _ _ _ _ _ _ _ _ _ (@yc _ _) (@aT _ _ _ _ _ _ _ _ _ (@b_len _ _ rfl) ∅ T.b_len ((¬4)∘ae) ⋯ ⋯ ∅ ∅) (¬2) (be _))))) (@am _ _ _ _ _ (@cY _ _ _ _ _ (@cC _ _ _ _ _ _ _ _ _ rfl (¬4) ((@rQ _ _ _ _ _ _ _ _ _ rfl (¬3) ((@aV _ _ _ _ _ _ _ (@aS _ _ _ _ _ _ _ _ _ _ _ _ _ _ _ Jk Jl (hr.mono ⋯) ((¬0)∘ae) ∅ ⋯ ∅ ∅) (@aT _ _ _ _ _ _ _ _ _ (@b_len _ _ rfl) ∅ T.b_len ((¬3)∘ae) ⋯ ⋯ ∅ ∅))∘ae) ∅ ∅ ∅ ∅ ∅)∘ae) ∅ ∅ ∅ ∅ ∅) ∅))) (@am _ _ _ _ _ (@aH _ _ _ _ _ (@aT _ _ _ _ _ _ _ _ _ (@b_tuple _ _ rfl) ∅ T.b_tuple ((¬4)∘ae) ⋯ ⋯ ∅ ∅)))))))
def x6:FS:=(aE (aU 2 (aB cK (cW (aa (vC (.int 2)) (aa (vC (.int 4)) (aa (vC (.int 7)) (aa (vC (.int 12)) aj))))) (aB a7 (bY 1 aY (aa (af 0) aj)) (vC (.int 4))))) (aE (aU 3 (bY 3 kd (aa (af 0) (aa (af 2) (aa (af 1) aj))))) (aE (aU 4 (aB a7 (bY 1 aY (aa (af 0) aj)) (vC (.int 3)))) (bh (bf (aa (af 2) (aa (af 3) (aa (aB fJ (bf (aa (aB cK (cW (aa (vC (.int 20)) (aa (vC (.int 1)) (aa (vC (.int 2)) aj)))) (af 4)) aj)) (af 2)) (aa (aB cK (cW (aa (vC (.int 40)) (aa (vC (.int 40)) (aa (aB er (af 1) (vC (.int 2))) aj)))) (af 4)) aj)))))))))
def md:FM:=gz 2 3 ([2]++([3]++([4]++[]))) x6
theorem we:aw ["_law_drawn","_law_many","_law_things","_law_rows","_law_way"] ["_law_drawn","_law_many"] (ao oU):=⟨rfl,rfl,rfl,by decide+kernel,rfl,by decide+kernel,by decide+kernel⟩
theorem Bk(h:eQ K mg "_law_wide" oU f fd ["_law_drawn","_law_many"])(T:iq mg)(zLties:Cl P w K mg base "_law_ties" mv ["_law_drawn","_law_things","_law_many"] 4 3 kd)(zLnext:Cl P w K mg base "_law_next" gO ["_law_drawn"] 1 1 aY):a_ P w K mg base eW 5 f fd ["_law_drawn","_law_many"] (fZ K 2 md):=by obtain⟨KR,KS,JV,Kl⟩:=zLties;obtain⟨J4,J5,Jk,Jl⟩:=zLnext;have nd:=we.nd;exact h.fn we rfl rfl (λcdv A outer s H E hr=>(@ah _ _ _ _ _ _ _ _ (@ax _ _ _ _ _ 2 _ _ nd rfl ↥3 (@bA _ _ _ _ _ _ _ rfl (@bG _ _ _ _ _ (ag∘(ag∘(ag∘(ag∘ae))))) (@aV _ _ _ _ _ _ _ (@aS _ _ _ _ _ _ _ _ _ _ _ _ _ _ _ Jk Jl (hr.mono ⋯) ((¬0)∘ae) ∅ ⋯ ∅ ∅) ag) ↥4) ∅ (by trivial)) (@ah _ _ _ _ _ _ _ _ (@ax _ _ _ _ _ 3 _ _ nd rfl ↥3 (@aS _ _ _ _ _ _ _ _ _ _ _ _ _ _ _ JV Kl (hr.mono ⋯) ((¬0)∘((¬2)∘((¬1)∘ae))) ∅ ⋯ ∅ ∅) ∅ (by trivial)) (@ah _ _ _ _ _ _ _ _ (@ax _ _ _ _ _ 4 _ _ nd rfl ↥3 (@aV _ _ _ _ _ _ _ (@aS _ _ _ _ _ _ _ _ _ _ _ _ _ _ _ Jk Jl (hr.mono ⋯) ((¬0)∘ae) ∅ ⋯ ∅ ∅) ag) ∅ (by trivial)) (@am _ _ _ _ _ (@aH _ _ _ _ _ (@aG _ _ _ _ _ _ ((¬2)∘((¬3)∘((@js _ _ _ _ _ _ _ rfl (@aG _ _ _ _ _ _ ((@bA _ _ _ _ _ _ _ rfl (@bG _ _ _ _ _ (ag∘(ag∘(ag∘ae)))) (¬4) ↥4)∘ae)) (¬2))∘((@bA _ _ _ _ _ _ _ rfl (@bG _ _ _ _ _ (ag∘(ag∘((@gM _ _ _ _ _ _ _ (¬1) ag)∘ae)))) (¬4) ↥4)∘ae)))))))))))
theorem oX:aw ["_law_error"] ["_law_error"] (ao hJ):=⟨rfl,rfl,rfl,by decide+kernel,rfl,by decide+kernel,by decide+kernel⟩
theorem uQ(h:eQ K mg "_law_is_many" hJ f fd ["_law_error"])(T:iq mg){C:LQ}(Z:pq K C){c_TooMany:LQ}(m_TooMany:mg "TooMany"=some (.ref c_TooMany)){c_NoRise:LQ}(m_NoRise:mg "NoRise"=some (.ref c_NoRise)){c_NoText:LQ}(m_NoText:mg "NoText"=some (.ref c_NoText)){c_NotTwoSided:LQ}(m_NotTwoSided:mg "NotTwoSided"=some (.ref c_NotTwoSided)){c_PairsError:LQ}(m_PairsError:mg "PairsError"=some (.ref c_PairsError))(k_t:W.kitAny K (.ref C) [.ref c_NoRise,.ref c_NoText,.ref c_NotTwoSided]=some false)(k_TooMany:OP K (.ref C) (.ref c_TooMany)=some true)(k_PairsError:OP K (.ref C) (.ref c_PairsError)=some true)(k_ValueError:OP K (.ref C) (.type "ValueError")=some true):a_ P w K mg base eW 1 f fd ["_law_error"] (HL C):=by have nd:=oX.nd;refine h.F.ok oX (λvs H Q E q=>by obtain⟨a,rfl,_⟩:=q;rfl) λcdv A outer s H vs Q E hr hsp=>⟨_,lz (zF (PW.pt (CW (zI (uZ (uV Z rfl T.b_isinstance QN (pv 0) (jR (v:=V.ref c_TooMany) rfl m_TooMany rfl) (λ_ r=>r) k_TooMany))) (zJ (uZ (Ec (vs:=[V.ref c_NoRise,V.ref c_NoText,V.ref c_NotTwoSided]) Z rfl T.b_isinstance QN (pv 0) (dJ (jR (v:=V.ref c_NoRise) rfl m_NoRise rfl) (dJ (jR (v:=V.ref c_NoText) rfl m_NoText rfl) (dJ (jR (v:=V.ref c_NotTwoSided) rfl m_NotTwoSided rfl) mj rfl) rfl) rfl) (λ_ _ _ q=>q) (by show 3<=Mi;decide) (λus' r=>by match us',r with|_,.cons a (.cons b (.cons c .nil))=>cases a;cases b;cases c;rfl) k_t))))) (jS (rO CU)) rP) (jS (rO (zo (uV Z rfl T.b_isinstance QN (pv 0) (jR (v:=V.ref c_PairsError) rfl m_PairsError rfl) (λ_ r=>r) k_PairsError) (zq (uV Z rfl T.b_isinstance QN (pv 0) (zt (T:="ValueError") rfl T.b_ValueError ↥2 ⋯ ⋯) (λ_ r=>r) k_ValueError))))),?_⟩;obtain⟨a,rfl,ha,q⟩:=hsp;exact xw ha q
def gZ:FM:=E7 2 2 jk
theorem oY:aw ["_law_web_here","_law_order_here","_law_caught","_law_error"] ["_law_web_here","_law_order_here"] (ao hU):=⟨rfl,rfl,rfl,by decide+kernel,rfl,by decide+kernel,by decide+kernel⟩
theorem uR(h:eQ K mg "_law_refused" hU f fd ["_law_web_here","_law_order_here"])(T:iq mg){C Cb:LQ}{JC:LQ}{JD:Mw}(Ji:eQ K mg "layers_of" cE JC JD ["web","order"])(R_layers_of:a_ P w K mg base (nU P w C) 7 JC JD ["web","order"] (Ax K 2 2 jk)){J6:LQ}{J7:Mw}(Jv:eQ K mg "_law_is_many" hJ J6 J7 ["_law_error"])(JP:a_ P w K mg base eW 1 J6 J7 ["_law_error"] (HL C))(m_PairsError:mg "PairsError"=some (.ref Cb))(hex:W.exmOne K (.ref C) (.ref Cb)=some true):a_ P w K mg base eW 8 f fd ["_law_web_here","_law_order_here"] (fZ K 2 gZ):=by have nd:=oY.nd;refine h.F.ok oY (λvs H Q E q=>q.1) λcdv A outer s H vs Q E hr hsp=>⟨_,lz (uY (i:=2) nd rfl ↥3 Ee rfl (.inl rfl)) (lz (zE (i:=2) (j:=3) rfl rfl R_layers_of (hr.mono ⋯) rfl Ji.m Ji.F.kp Ji.b (dJ (pv 0) (dJ (pv 1) mj rfl) rfl) rfl m_PairsError hex nd rfl rfl rfl rfl ⋯) (jS (rO (vS JP (hr.mono ⋯) rfl Jv.m Jv.F.kp Jv.b .nil CT (dJ (pv 2) mj rfl))))),?_⟩;obtain⟨v0,v1,rfl⟩:∃v0 v1,vs=[v0,v1]:=match vs,hsp.1 with|[v0,v1],_=>⟨_,_,rfl⟩;refine⟨v0,rfl,v1,rfl,Ab hsp,λa H' kp hn=>?_⟩;exact xx rfl aC λH2 k2=>Ds hsp λc o e=>k2 c o (oy hn c o (kp c o e))
def Ik:FI:=(ed (aa (vC (.int 3)) aj))
def E2:FS:=(aE (i0 (aO (aB (cS false) (af 2) (vC (.int 0)))) (aE (aU 3 (bY 2 md (aa (af 1) (aa (vC (.int 8)) aj)))) (aU 4 (bY 3 ma (aa (af 1) (aa (af 3) (aa (vC (.int 8)) aj)))))) (aE (aU 3 (bY 3 tD (aa (af 1) (aa (vC (.int 12)) (aa (vC (.int 10)) aj))))) (aU 4 (bY 3 k8 (aa (af 1) (aa (af 3) (aa (aB iD (vC (.int 8)) (af 2)) aj))))))) (aE (aU 5 (bf (aa (af 3) (aa (af 4) aj)))) (aE (aU 6 (bY 2 gY (aa (af 3) (aa (af 4) aj)))) (aE (i0 (um (jF (aO (bY 2 iK (aa (bY 2 bX (aa (af 3) (aa (af 4) aj))) (aa (af 6) aj))))) (aO (aB (cS true) (af 5) (bf (aa (af 3) (aa (af 4) aj)))))) (bh (vC (.bool false))) de) (i0 (jF (aO (bY 2 iK (aa (bY 2 bX (aa (af 3) (aa (af 4) aj))) (aa (af 6) aj))))) (bh (vC (.bool false))) de)))))
def Cw:FS:=(aE (aU 1 (bY 1 kZ (aa (af 0) aj))) (aE (eN ([2]++((([3]++[4])++([3]++[4]))++([5]++([6]++(([]++[])++([]++[])))))) Ik (aq 2) E2) (aE (aU 7 (aB cQ (vC (.int 9)) (aB a7 (bY 1 aY (aa (af 1) aj)) (vC (.int 8))))) (aE (aU 8 (bY 2 md (aa (af 1) (aa (af 7) aj)))) (aE (aU 4 (bY 3 ma (aa (af 1) (aa (af 8) (aa (af 7) aj))))) (aE (i0 (um (jF (aO (bY 2 gZ (aa (af 8) (aa (af 4) aj))))) (jF (aO (bY 2 gZ (aa (af 8) (aa (si (af 4) eV (eM (vC (.int 9)))) aj)))))) (bh (vC (.bool false))) de) (aE (i0 (jF (aO (bY 2 iK (aa (bY 2 bX (aa (af 8) (aa (si (af 4) eV (eM (vC (.int 2)))) aj))) (aa (bY 2 gY (aa (af 8) (aa (si (af 4) eV (eM (vC (.int 2)))) aj))) aj))))) (bh (vC (.bool false))) de) (bh (bY 2 iK (aa (bY 2 bX (aa (af 8) (aa (bf aj) aj))) (aa (bf (aa (bf (aa (bf (aa (bf (aa (bf aj) (aa (bf aj) aj))) (aa (bf (aa (vC (.int 1)) (aa (vC (.int 1)) aj))) aj))) aj)) aj)) aj)))))))))))
def oB:FM:=gz 1 8 ([1]++(([2]++((([3]++[4])++([3]++[4]))++([5]++([6]++(([]++[])++([]++[]))))))++([7]++([8]++([4]++(([]++[])++(([]++[])++[]))))))) Cw
theorem z8:aw ["_law_script","_law_drawn","_law_k","_law_web_here","_law_order_here","_law_handed","_law_due","_law_many","_law_great"] ["_law_script"] (ao oV):=⟨rfl,rfl,rfl,by decide+kernel,rfl,by decide+kernel,by decide+kernel⟩
theorem D1(h:eQ K mg "law" oV f fd ["_law_script"])(T:iq mg)(zLdraws:Cl P w K mg base "_law_draws" lF ["_law_script"] 2 1 kZ)(zLwide:Cl P w K mg base "_law_wide" oU ["_law_drawn","_law_many"] 5 2 md)(zLfull:Cl P w K mg base "_law_full" oR ["_law_drawn","_law_web_here","_law_most"] 2 3 ma)(zLsame:Cl P w K mg base "_law_same" oT ["_law_found","_law_due"] 1 2 iK)(zLlayers:Cl P w K mg base "_law_layers" jw ["_law_web_here","_law_order_here"] 5 2 gY)(z_layers_of:Cl P w K mg base "layers_of" cE ["web","order"] 7 2 bX)(zLweb:Cl P w K mg base "_law_web" tS ["_law_drawn","_law_most","_law_ties_here"] 5 3 tD)(zLorder:Cl P w K mg base "_law_order" lH ["_law_drawn","_law_web_here","_law_most"] 2 3 k8)(zLnext:Cl P w K mg base "_law_next" gO ["_law_drawn"] 1 1 aY)(zLrefused:Cl P w K mg base "_law_refused" hU ["_law_web_here","_law_order_here"] 8 2 gZ):a_ P w K mg base eW 9 f fd ["_law_script"] (fZ K 1 oB):=by obtain⟨Lj,Lk,J1,KL⟩:=zLdraws;obtain⟨Lu,Lv,J8,KB⟩:=zLwide;obtain⟨Lw,Lx,J9,KC⟩:=zLfull;obtain⟨Ly,Lz,JQ,Kc⟩:=zLsame;obtain⟨K7,K8,JH,Kd⟩:=zLlayers;obtain⟨JC,JD,Ji,Jx⟩:=z_layers_of;obtain⟨LF,LG,KA,Ll⟩:=zLweb;obtain⟨Lm,Ln,J3,KM⟩:=zLorder;obtain⟨J4,J5,Jk,Jl⟩:=zLnext;obtain⟨K1,K2,Jy,J_⟩:=zLrefused;have nd:=z8.nd;exact h.fn z8 rfl rfl (λcdv A outer s H E hr=>(@ah _ _ _ _ _ _ _ _ (@ax _ _ _ _ _ 1 _ _ nd rfl ↥3 (@aS _ _ _ _ _ _ _ _ _ _ _ _ _ _ _ J1 KL (hr.mono ⋯) ((¬0)∘ae) ∅ ⋯ ∅ ∅) ∅ (by trivial)) (@ah _ _ _ _ _ _ _ _ (@fV _ _ _ _ _ _ _ _ _ _ _ NB rfl (@fx _ _ _ _ _ _ _ rfl T.b_range (ag∘ae) ∅) (@aM _ _ _ 2 _ nd rfl ↥3 (by trivial)) (@ah _ _ _ _ _ _ _ _ (@cD _ _ _ _ _ _ _ _ _ _ _ (@a9 _ _ _ _ _ _ _ _ _ (@uv _ _ _ rfl hr) (¬2) ag (be _)) (@ah _ _ _ _ _ _ _ _ (@ax _ _ _ _ _ 3 _ _ nd rfl ↥3 (@aS _ _ _ _ _ _ _ _ _ _ _ _ _ _ _ J8 KB (hr.mono ⋯) ((¬1)∘(ag∘ae)) ∅ ⋯ ∅ ∅) ∅ (by trivial)) (@am _ _ _ _ _ (@ax _ _ _ _ _ 4 _ _ nd rfl ↥3 (@aS _ _ _ _ _ _ _ _ _ _ _ _ _ _ _ J9 KC (hr.mono ⋯) ((¬1)∘((¬3)∘(ag∘ae))) ∅ ⋯ ∅ ∅) ∅ (by trivial)))) (@ah _ _ _ _ _ _ _ _ (@ax _ _ _ _ _ 3 _ _ nd rfl ↥3 (@aS _ _ _ _ _ _ _ _ _ _ _ _ _ _ _ KA Ll (hr.mono ⋯) ((¬1)∘(ag∘(ag∘ae))) ∅ ⋯ ∅ ∅) ∅ (by trivial)) (@am _ _ _ _ _ (@ax _ _ _ _ _ 4 _ _ nd rfl ↥3 (@aS _ _ _ _ _ _ _ _ _ _ _ _ _ _ _ J3 KM (hr.mono ⋯) ((¬1)∘((¬3)∘((@qg _ _ _ _ _ _ _ ag (¬2))∘ae))) ∅ ⋯ ∅ ∅) ∅ (by trivial))))) (@ah _ _ _ _ _ _ _ _ (@ax _ _ _ _ _ 5 _ _ nd rfl ↥3 (@aG _ _ _ _ _ _ ((¬3)∘((¬4)∘ae))) ∅ (by trivial)) (@ah _ _ _ _ _ _ _ _ (@ax _ _ _ _ _ 6 _ _ nd rfl ↥3 (@aS _ _ _ _ _ _ _ _ _ _ _ _ _ _ _ JH Kd (hr.mono ⋯) ((¬3)∘((¬4)∘ae)) ∅ ⋯ ∅ ∅) ∅ (by trivial)) (@ah _ _ _ _ _ _ _ _ (@cD _ _ _ _ _ _ _ _ _ _ _ (@u7 _ _ _ _ (@tL _ _ _ _ _ _ _ _ (@ms _ _ _ _ _ (@iO _ _ _ _ (@aS _ _ _ _ _ _ _ _ _ _ _ _ _ _ _ JQ Kc (hr.mono ⋯) ((@aS _ _ _ _ _ _ _ _ _ _ _ _ _ _ _ Ji Jx (hr.mono ⋯) ((¬3)∘((¬4)∘ae)) ∅ ⋯ ∅ ∅)∘((¬6)∘ae)) ∅ ⋯ ∅ ∅) ↥5)) (@oN _ _ _ _ _ (@a9 _ _ _ _ _ _ _ _ _ (@wC _ _ _ rfl hr) (¬5) (@aG _ _ _ _ _ _ ((¬3)∘((¬4)∘ae))) (be _))))) (@am _ _ _ _ _ (@aH _ _ _ _ _ (@iY _ _ _ _ _))) (@bg _ _)) (@am _ _ _ _ _ (@cD _ _ _ _ _ _ _ _ _ _ _ (@ms _ _ _ _ _ (@iO _ _ _ _ (@aS _ _ _ _ _ _ _ _ _ _ _ _ _ _ _ JQ Kc (hr.mono ⋯) ((@aS _ _ _ _ _ _ _ _ _ _ _ _ _ _ _ Ji Jx (hr.mono ⋯) ((¬3)∘((¬4)∘ae)) ∅ ⋯ ∅ ∅)∘((¬6)∘ae)) ∅ ⋯ ∅ ∅) ↥5)) (@am _ _ _ _ _ (@aH _ _ _ _ _ (@iY _ _ _ _ _))) (@bg _ _))))))) ↥5) (@ah _ _ _ _ _ _ _ _ (@ax _ _ _ _ _ 7 _ _ nd rfl ↥3 (@cB _ _ _ _ _ _ _ rfl ag (@aV _ _ _ _ _ _ _ (@aS _ _ _ _ _ _ _ _ _ _ _ _ _ _ _ Jk Jl (hr.mono ⋯) ((¬1)∘ae) ∅ ⋯ ∅ ∅) ag)) ∅ (by trivial)) (@ah _ _ _ _ _ _ _ _ (@ax _ _ _ _ _ 8 _ _ nd rfl ↥3 (@aS _ _ _ _ _ _ _ _ _ _ _ _ _ _ _ J8 KB (hr.mono ⋯) ((¬1)∘((¬7)∘ae)) ∅ ⋯ ∅ ∅) ∅ (by trivial)) (@ah _ _ _ _ _ _ _ _ (@ax _ _ _ _ _ 4 _ _ nd rfl ↥3 (@aS _ _ _ _ _ _ _ _ _ _ _ _ _ _ _ J9 KC (hr.mono ⋯) ((¬1)∘((¬8)∘((¬7)∘ae))) ∅ ⋯ ∅ ∅) ∅ (by trivial)) (@ah _ _ _ _ _ _ _ _ (@cD _ _ _ _ _ _ _ _ _ _ _ (@u7 _ _ _ _ (@tL _ _ _ _ _ _ _ _ (@ms _ _ _ _ _ (@iO _ _ _ _ (@aS _ _ _ _ _ _ _ _ _ _ _ _ _ _ _ Jy J_ (hr.mono ⋯) ((¬8)∘((¬4)∘ae)) ∅ ⋯ ∅ ∅) ↥5)) (@oN _ _ _ _ _ (@ms _ _ _ _ _ (@iO _ _ _ _ (@aS _ _ _ _ _ _ _ _ _ _ _ _ _ _ _ Jy J_ (hr.mono ⋯) ((¬8)∘((@iL _ _ _ _ _ _ _ _ _ _ rfl (¬4) (@iM _ _) (@iN _ _ _ _ ag))∘ae)) ∅ ⋯ ∅ ∅) ↥5))))) (@am _ _ _ _ _ (@aH _ _ _ _ _ (@iY _ _ _ _ _))) (@bg _ _)) (@ah _ _ _ _ _ _ _ _ (@cD _ _ _ _ _ _ _ _ _ _ _ (@ms _ _ _ _ _ (@iO _ _ _ _ (@aS _ _ _ _ _ _ _ _ _ _ _ _ _ _ _ JQ Kc (hr.mono ⋯) ((@aS _ _ _ _ _ _ _ _ _ _ _ _ _ _ _ Ji Jx (hr.mono ⋯) ((¬8)∘((@iL _ _ _ _ _ _ _ _ _ _ rfl (¬4) (@iM _ _) (@iN _ _ _ _ ag))∘ae)) ∅ ⋯ ∅ ∅)∘((@aS _ _ _ _ _ _ _ _ _ _ _ _ _ _ _ JH Kd (hr.mono ⋯) ((¬8)∘((@iL _ _ _ _ _ _ _ _ _ _ rfl (¬4) (@iM _ _) (@iN _ _ _ _ ag))∘ae)) ∅ ⋯ ∅ ∅)∘ae)) ∅ ⋯ ∅ ∅) ↥5)) (@am _ _ _ _ _ (@aH _ _ _ _ _ (@iY _ _ _ _ _))) (@bg _ _)) (@am _ _ _ _ _ (@aH _ _ _ _ _ (@aS _ _ _ _ _ _ _ _ _ _ _ _ _ _ _ JQ Kc (hr.mono ⋯) ((@aS _ _ _ _ _ _ _ _ _ _ _ _ _ _ _ Ji Jx (hr.mono ⋯) ((¬8)∘((@aG _ _ _ _ _ _ ae)∘ae)) ∅ ⋯ ∅ ∅)∘((@aG _ _ _ _ _ _ ((@aG _ _ _ _ _ _ ((@aG _ _ _ _ _ _ ((@aG _ _ _ _ _ _ ((@aG _ _ _ _ _ _ ae)∘((@aG _ _ _ _ _ _ ae)∘ae)))∘((@aG _ _ _ _ _ _ (ag∘(ag∘ae)))∘ae)))∘ae))∘ae))∘ae)) ∅ ⋯ ∅ ∅)))))))))))
local macro_rules|`(tactic|simp?[$ts,*])=>`(tactic|simp[$ts,*,gz,jr,aE,i0,bh,de,aU,cT,kj,nF,pI,aO,aB,ui,af,vC,cW,aj,aa,bf,aI,bY,my,um,jF,Dd,jE,ug,nc,si,eV,eM,bV,ba,tF,dI,fD,nq,dA,bF,pE,r6,bC,au,aq,br,bM,aF,aX,rG,di,em,cy,gh,gy,gv,gp,gk,eD,eC,eE,dw,el,mU,eA,jg,mV,jj,gw,jh,ji,eG,eF,dy,eH,j3,i7,eS,iu,ix,mI,dq,dm,dH,gu,Mh,-MG,-Mp,-NR,-Oi,-MH,-NC,-getElem?_pos,-Mu,mR,mQ,mL,mK,mO,mP,mM,mS])
theorem vF{n k:Int}(h:0<k):0<=n%k:=Qg _ (Int.ne_of_gt h)
theorem vG{n k:Int}(h:0<k):n%k<k:=Qh _ h
def nx:List Int->Int|[]=>0|d::_=>d
def iW(ds:List Int):Prop:=∀d∈ds,0<=d/\d<2147483648
theorem CS{ds:List Int}(h:iW ds):0<=nx ds/\nx ds<2147483648:=by cases ds with|nil=>exact⟨Int.le_refl 0,by show(0:Int)<2147483648;decide⟩|cons d r=>exact h d ↥1
theorem GT{ds:List Int}(h:iW ds):iW ds.tail:=λd hd=>h d (List.mem_of_mem_tail hd)
theorem EQ(ds:List Int):aY [.l (ds.map .int)]=some (.d (.int (nx ds)),[.l (ds.tail.map .int)]):=by have hq:∀e:En,e[0]?=some (some (.l (ds.map .int)))->cS false e (.s 0) (.l [])=some (.d (.bool (ds.map PyData.int).isEmpty)):=λe he=>oj he (jy ds).1;cases ds with|nil=>simp?[aY,uu,hq,nx]|cons d r=>simp?[aY,uu,hq,nx]
theorem iT{ds:List Int}(hd:iW ds):∃(n:Int) (ds':List Int),aY [.l (ds.map .int)]=some (.d (.int n),[.l (ds'.map .int)])/\0<=n/\n<2147483648/\iW ds':=⟨nx ds,ds.tail,EQ ds,(CS hd).1,(CS hd).2,GT hd⟩
theorem wo(cell k:Int)(h0:0<=k)(h1:k<=1000):∃r,jP [.d (.int cell),.d (.int k)]=some (.d (.int r),[.d (.int cell),.d (.int k)])/\0<=r/\r<2147483648:=by
 have a1:ke (cell%2147483647) 48271=true:=rF ⋯ ⋯;have a2:ke 7919 k=true:=yZ ⋯ ⋯;have a3:ke (7919*k) k=true:=rF ↥0 ↥0;have a4:ke ((cell%2147483647*48271+7919*k*k+104729)%2147483647) ((cell%2147483647*48271+7919*k*k+104729)%2147483647)=true:=rF ↥0 ↥0;refine⟨_,by simp?[jP,vq,aQ,fK,a1,a2,a3,a4];rfl,?_,?_⟩;·lia
 ·lia
theorem qV{ds:List Int}(h:iW ds){r:Int}(h0:0<=r)(h1:r<2147483648):iW (ds++[r]):=λd hd=>by
 rcases LK hd with hd|hd;·exact h d hd
 ·simp at hd;subst hd;exact⟨h0,h1⟩
abbrev dE(ns ds:List Int)(v2 v3 v4:Option Sv):En:=[some (.d (.list (ns.map .int))),some (.l (ds.map .int)),v2,v3,v4]
inductive DI (ns:List Int) (i:Nat):En->Prop|mk{ds v2 v3 v4}(hd:iW ds) (hl:ds.length<=1000*i):DI ns i (dE ns ds v2 v3 v4)
inductive DJ (ns:List Int) (k cell:Int) (n i:Nat):En->Prop|mk{ds v4}(hd:iW ds) (hl:ds.length=n+i):DJ ns k cell n i (dE ns ds (some (.d (.int k))) (some (.d (.int cell))) v4)
inductive DW (ns:List Int) (k:Int) (v4:Option Sv) (n:Nat):En->Prop|mk{cell ds}(hc:0<=cell) (hd:iW ds) (hl:ds.length<=max n 900):DW ns k v4 n (dE ns ds (some (.d (.int k))) (some (.d (.int cell))) v4)
theorem B8(ns:List Int)(hn:ns.length<=63):∃ds,kZ [.d (.list (ns.map .int))]=some (.l (ds.map .int),[.d (.list (ns.map .int))])/\iW ds:=by
 have inner:∀(cell k:Int) (ds:List Int) (v4:Option Sv),0<=k->k<=63->iW ds->ds.length<=63000->∃ds' v4',(∀W,eN W jL (aq 4) gQ (dE ns ds (some (.d (.int k))) (some (.d (.int cell))) v4)=some (.nx (dE ns ds' (some (.d (.int k))) (some (.d (.int cell))) v4')))/\iW ds'/\ds'.length=ds.length+12:=by
  intro cell k ds v4 k0 k1 hd hl;obtain⟨e',h1,h2⟩:=cP (own:=[]) (g:=aq 4) (f:=gQ) (DJ ns k cell ds.length) (bL 0 12) 0 (dE ns ds (some (.d (.int k))) (some (.d (.int cell))) v4) (λi x e hx hI=>by
   obtain⟨rfl,hi⟩:=iP hx;obtain⟨hd',hl'⟩:=hI;rename_i ds' v4';obtain⟨r1,c1,_,_⟩:=wo cell (3*(0+(i:Int))+1) ↥0 ↥0;obtain⟨r2,c2,c3,c4⟩:=wo r1 (0+(i:Int)+k+2) ↥0 ↥0;have a1:ke 3 (0+(i:Int))=true:=yZ ⋯ ⋯;refine⟨_,dE ns (ds'++[r2]) (some (.d (.int k))) (some (.d (.int cell))) (some (.d (.int (0+(i:Int))))),rfl,?_,bH,.mk (qV hd' c3 c4) ↥7⟩;have hlen:ds'.length<1000000:=by lia
   simp only[Int.zero_add]at a1 c1 c2;simp?[dE,gQ,c1,c2,fK,a1,hlen]) (.mk hd rfl);obtain⟨hd',hl'⟩:=h2;rename_i ds' v4';rw[iQ]at hl';refine⟨ds',v4',λW=>?_,hd',by lia⟩;rw[ef (show jL _=some (bL 0 12,[],_) from dS (n:=12) rfl ⋯ ⋯)];exact h1
 have wh:∀(cell k:Int) (ds:List Int) (v4:Option Sv),0<=cell->iW ds->ds.length<=63100->∃cell' ds',iR (2^4200) fj jH (dE ns ds (some (.d (.int k))) (some (.d (.int cell))) v4)=some (.nx (dE ns ds' (some (.d (.int k))) (some (.d (.int cell'))) v4))/\0<=cell'/\iW ds'/\ds'.length<=max ds.length 900:=by
  intro cell k ds v4 hc hd hl;have tst:∀(cell:Int) (ds:List Int),fj (dE ns ds (some (.d (.int k))) (some (.d (.int cell))) v4)=some (decide (1000000000000000000<=cell)&&decide ((ds.length:Int)<900),dE ns ds (some (.d (.int k))) (some (.d (.int cell))) v4):=by
   intro cell ds;by_cases h:(1000000000000000000:Int)<=cell;·simp?[dE,fj,kR,ly,h]
   ·simp?[dE,fj,kR,ly,h]
  obtain⟨e0,e',h1,hI,h3⟩:=iV (ft:=fj) (f:=jH) (DW ns k v4 ds.length) (λe=>1000000-CN 1 e) (λe hI=>by
   obtain⟨hc',hd',hl'⟩:=hI;rename_i cell' ds';rw[tst];by_cases c1:(1000000000000000000:Int)<=cell'
   ·by_cases c2:(ds'.length:Int)<900
    ·refine .inr ⟨_,dE ns (ds'++[cell'%2147483629]) (some (.d (.int k))) (some (.d (.int (cell'/2147483629)))) v4,by rw[decide_eq_true c1,decide_eq_true c2];rfl,?_,.mk ↥0 (qV hd' ↥0 ↥0) ↥7,?_⟩
     ·have hlen:ds'.length<1000000:=by lia
      have b8:Bt 8000 2147483629:=lW ⋯ ⋯;simp?[dE,jH,aQ,fm,b8,hlen]
     ·simp[CN,dE];lia
    ·exact .inl ⟨_,by rw[decide_eq_true c1,decide_eq_false c2];rfl,trivial⟩
   ·exact .inl ⟨_,by rw[decide_eq_false c1];rfl,trivial⟩) (2^4200) _ (.mk hc hd ↥0) (rC (m:=20) (Qt (Nat.sub_le _ _) ⋯) ⋯);obtain⟨hc',hd',hl'⟩:=hI;rename_i cell' ds';rw[tst]at h3;have h4:=(Prod.mk.inj (Nm h3)).2;subst h4;exact⟨cell',ds',h1,hc',hd',hl'⟩
 have turn:∀(i:Nat) (ds:List Int) (v3 v4:Option Sv) (hi:i<ns.length),iW ds->ds.length<=1000*i->∃ds2 v3' v4',ff (dE ns ds (some (.d (.int (i:Int)))) v3 v4)=some (.nx (dE ns ds2 (some (.d (.int (i:Int)))) v3' v4'))/\iW ds2/\ds2.length<=1000*(i+1):=by
  intro i ds v3 v4 hi hd hl;have hcell:atI (ns.map PyData.int) (i:Int)=some (.int ns[i]):=by rw[i9 ↥0 (by rw[Mn];lia)];simp[hi]
  have c0:(0:Int)<=(ns[i].natAbs:Int):=by lia
  have st:aU 3 (aI (g1 uC) (aa (aB cK (af 0) (af 2)) aj)) (dE ns ds (some (.d (.int (i:Int)))) v3 v4)=some (.nx (dE ns ds (some (.d (.int (i:Int)))) (some (.d (.int (ns[i].natAbs:Int)))) v4)):=by simp?[dE,hcell]
  generalize (ns[i].natAbs:Int)=cell at c0 st;have mid:∃ds1 v4',i0 (aO (aB AR (af 3) (aB uD (vC (.int 10)) (vC (.int 18))))) (eN ([4]++[]) jL (aq 4) gQ) de (dE ns ds (some (.d (.int (i:Int)))) (some (.d (.int cell))) v4)=some (.nx (dE ns ds1 (some (.d (.int (i:Int)))) (some (.d (.int cell))) v4'))/\iW ds1/\ds1.length<=ds.length+12:=by
   by_cases cb:cell<1000000000000000000;·obtain⟨ds1,v4',f1,f2,f3⟩:=inner cell (i:Int) ds v4 ↥0 ↥0 hd ↥0;refine⟨ds1,v4',?_,f2,by lia⟩;rw[GA (e1:=dE ns ds (some (.d (.int (i:Int)))) (some (.d (.int cell))) v4) (by simp?[dE,kR,ly,cb])];exact f1 _
   ·refine⟨ds,v4,?_,hd,by lia⟩;rw[Gz (e1:=dE ns ds (some (.d (.int (i:Int)))) (some (.d (.int cell))) v4) (by simp?[dE,kR,ly,cb])];rfl
  obtain⟨ds1,v4',m1,m2,m3⟩:=mid;obtain⟨cell2,ds2,w1,w2,w3,w4⟩:=wh cell (i:Int) ds1 v4' c0 m2 ↥0;by_cases c2:(2147483629:Int)<=cell2
  ·refine⟨ds2++[cell2%2147483629],some (.d (.int cell2)),v4',?_,qV w3 ↥0 ↥0,by simp;lia⟩;have hlen:ds2.length<1000000:=by lia
   unfold ff;rw[jU st,jU m1,jU w1];simp?[dE,c2,aQ,hlen]
  ·refine⟨ds2,some (.d (.int cell2)),v4',?_,w3,by lia⟩;unfold ff;rw[jU st,jU m1,jU w1];simp?[dE,c2]
 obtain⟨e',h1,hI⟩:=cP (own:=[]) (g:=aq 2) (f:=ff) (DI ns) (bL 0 (min (ns.length:Int) 63).toNat) 0 (dE ns [] none none none) (λi x e hx hI=>by obtain⟨rfl,hi⟩:=iP hx;obtain⟨hd,hl⟩:=hI;rename_i ds v2 v3 v4;rw[MN]at hl⊢;obtain⟨ds2,v3',v4',t1,t2,t3⟩:=turn i ds v3 v4 ↥0 hd hl;exact⟨dE ns ds (some (.d (.int (i:Int)))) v3 v4,_,by simp[aq,dE],t1,bH,.mk t2 t3⟩) (.mk (λd hd=>by cases hd) ↥1);obtain⟨hd,hl⟩:=hI;rename_i ds v2 v3 v4;refine⟨ds,?_,hd⟩;have hf:∀W,eN W l6 (aq 2) ff (dE ns [] none none none)=some (.nx (dE ns ds v2 v3 v4)):=λW=>by rw[ef (show l6 _=some (bL 0 (min (ns.length:Int) 63).toNat,[],dE ns [] none none none) from dS (n:=min (ns.length:Int) 63) (by simp?[dE]) ↥0 ↥0)];exact h1
 unfold dE at hf;simp only[MG]at hf;simp?[kZ,vo,hf]
theorem GO(a b:Int)(hb:Bt 4000 b):tw [.d (.int a),.d (.int b)]=some (.d (.int (Mm a b)),[.d (.int a),.d (.int b)]):=by
 have tst:∀x y:Int,kG [some (.d (.int x)),some (.d (.int y))]=some (!(y==0),[some (.d (.int x)),some (.d (.int y))]):=λx y=>by simp?[kG]
 obtain⟨e0,e',h1,⟨x,y,he,hg,hy⟩,h3⟩:=iV (ft:=kG) (f:=nH) (λe=>∃x y,e=[some (.d (.int x)),some (.d (.int y))]/\Mm x y=Mm a b/\Bt 4000 y) (qc 1) (λe⟨x,y,he,hg,hy⟩=>by
  subst he;rw[tst];by_cases c:y=0;·subst c;exact .inl ⟨_,rfl,trivial⟩
  ·refine .inr ⟨_,[some (.d (.int y)),some (.d (.int (x.fmod y)))],by rw[beq_false_of_ne c];rfl,by simp?[nH,yy c],⟨y,x.fmod y,rfl,by rw[sV,hg],?_⟩,?_⟩;·have:=gg x c;exact Bt.of_le hy ↥0
   ·have:=gg x c;simpa[qc]using this) (2^4200) _ ⟨a,b,rfl,rfl,hb⟩ (rC (m:=4000) (by simpa[qc,Bt]using hb) ⋯);subst he;rw[tst]at h3;have h4:=Prod.mk.inj (Nm h3);have hy0:y=0:=by simpa using h4.1
 subst hy0;have h5:=h4.2;subst h5;have hs:iR (2^4200) kG nH [some (.d (.int a)),some (.d (.int b))]=some (.nx [some (.d (.int x)),some (.d (.int 0))]):=h1;have hg':(x.natAbs:Int)=(Mm a b:Int):=by rw[<-hg];simp
 simp only[tw,Ct,gz,jr,aE,i0,bh,de,aU,cT,kj,nF,pI,aO,aB,ui,af,vC,cW,aj,aa,bf,aI,bY,my,um,jF,Dd,jE,ug,nc,si,eV,eM,bV,ba,tF,dI,fD,nq,dA,bF,pE,r6,bC,au,aq,br,bM,aF,aX,rG,di,em,cy,gh,gy,gv,gp,gk,eD,eC,eE,dw,el,mU,eA,jg,mV,jj,gw,jh,ji,eG,eF,dy,eH,j3,i7,eS,iu,ix,mI,dq,dm,dH,gu,Mh,-MG,-Mp,-NR,-Oi,-MH,-NC,-getElem?_pos,-Mu,mR,mQ,mL,mK,mO,mP,mM,mS];simp?[hs,hg']
theorem Ai(t b:Int)(hb:0<b)(h:Bt 4000 b):m6 [.d (.int t),.d (.int b)]=some (.d (.tuple [.int (lowM t b).1,.int (lowM t b).2]),[.d (.int t),.d (.int b)]):=by
 have g0:=rc (t:=t) (b:=b) ↥0;have g1:(Mm t b:Int)≠0:=by lia
 have g8:Bt 8000 (Mm t b:Int):=(yD (t:=t) ↥0 h).mono ⋯;have e:lowM t b=(t.fdiv (Mm t b:Int),b.fdiv (Mm t b:Int)):=by unfold lowM;rw[if_neg ↥0]
 rw[e];simp?[m6,Cu,GO t b h,vJ g1 g8]
theorem Cy{i:Int}{n:Nat}(h1:-2147483648<i)(h2:i<2147483648)(hn:31<=n):Bt n i:=Bt.mono (m:=31) (by unfold Bt;lia) hn
def yh(t b:Int):Prop:=0<=t/\t<=b/\1<=b/\b<=100/\Mm t b=1
theorem Ag(n k:Int)(hn:0<=n):∃t b,eK [.d (.int n),.d (.int k)]=some (.d (.tuple [.int t,.int b]),[.d (.int n),.d (.int k)])/\yh t b:=by
 have b9:Bt 8000 9:=lW ⋯ ⋯;have b100:Bt 8000 100:=lW ⋯ ⋯;have low:∀t b:Int,0<b->0<=t->t<=b->b<=100->yh (lowM t b).1 (lowM t b).2:=λt b hb h0 h1 h2=>by obtain⟨r1,r2,r3,r4⟩:=uO hb h0 h1 h2;exact⟨r1,r2,r3,r4,tf ↥0⟩
 by_cases c0:k=0
 ·subst c0;obtain⟨x,hx,ha⟩:=i8 (xs:=[PyData.tuple [.int 1,.int 2],.tuple [.int 1,.int 3],.tuple [.int 2,.int 3],.tuple [.int 1,.int 1],.tuple [.int 0,.int 1],.tuple [.int 3,.int 4]]) (i:=n%6) ↥0 ↥7;obtain⟨t,b,rfl,hc⟩:∃t b,x=.tuple [.int t,.int b]/\yh t b:=by simp only[Nc,Nx,or_false]at hx;rcases hx with rfl|rfl|rfl|rfl|rfl|rfl<;>exact⟨_,_,rfl,by unfold yh;decide⟩
  exact⟨t,b,by simp?[eK,i_,aQ,ha],hc⟩
 ·by_cases c1:k=1;·subst c1;have hm:(n/9)%(2+n%9-1)<2+n%9-1:=Qh _ ↥0;have hm0:0<=(n/9)%(2+n%9-1):=Qg _ ↥0;refine⟨_,_,?_,low (1+(n/9)%(2+n%9-1)) (2+n%9) ↥0 ↥0 ↥0 ↥0⟩;have hpos:∀e:En,a7 e (.d (.int (n/9))) (.d (.int (2+n%9-1)))=_:=λe=>aQ ↥0;have hl:=Ai (1+(n/9)%(2+n%9-1)) (2+n%9) ↥0 (Cy ↥0 ↥0 ⋯);simp?[eK,i_,aQ,fm,b9,hpos,hl]
  ·by_cases c2:k=2;·subst c2;have hm:(n/100)%(1+n%100+1)<1+n%100+1:=Qh _ ↥0;have hm0:0<=(n/100)%(1+n%100+1):=Qg _ ↥0;refine⟨_,_,?_,low ((n/100)%(1+n%100+1)) (1+n%100) ↥0 ↥0 ↥0 ↥0⟩;have hpos:∀e:En,a7 e (.d (.int (n/100))) (.d (.int (1+n%100+1)))=_:=λe=>aQ ↥0;have hl:=Ai ((n/100)%(1+n%100+1)) (1+n%100) ↥0 (Cy ↥0 ↥0 ⋯);simp?[eK,i_,aQ,fm,b100,hpos,hl]
   ·refine⟨1,1,?_,by unfold yh;decide⟩;simp?[eK,i_,c0,c1,c2]
theorem B'(n k:Int):∃r,k_ [.d (.int n),.d (.int k)]=some (.d (.int r),[.d (.int n),.d (.int k)])/\0<=r/\r<=1000:=by
 obtain⟨x,hx,ha⟩:=i8 (xs:=[PyData.int (n%7),.int (5+n%2),.int (n%1001),.int (1000-n%3)]) (i:=k%4) ↥0 ↥7;obtain⟨r,rfl,hr⟩:∃r,x=.int r/\0<=r/\r<=1000:=by simp only[Nc,Nx,or_false]at hx;rcases hx with rfl|rfl|rfl|rfl<;>exact⟨_,rfl,by lia,by lia⟩
 exact⟨r,by simp?[k_,vx,aQ,ha],hr⟩
abbrev tE(ds:List Int)(things many shape odds ws:Int)(ts:List lV)(v7 v8 v9 v10 v11 v12:Option Sv):En:=[some (.l (ds.map .int)),some (.d (.int things)),some (.d (.int many)),some (.d (.int shape)),some (.d (.int odds)),some (.d (.int ws)),some (.l (ts.map b7)),v7,v8,v9,v10,v11,v12]
inductive TR (things many shape odds ws:Int) (ts:List lV) (k:Option Sv):En->Prop|mk{t ds w8 w9 w10 w11 w12}(hd:iW ds) (ht:t.Ok things):TR things many shape odds ws ts k (tE ds things many shape odds ws (ts++[t]) k w8 w9 w10 w11 w12)
inductive TI (things many a b c:Int) (i:Nat):En->Prop|mk{ts ds w7 w8 w9 w10 w11 w12}(hd:iW ds) (hl:ts.length=i) (ht:∀t∈ts,t.Ok things):TI things many a b c i (tE ds things many a b c ts w7 w8 w9 w10 w11 w12)
theorem GQ(ds:List Int)(things many shape odds ws:Int)(ts:List lV)(k:Int)(v8 v9 v10 v11 v12:Option Sv)(hd:iW ds)(h2:2<=things)(h12:things<=100)(s0:0<=shape)(s1:shape<6)(k0:0<=k)(hl:ts.length<=1000):∃e',gR (tE ds things many shape odds ws ts (some (.d (.int k))) v8 v9 v10 v11 v12)=some (.nx e')/\TR things many shape odds ws ts (some (.d (.int k))) e':=by
 obtain⟨n,d1,tn,-,-,hd1⟩:=iT hd;obtain⟨m,d2,tm,m0,-,hd2⟩:=iT hd1;obtain⟨x,hx,ha⟩:=i8 (xs:=[PyData.int (n%things),.int 0,.int (k%things),.int (n%things),.int (n%2),.int (n%things)]) (i:=shape) s0 ↥7;have tp:0<things:=Ro ⋯ h2;have tq:0<things-1:=Int.sub_pos_of_lt (Ro ⋯ h2);have nt:0<=n%things/\n%things<things:=⟨vF tp,vG tp⟩;have kt:0<=k%things/\k%things<things:=⟨vF tp,vG tp⟩;obtain⟨one,rfl,o0,o1⟩:∃r,x=.int r/\0<=r/\r<things:=by simp only[Nc,Nx,or_false]at hx;rcases hx with rfl|rfl|rfl|rfl|rfl|rfl<;>exact⟨_,rfl,by lia,by lia⟩
 have r0:0<=(n/12)%(things-1):=vF tq;have r1:(n/12)%(things-1)<things-1:=vG tq;have q0:0<=(one+1+(n/12)%(things-1))%things:=vF tp;have q1:(one+1+(n/12)%(things-1))%things<things:=vG tp;have qn:(one+1+(n/12)%(things-1))%things≠one:=λz=>by
  by_cases c:one+1+(n/12)%(things-1)<things;·rw[Int.emod_eq_of_lt ↥0 c]at z;lia
  ·have e:(one+1+(n/12)%(things-1))%things=(one+1+(n/12)%(things-1)-things)%things:=by rw[Int.sub_emod_right]
   rw[e,Int.emod_eq_of_lt ↥0 ↥0]at z;lia
 obtain⟨t,b,c1,c2,c3,c4,c5,c6⟩:=Ag m odds m0;obtain⟨w,w1,w2,w3⟩:=B' (m/10007) ws;have b12:Bt 8000 12:=lW ⋯ ⋯;have b107:Bt 8000 10007:=lW ⋯ ⋯;have g1:∀(e:En) (i:Int),a7 e (.d (.int i)) (.d (.int things))=some (.d (.int (i%things))):=λe i=>aQ tp;have g2:∀(e:En) (i:Int),a7 e (.d (.int i)) (.d (.int (things-1)))=some (.d (.int (i%(things-1)))):=λe i=>aQ tq;have hlen:ts.length<1000000:=by lia
 by_cases c:shape=4;·subst c;refine⟨tE d2 things many 4 odds ws (ts++[⟨0,1,t,b,w⟩]) (some (.d (.int k))) (some (.d (.int n))) (some (.d (.int 0))) (some (.d (.int 1))) (some (.d (.int m))) (some (.d (.tuple [.int 0,.int 1]))),?_,.mk hd2 ⟨by show(0:Int)<=0;decide,by show(0:Int)<1;decide,by show(1:Int)<things;lia,c2,c3,c4,c5,w2,w3,c6⟩⟩;simp?[tE,gR,tn,tm,aQ,g1,g2,fm,b12,b107,ha,c1,w1,lZ,b7,hlen];decide
 ·refine⟨tE d2 things many shape odds ws (ts++[⟨min one ((one+1+(n/12)%(things-1))%things),max one ((one+1+(n/12)%(things-1))%things),t,b,w⟩]) (some (.d (.int k))) (some (.d (.int n))) (some (.d (.int one))) (some (.d (.int ((one+1+(n/12)%(things-1))%things)))) (some (.d (.int m))) (some (.d (.tuple [.int (min one ((one+1+(n/12)%(things-1))%things)),.int (max one ((one+1+(n/12)%(things-1))%things))]))),?_,.mk hd2 ⟨by show 0<=min _ _;lia,by show min _ _<max _ _;lia,by show max _ _<_;lia,c2,c3,c4,c5,w2,w3,c6⟩⟩;simp?[tE,gR,tn,tm,aQ,g1,g2,fm,b12,b107,ha,c1,w1,lZ,b7,hlen,c]
theorem Ak(ds:List Int)(things many:Int)(hd:iW ds)(h2:2<=things)(h12:things<=100)(m0:0<=many)(m1:many<=1000):∃(ts:List lV) (ds':List Int),kd [.l (ds.map .int),.d (.int things),.d (.int many)]=some (.d (.tuple (ts.map b7)),[.l (ds'.map .int),.d (.int things),.d (.int many)])/\iW ds'/\(ts.length:Int)=many/\∀t∈ts,t.Ok things:=by
 obtain⟨n0,d1,t0,-,-,hd1⟩:=iT hd;obtain⟨n1,d2,t1,-,-,hd2⟩:=iT hd1;obtain⟨n2,d3,t2,-,-,hd3⟩:=iT hd2;obtain⟨e',h1,hI⟩:=cP (own:=[]) (g:=aq 7) (f:=gR) (TI things many (n0%6) (n1%4) (n2%4)) (bL 0 many.toNat) 0 (tE d3 things many (n0%6) (n1%4) (n2%4) [] none none none none none none) (λi x e hx hI=>by obtain⟨rfl,hi⟩:=iP hx;obtain⟨hd',hl,ht⟩:=hI;rename_i ts ds' w7 w8 w9 w10 w11 w12;obtain⟨e9,s1,⟨s2,s3⟩⟩:=GQ ds' things many (n0%6) (n1%4) (n2%4) ts (0+(i:Int)) w8 w9 w10 w11 w12 hd' h2 h12 (vF ⋯) (vG ⋯) ↥0 ↥0;exact⟨_,_,rfl,s1,bH,.mk s2 ↥7 λz hz=>by
  rcases LK hz with hz|hz;·exact ht z hz
  ·simp at hz;subst hz;exact s3⟩) (.mk hd3 rfl λt ht=>by cases ht);obtain⟨hd',hl,ht⟩:=hI;rename_i ts ds' w7 w8 w9 w10 w11 w12;refine⟨ts,ds',?_,hd',by rw[hl,iQ];lia,ht⟩;have hf:∀W,eN W oq (aq 7) gR (tE d3 things many (n0%6) (n1%4) (n2%4) [] none none none none none none)=some (.nx (tE ds' things many (n0%6) (n1%4) (n2%4) ts w7 w8 w9 w10 w11 w12)):=λW=>by rw[ef (show oq _=some (bL 0 many.toNat,[],tE d3 things many (n0%6) (n1%4) (n2%4) [] none none none none none none) from dS (n:=many) (by simp?[tE]) ↥0 ↥0)];exact h1
 unfold tE at hf;simp only[MG]at hf;simp?[kd,x5,t0,t1,t2,aQ,hf]
abbrev wE(ds:List Int)(most tn things many:Int)(ts:List lV)(way:Int)(ps:List Int)(v8 v9:Option Sv):En:=[some (.l (ds.map .int)),some (.d (.int most)),some (.d (.int tn)),some (.d (.int things)),some (.d (.int many)),some (.d (.tuple (ts.map b7))),some (.d (.int way)),some (.l (ps.map .int)),v8,v9]
inductive WI (most tn things many:Int) (ts:List lV) (way:Int) (i:Nat):En->Prop|mk{ps ds w8}(hd:iW ds) (hpl:ps.length=i) (hps:∀p∈ps,0<=p/\p<=20):WI most tn things many ts way i (wE ds most tn things many ts way ps w8 none)
theorem GR(ds:List Int)(most tn:Int)(hd:iW ds)(m0:0<=most)(m1:most<=12)(k0:0<=tn)(k1:tn<=16):∃(W:aN) (ds':List Int),tD [.l (ds.map .int),.d (.int most),.d (.int tn)]=some (.d (ay W),[.l (ds'.map .int),.d (.int most),.d (.int tn)])/\iW ds'/\W.Ok/\W.things<=most/\(W.ties.length:Int)<=tn:=by
 obtain⟨n0,d1,t0,-,-,hd1⟩:=iT hd;obtain⟨n1,d2,t1,-,-,hd2⟩:=iT hd1;have mp:0<most+1:=Int.lt_add_one_of_le m0;have kp:0<tn+1:=Int.lt_add_one_of_le k0;have g0:∀(e:En),a7 e (.d (.int n0)) (.d (.int (most+1)))=some (.d (.int (n0%(most+1)))):=λe=>aQ mp;have g1':∀(e:En),a7 e (.d (.int n1)) (.d (.int (tn+1)))=some (.d (.int (n1%(tn+1)))):=λe=>aQ kp;have th0:0<=n0%(most+1):=vF mp;have th1:n0%(most+1)<most+1:=vG mp;have ti0:0<=n1%(tn+1):=vF kp;have ti1:n1%(tn+1)<tn+1:=vG kp;clear mp kp;generalize n0%(most+1)=things at th0 th1 g0;generalize n1%(tn+1)=tm at ti0 ti1 g1';obtain⟨many,hmany,mm,m00,m01⟩:∃many:Int,many=tm*(if decide (1<things)=true then 1 else 0)/\(1<things\/many=0)/\0<=many/\many<=tn:=by
  by_cases c:1<things;·exact⟨tm,by simp[c],.inl c,ti0,by lia⟩
  ·exact⟨0,by simp[c],.inr rfl,by lia,by lia⟩
 have gm:∀e:En,fJ e (.d (.int tm)) (.d (.int (if decide (1<things)=true then 1 else 0)))=some (.d (.int many)):=λe=>by rw[fK (rF (by split<;>decide) (by split<;>decide)),hmany]
 have gi:∀e:En,g1 wO e [.d (.bool (decide (1<things)))]=some (.d (.int (if decide (1<things)=true then 1 else 0))):=λe=>rfl;generalize (if decide (1<things)=true then 1 else 0:Int)=one at gm gi;obtain⟨ts,d3,t3,hd3,hlen,hts⟩:=Ak d2 (max 2 things) many hd2 ↥0 ↥0 m00 ↥0;obtain⟨n4,d4,t4,-,-,hd4⟩:=iT hd3;obtain⟨e',h1,hI⟩:=cP (own:=[]) (g:=aq 8) (f:=nI) (WI most tn things many ts (n4%3)) (bL 0 things.toNat) 0 (wE d4 most tn things many ts (n4%3) [] none none) (λi x e hx hI=>by
  obtain⟨rfl,hi⟩:=iP hx;obtain⟨hd5,hpl,hps⟩:=hI;rename_i ps d5 w8;obtain⟨p1,d6,t6,-,-,hd6⟩:=iT hd5;obtain⟨p2,d7,t7,-,-,hd7⟩:=iT hd6;obtain⟨z,hz,ha⟩:=i8 (xs:=[PyData.int 20,.int (1+p1%3),.int (p2%21)]) (i:=n4%3) (vF ⋯) (vG (k:=3) ⋯);obtain⟨p,rfl,hp⟩:∃r,z=.int r/\0<=r/\r<=20:=by simp only[Nc,Nx,or_false]at hz;rcases hz with rfl|rfl|rfl<;>exact⟨_,rfl,by lia,by lia⟩
  refine⟨wE d5 most tn things many ts (n4%3) ps (some (.d (.int (0+(i:Int))))) none,wE d7 most tn things many ts (n4%3) (ps++[p]) (some (.d (.int (0+(i:Int))))) none,rfl,?_,bH,.mk hd7 ↥7 λq hq=>by
   rcases LK hq with hq|hq;·exact hps q hq
   ·simp at hq;subst hq;exact hp⟩;have hlen:ps.length<1000000:=by lia
  simp?[wE,nI,t6,t7,aQ,ha,hlen]) (.mk hd4 rfl λp hp=>by cases hp);obtain⟨hd5,hpl,hps⟩:=hI;rename_i ps d5 w8;have hf:∀W,eN W rh (aq 8) nI (wE d4 most tn things many ts (n4%3) [] none none)=some (.nx (wE d5 most tn things many ts (n4%3) ps w8 none)):=λW=>by rw[ef (show rh _=some (bL 0 things.toNat,[],wE d4 most tn things many ts (n4%3) [] none none) from dS (n:=things) (by simp?[wE]) ↥0 ↥0)];exact h1
 obtain⟨p1,d6,t6,-,-,hd6⟩:=iT hd5;obtain⟨p2,d7,t7,-,-,hd7⟩:=iT hd6;obtain⟨p3,d8,t8,-,-,hd8⟩:=iT hd7;have xp:0<max 1 many:=Ro Int.zero_lt_one (Int.le_max_left _ _);have gx:∀(e:En),a7 e (.d (.int p1)) (.d (.int (max 1 many)))=some (.d (.int (p1%max 1 many))):=λe=>aQ xp;have x0:0<=p1%max 1 many:=vF xp;have x1:p1%max 1 many<max 1 many:=vG xp;obtain⟨z,hz,ha⟩:=i8 (xs:=[PyData.int 40,.int (1+p1%max 1 many),.int (p2%41)]) (i:=p3%3) (vF ⋯) (vG (k:=3) ⋯);obtain⟨asks,rfl,hasks⟩:∃r,z=.int r/\0<=r/\r<=40:=by simp only[Nc,Nx,or_false]at hz;rcases hz with rfl|rfl|rfl<;>exact⟨_,rfl,by lia,by lia⟩
 rw[iQ]at hpl;refine⟨⟨things,ts,ps,asks⟩,d8,?_,hd8,⟨th0,by show things<=12;lia,λt ht=>?_,by show ts.length<=16;lia,by show(ps.length:Int)=things;lia,hps,hasks.1,hasks.2⟩,by show things<=most;lia,by show(ts.length:Int)<=tn;lia⟩;·unfold wE at hf;simp only[MG]at hf;simp?[tD,Cv,t0,t1,g0,g1',gm,gi,t3,t4,aQ,hf,t6,t7,t8,gx,ha,ay]
 ·rcases mm with c|c;·have:=hts t ht;rw[show max 2 things=things by lia]at this;exact this
  ·have:ts=[]:=List.length_eq_zero_iff.mp ↥0;subst this;cases ht
theorem qt{W:aN}{asked:List Int}{thing:Int}(h:∀k∈asked,gG W k)(hl:asked.length<=1000):fq [.d (ay W),.d (.tuple (asked.map .int)),.d (.int thing)]=some (.d (.int (W.many asked thing)),[.d (ay W),.d (.tuple (asked.map .int)),.d (.int thing)]):=by
 let cs:En:=[some (.d (.int thing)),some (.d (ay W))];have hc:∀x∈asked.map PyData.int,eg (cs++[some (.d x)])=some (Aw (λk=>W.has k thing) x,cs++[some (.d x)]):=λx hx=>by obtain⟨k,hk,rfl⟩:=LM hx;simp?[Aw,cs,eg,ay,gP (h k hk),b7,aN.has]
 have he:∀x∈asked.map PyData.int,Aw (λk=>W.has k thing) x=true->eh (cs++[some (.d x)])=some (.d (id x),cs++[some (.d x)]):=λx hx _=>by simp?[cs,eh]
 obtain⟨t',hf⟩:=jK (cs:=cs) (ft:=eg) (fe:=eh) (b:=Aw (λk=>W.has k thing)) (y:=id) (asked.map PyData.int) none [] hc he ↥7;have hv:=lS (cp:=[(2,"_law_thing"),(0,"_law_web_here")]) (nT:=1) (fi:=mX) (g:=aq 2) (ft:=eg) (fe:=eh) (e:=[some (.d (ay W)),some (.d (.tuple (asked.map PyData.int))),some (.d (.int thing))]) (cs:=cs) (t:=[none]) (t':=[t']) (jn (fa:=af 1) rfl) rfl rfl hf;have hlen:(([]++OM id (List.filter (Aw (λk=>W.has k thing)) (asked.map PyData.int))).length:Int)=W.many asked thing:=by unfold aN.many;simp[List.filter_map];rfl
 simp only[fq,pL,gz,jr,aE,i0,bh,de,aU,cT,kj,nF,pI,aO,aB,ui,af,vC,cW,aj,aa,bf,aI,bY,my,um,jF,Dd,jE,ug,nc,si,eV,eM,bV,ba,tF,dI,fD,nq,dA,bF,pE,r6,bC,au,aq,br,bM,aF,aX,rG,di,em,cy,gh,gy,gv,gp,gk,eD,eC,eE,dw,el,mU,eA,jg,mV,jj,gw,jh,ji,eG,eF,dy,eH,j3,i7,eS,iu,ix,mI,dq,dm,dH,gu,Mh,-MG,-Mp,-NR,-Oi,-MH,-NC,-getElem?_pos,-Mu,mR,mQ,mL,mK,mO,mP,mM,mS];simp?[hv];simpa using hlen
theorem zm{W:aN}(ok:W.Ok){thing:Int}(h0:0<=thing)(h1:thing<W.things):atI (W.pat.map PyData.int) thing=some (.int (W.pat.getD thing.toNat 0)):=sx h0 (by have:=ok.pl;lia)
theorem GP{W:aN}(ok:W.Ok){asked taken:List Int}{k:Int}(h:∀k∈asked,gG W k)(hl:asked.length<=1000)(hk:gG W k):k7 [.d (ay W),.d (bW asked taken),.d (.int k)]=some (.d (.bool (W.may asked taken k)),[.d (ay W),.d (bW asked taken),.d (.int k)]):=by
 have tk:=hk.ok ok;have t0:=tk.o0;have t1:=tk.o1;have t2:=tk.o2;have p1:=zm ok (thing:=(W.tie k).one) ↥0 ↥0;have p2:=zm ok (thing:=(W.tie k).other) ↥0 ↥0;have a1:=qt (W:=W) (asked:=asked) (thing:=(W.tie k).one) h hl;have a2:=qt (W:=W) (asked:=asked) (thing:=(W.tie k).other) h hl;rw[dC]at a1 a2⊢;unfold aN.may aN.bears;by_cases c1:asked.contains k=true;·simp?[k7,pM,bW,c1];simp at c1;simp[c1]
 ·by_cases c2:W.asks<=(asked.length:Int)
  ·have c1':k∉asked:=by simpa using c1
   simp?[k7,pM,bW,c1',c2]
  ·have c1':k∉asked:=by simpa using c1
   have turn:∀(thing:Int) (v5:Option Sv),fq [.d (.tuple [.int W.things,.tuple (W.ties.map b7),.tuple (W.pat.map .int),.int W.asks]),.d (.tuple (asked.map .int)),.d (.int thing)]=some (.d (.int (W.many asked thing)),[.d (.tuple [.int W.things,.tuple (W.ties.map b7),.tuple (W.pat.map .int),.int W.asks]),.d (.tuple (asked.map .int)),.d (.int thing)])->atI (W.pat.map PyData.int) thing=some (.int (W.pat.getD thing.toNat 0))->iz [some (.d (.tuple [.int W.things,.tuple (W.ties.map b7),.tuple (W.pat.map .int),.int W.asks])),some (.d (bW asked taken)),some (.d (.int k)),some (.d (.tuple (asked.map .int))),some (.d (.tuple (taken.map .int))),some (.d (.int thing))]=(if (!taken.contains thing&&decide (W.many asked thing<W.pat.getD thing.toNat 0))=true then some (.nx [some (.d (.tuple [.int W.things,.tuple (W.ties.map b7),.tuple (W.pat.map .int),.int W.asks])),some (.d (bW asked taken)),some (.d (.int k)),some (.d (.tuple (asked.map .int))),some (.d (.tuple (taken.map .int))),some (.d (.int thing))]) else some (.rt (.d (.bool false)) [some (.d (.tuple [.int W.things,.tuple (W.ties.map b7),.tuple (W.pat.map .int),.int W.asks])),some (.d (bW asked taken)),some (.d (.int k)),some (.d (.tuple (asked.map .int))),some (.d (.tuple (taken.map .int))),some (.d (.int thing))])):=by
    intro thing v5 ha hp;by_cases d1:taken.contains thing=true
    ·have d1':thing∈taken:=by simpa using d1
     simp?[iz,d1']
    ·have d1':thing∉taken:=by simpa using d1
     by_cases d2:W.many asked thing<W.pat.getD thing.toNat 0
     ·have d2':¬W.pat.getD thing.toNat 0<=W.many asked thing:=by lia
      simp only[NT]at d2 d2' hp;simp?[iz,d1',ha,hp,d2,d2']
     ·have d2':W.pat.getD thing.toNat 0<=W.many asked thing:=by lia
      simp only[NT]at d2 d2' hp;simp?[iz,d1',ha,hp,d2,d2']
   have u1:=turn (W.tie k).one none a1 p1;have u2:=turn (W.tie k).other none a2 p2;have hf:∀Wl,eN Wl vK (aq 5) iz [some (.d (.tuple [.int W.things,.tuple (W.ties.map b7),.tuple (W.pat.map .int),.int W.asks])),some (.d (bW asked taken)),some (.d (.int k)),some (.d (.tuple (asked.map .int))),some (.d (.tuple (taken.map .int))),none]=kc [] (aq 5) iz [.int (W.tie k).one,.int (W.tie k).other] [some (.d (.tuple [.int W.things,.tuple (W.ties.map b7),.tuple (W.pat.map .int),.int W.asks])),some (.d (bW asked taken)),some (.d (.int k)),some (.d (.tuple (asked.map .int))),some (.d (.tuple (taken.map .int))),none]:=λWl=>by rw[ef];exact jn (by simp?[gP hk,b7])
   unfold bW at u1 u2 hf⊢;by_cases e1:(!taken.contains (W.tie k).one&&decide (W.many asked (W.tie k).one<W.pat.getD (W.tie k).one.toNat 0))=true
   ·by_cases e2:(!taken.contains (W.tie k).other&&decide (W.many asked (W.tie k).other<W.pat.getD (W.tie k).other.toNat 0))=true;·rw[if_pos e1]at u1;rw[if_pos e2]at u2;rw[e1,e2];simp only[k7,pM,gz,jr,aE,i0,bh,de,aU,cT,kj,nF,pI,aO,aB,ui,af,vC,cW,aj,aa,bf,aI,bY,my,um,jF,Dd,jE,ug,nc,si,eV,eM,bV,ba,tF,dI,fD,nq,dA,bF,pE,r6,bC,au,aq,br,bM,aF,aX,rG,di,em,cy,gh,gy,gv,gp,gk,eD,eC,eE,dw,el,mU,eA,jg,mV,jj,gw,jh,ji,eG,eF,dy,eH,j3,i7,eS,iu,ix,mI,dq,dm,dH,gu,Mh,-MG,-Mp,-NR,-Oi,-MH,-NC,-getElem?_pos,-Mu,mR,mQ,mL,mK,mO,mP,mM,mS];simp?[c1',c2,hf,kc,u1,u2,bH]
    ·rw[if_pos e1]at u1;rw[if_neg e2]at u2;rw[e1,Bool.not_eq_true _|>.mp e2];simp only[k7,pM,gz,jr,aE,i0,bh,de,aU,cT,kj,nF,pI,aO,aB,ui,af,vC,cW,aj,aa,bf,aI,bY,my,um,jF,Dd,jE,ug,nc,si,eV,eM,bV,ba,tF,dI,fD,nq,dA,bF,pE,r6,bC,au,aq,br,bM,aF,aX,rG,di,em,cy,gh,gy,gv,gp,gk,eD,eC,eE,dw,el,mU,eA,jg,mV,jj,gw,jh,ji,eG,eF,dy,eH,j3,i7,eS,iu,ix,mI,dq,dm,dH,gu,Mh,-MG,-Mp,-NR,-Oi,-MH,-NC,-getElem?_pos,-Mu,mR,mQ,mL,mK,mO,mP,mM,mS];simp?[c1',c2,hf,kc,u1,u2,bH]
   ·rw[if_neg e1]at u1;rw[Bool.not_eq_true _|>.mp e1];simp only[k7,pM,gz,jr,aE,i0,bh,de,aU,cT,kj,nF,pI,aO,aB,ui,af,vC,cW,aj,aa,bf,aI,bY,my,um,jF,Dd,jE,ug,nc,si,eV,eM,bV,ba,tF,dI,fD,nq,dA,bF,pE,r6,bC,au,aq,br,bM,aF,aX,rG,di,em,cy,gh,gy,gv,gp,gk,eD,eC,eE,dw,el,mU,eA,jg,mV,jj,gw,jh,ji,eG,eF,dy,eH,j3,i7,eS,iu,ix,mI,dq,dm,dH,gu,Mh,-MG,-Mp,-NR,-Oi,-MH,-NC,-getElem?_pos,-Mu,mR,mQ,mL,mK,mO,mP,mM,mS];simp?[c1',c2,hf,kc,u1,bH]
theorem Af{W:aN}{asked taken:List Int}{k:Int}(truth:Bool)(hk:gG W k)(h1:asked.length<60)(h2:taken.length<60):gX [.d (ay W),.d (bW asked taken),.d (.int k),.d (.bool truth)]=some (.d (bW (aN.askd asked k) (W.took taken k truth)),[.d (ay W),.d (bW asked taken),.d (.int k),.d (.bool truth)]):=by
 have s1:∀e,g1 bi e [.d (.tuple (asked.map PyData.int++[.int k]))]=some (.l ((dP (asked++[k])).map .int)):=λe=>by have:=kS (e:=e) (ns:=asked++[k]) ↥7;simpa using this
 have s2:∀e,g1 bi e [.d (.tuple (taken.map PyData.int++[.int (W.tie k).one,.int (W.tie k).other]))]=some (.l ((dP (taken++[(W.tie k).one,(W.tie k).other])).map .int)):=λe=>by have:=kS (e:=e) (ns:=taken++[(W.tie k).one,(W.tie k).other]) ↥7;simpa using this
 have g1':∀e,cQ e (.d (.tuple (asked.map .int))) (.d (.tuple [.int k]))=some (.d (.tuple (asked.map .int++[.int k]))):=λe=>lZ ↥7;have g2':∀e,cQ e (.d (.tuple (taken.map .int))) (.d (.tuple [.int (W.tie k).one,.int (W.tie k).other]))=some (.d (.tuple (taken.map .int++[.int (W.tie k).one,.int (W.tie k).other]))):=λe=>lZ ↥7;rw[dC];cases truth with|true=>simp?[gX,nX,bW,gP hk,b7,g1',g2',s1,s2,aN.askd,aN.took]|false=>simp?[gX,nX,bW,g1',s1,aN.askd,aN.took]
theorem mw(a b:Int)(hb:Bt 4000 b):bO [.d (.int a),.d (.int b)]=some (.d (.int (Mm a b)),[.d (.int a),.d (.int b)]):=by
 have tst:∀x y:Int,bB [some (.d (.int x)),some (.d (.int y))]=some (!(y==0),[some (.d (.int x)),some (.d (.int y))]):=λx y=>by simp?[bB]
 obtain⟨e0,e',h1,⟨x,y,he,hg,hy⟩,h3⟩:=iV (ft:=bB) (f:=b6) (λe=>∃x y,e=[some (.d (.int x)),some (.d (.int y))]/\Mm x y=Mm a b/\Bt 4000 y) (qc 1) (λe⟨x,y,he,hg,hy⟩=>by
  subst he;rw[tst];by_cases c:y=0;·subst c;exact .inl ⟨_,rfl,trivial⟩
  ·refine .inr ⟨_,[some (.d (.int y)),some (.d (.int (x.fmod y)))],by rw[beq_false_of_ne c];rfl,by simp?[b6,yy c],⟨y,x.fmod y,rfl,by rw[sV,hg],?_⟩,?_⟩;·have:=gg x c;exact Bt.of_le hy ↥0
   ·have:=gg x c;simpa[qc]using this) (2^4200) _ ⟨a,b,rfl,rfl,hb⟩ (rC (m:=4000) (by simpa[qc,Bt]using hb) ⋯);subst he;rw[tst]at h3;have h4:=Prod.mk.inj (Nm h3);have hy0:y=0:=by simpa using h4.1
 subst hy0;have h5:=h4.2;subst h5;have hs:iR (2^4200) bB b6 [some (.d (.int a)),some (.d (.int b))]=some (.nx [some (.d (.int x)),some (.d (.int 0))]):=h1;have hg':(x.natAbs:Int)=(Mm a b:Int):=by rw[<-hg];simp
 simp only[bO,gS,gz,jr,aE,i0,bh,de,aU,cT,kj,nF,pI,aO,aB,ui,af,vC,cW,aj,aa,bf,aI,bY,my,um,jF,Dd,jE,ug,nc,si,eV,eM,bV,ba,tF,dI,fD,nq,dA,bF,pE,r6,bC,au,aq,br,bM,aF,aX,rG,di,em,cy,gh,gy,gv,gp,gk,eD,eC,eE,dw,el,mU,eA,jg,mV,jj,gw,jh,ji,eG,eF,dy,eH,j3,i7,eS,iu,ix,mI,dq,dm,dH,gu,Mh,-MG,-Mp,-NR,-Oi,-MH,-NC,-getElem?_pos,-Mu,mR,mQ,mL,mK,mO,mP,mM,mS];simp?[hs,hg']
theorem uc(t b:Int)(hb:0<b)(h:Bt 4000 b):fP [.d (.int t),.d (.int b)]=some (.d (dF (lowM t b)),[.d (.int t),.d (.int b)]):=by
 have g0:=rc (t:=t) (b:=b) ↥0;have g1:(Mm t b:Int)≠0:=by lia
 have g8:Bt 8000 (Mm t b:Int):=(yD (t:=t) ↥0 h).mono ⋯;have e:lowM t b=(t.fdiv (Mm t b:Int),b.fdiv (Mm t b:Int)):=by unfold lowM;rw[if_neg ↥0]
 have nb:¬b<0:=by lia
 rw[e];simp?[fP,sC,mw t b h,vJ g1 g8,nb,dF]
theorem B_{a b:Fr}{n:Nat}(a2:0<a.2)(b2:0<b.2)(ha1:Bt n a.1)(ha:Bt n a.2)(hb1:Bt n b.1)(hb:Bt n b.2)(hn:n<=1900):lc [.d (dF a),.d (dF b)]=some (.d (dF (tm a b)),[.d (dF a),.d (dF b)]):=by have g1:∀e:En,fJ e (.d (.int a.1)) (.d (.int b.1))=some (.d (.int (a.1*b.1))):=λe=>fK (rE (ha1.mono ↥0) (hb1.mono ↥0));have g2:∀e:En,fJ e (.d (.int a.2)) (.d (.int b.2))=some (.d (.int (a.2*b.2))):=λe=>fK (rE (ha.mono ↥0) (hb.mono ↥0));have tl:=uc (a.1*b.1) (a.2*b.2) (Pp a2 b2) ((ha.mul hb).mono ↥0);unfold tm;unfold dF at*;simp?[lc,vy,g1,g2,tl]
theorem B5{a b:Fr}{n:Nat}(a2:0<a.2)(b2:0<b.2)(ha1:Bt n a.1)(ha:Bt n a.2)(hb1:Bt n b.1)(hb:Bt n b.2)(hn:n<=1900):k9 [.d (dF a),.d (dF b)]=some (.d (dF (tm a b)),[.d (dF a),.d (dF b)]):=by have g1:∀e:En,fJ e (.d (.int a.1)) (.d (.int b.1))=some (.d (.int (a.1*b.1))):=λe=>fK (rE (ha1.mono ↥0) (hb1.mono ↥0));have g2:∀e:En,fJ e (.d (.int a.2)) (.d (.int b.2))=some (.d (.int (a.2*b.2))):=λe=>fK (rE (ha.mono ↥0) (hb.mono ↥0));have tl:=Ai (a.1*b.1) (a.2*b.2) (Pp a2 b2) ((ha.mul hb).mono ↥0);unfold tm;unfold dF at*;simp?[k9,vw,g1,g2,tl]
def Hx:LS->Bool|.tuple _=>true|_=>false
theorem Dy{e:En}{d:LS}:Hs "tuple" e (.d d)=some (.d (.bool (Hx d))):=by cases d<;>rfl
theorem ue{n:Int}{t:lV}(o:t.Ok n):fQ [.d (.tuple [.int t.top,.int t.bot])]=some (.d (dF (ce t false)),[.d (.tuple [.int t.top,.int t.bot])]):=by have b0:=o.b0;have b1:=o.b1;have tl:=uc (t.bot-t.top) t.bot ↥0 (Bt.mono (m:=7) (by unfold Bt;lia) ⋯);rw[yW ↥0 o.cop]at tl;simp?[fQ,nY,tl,ce]
theorem B4{t:lV}:oA [.d (.tuple [.int t.top,.int t.bot])]=some (.d (dF (ce t false)),[.d (.tuple [.int t.top,.int t.bot])]):=by simp?[oA,xZ,ce,dF]
theorem D2:xQ 1 ((1,1):Fr):=⟨by decide,by decide,by decide,Int.dvd_refl _⟩
theorem jD{W:aN}{k:Int}(hk:gG W k):bJ [.d (ay W),.d (.int k)]=some (.d (.tuple [.int (W.tie k).one,.int (W.tie k).other]),[.d (ay W),.d (.int k)]):=by rw[dC];simp?[bJ,mE,gP hk,b7]
theorem ud{W:aN}{asked:List Int}{thing:Int}(h:∀k∈asked,gG W k)(hl:asked.length<=1000):eL [.d (ay W),.d (.tuple (asked.map .int)),.d (.int thing)]=some (.d (.int (W.many asked thing)),[.d (ay W),.d (.tuple (asked.map .int)),.d (.int thing)]):=by
 let cs:En:=[some (.d (.int thing)),some (.d (ay W))];have hc:∀x∈asked.map PyData.int,cN (cs++[some (.d x)])=some (Aw (λk=>W.has k thing) x,cs++[some (.d x)]):=λx hx=>by obtain⟨k,hk,rfl⟩:=LM hx;have t:=jD (h k hk);simp?[Aw,cs,cN,t,aN.has]
 have he:∀x∈asked.map PyData.int,Aw (λk=>W.has k thing) x=true->cO (cs++[some (.d x)])=some (.d (id x),cs++[some (.d x)]):=λx hx _=>by simp?[cs,cO]
 obtain⟨t',hf⟩:=jK (cs:=cs) (ft:=cN) (fe:=cO) (b:=Aw (λk=>W.has k thing)) (y:=id) (asked.map PyData.int) none [] hc he ↥7;have hv:=lS (cp:=[(2,"thing"),(0,"web")]) (nT:=1) (fi:=j5) (g:=aq 2) (ft:=cN) (fe:=cO) (e:=[some (.d (ay W)),some (.d (.tuple (asked.map PyData.int))),some (.d (.int thing))]) (cs:=cs) (t:=[none]) (t':=[t']) (jn (fa:=af 1) rfl) rfl rfl hf;have hlen:(([]++OM id (List.filter (Aw (λk=>W.has k thing)) (asked.map PyData.int))).length:Int)=W.many asked thing:=by unfold aN.many;simp[List.filter_map];rfl
 simp only[eL,mD,gz,jr,aE,i0,bh,de,aU,cT,kj,nF,pI,aO,aB,ui,af,vC,cW,aj,aa,bf,aI,bY,my,um,jF,Dd,jE,ug,nc,si,eV,eM,bV,ba,tF,dI,fD,nq,dA,bF,pE,r6,bC,au,aq,br,bM,aF,aX,rG,di,em,cy,gh,gy,gv,gp,gk,eD,eC,eE,dw,el,mU,eA,jg,mV,jj,gw,jh,ji,eG,eF,dy,eH,j3,i7,eS,iu,ix,mI,dq,dm,dH,gu,Mh,-MG,-Mp,-NR,-Oi,-MH,-NC,-getElem?_pos,-Mu,mR,mQ,mL,mK,mO,mP,mM,mS];simp?[hv];simpa using hlen
theorem Bw{W:aN}(ok:W.Ok){thing:Int}(h0:0<=thing)(h1:thing<W.things):atI (W.pat.map PyData.int) thing=some (.int (W.pat.getD thing.toNat 0)):=sx h0 (by have:=ok.pl;lia)
theorem wn{W:aN}(ok:W.Ok){asked taken:List Int}{thing:Int}(h:∀k∈asked,gG W k)(hl:asked.length<=1000)(h0:0<=thing)(h1:thing<W.things):bz [.d (ay W),.d (bW asked taken),.d (.int thing)]=some (.d (.bool (W.bears asked taken thing)),[.d (ay W),.d (bW asked taken),.d (.int thing)]):=by
 have a:=ud (thing:=thing) h hl;have p:=Bw ok h0 h1;have g2:∀e,cK e (.d (ay W)) (.d (.int 2))=some (.d (.tuple (W.pat.map .int))):=λe=>by rw[dC,eA,iu];rfl
 unfold aN.bears;generalize W.pat.getD thing.toNat 0=q at p⊢;by_cases c:taken.contains thing=true;·simp only[c];simp at c;simp?[bz,dQ,bW,c]
 ·have c':taken.contains thing=false:=by simpa using c
  simp only[c'];simp at c;unfold bW at a⊢;simp?[bz,dQ,c,a,g2,p]
theorem xH{W:aN}(ok:W.Ok){asked taken:List Int}{k:Int}(h:∀k∈asked,gG W k)(hl:asked.length<=1000)(hk:gG W k):dW [.d (ay W),.d (bW asked taken),.d (.int k)]=some (.d (.bool (W.may asked taken k)),[.d (ay W),.d (bW asked taken),.d (.int k)]):=by
 have o:=hk.ok ok;have o0:=o.o0;have o1:=o.o1;have o2:=o.o2;have b1:=wn ok (taken:=taken) (thing:=(W.tie k).one) h hl ↥0 ↥0;have b2:=wn ok (taken:=taken) (thing:=(W.tie k).other) h hl ↥0 ↥0;have th:=jD hk;have g3:∀e,cK e (.d (ay W)) (.d (.int 3))=some (.d (.int W.asks)):=λe=>by rw[dC,eA,ix];rfl
 unfold aN.may;by_cases c1:asked.contains k=true;·simp only[c1];simp at c1;simp?[dW,jI,bW,c1]
 ·have c1':asked.contains k=false:=by simpa using c1
  simp at c1;by_cases c2:W.asks<=(asked.length:Int);·simp only[c1',c2];simp?[dW,jI,bW,c1,c2,g3]
  ·simp only[c1',c2];have hc:ig [(0,"web"),(1,"stand")] 1 mZ (aq 2) jC jf [some (.d (ay W)),some (.d (bW asked taken)),some (.d (.int k)),some (.d (.tuple (asked.map .int)))]=some (.l [.bool (W.bears asked taken (W.tie k).one),.bool (W.bears asked taken (W.tie k).other)],[some (.d (ay W)),some (.d (bW asked taken)),some (.d (.int k)),some (.d (.tuple (asked.map .int)))]):=by refine vh (items:=[.int (W.tie k).one,.int (W.tie k).other]) (eo:=[some (.d (ay W)),some (.d (bW asked taken)),some (.d (.int (W.tie k).other))]) (jn (by simp?[th])) ?_ rfl;have hi:m5 [(0,"web"),(1,"stand")] 1 [some (.d (ay W)),some (.d (bW asked taken)),some (.d (.int k)),some (.d (.tuple (asked.map .int)))]=[some (.d (ay W)),some (.d (bW asked taken)),none]:=rfl;rw[hi];simp?[dk,jC,jf,b1,b2]
   have ga:∀e,g1 (om sR) e [.l [.bool (W.bears asked taken (W.tie k).one),.bool (W.bears asked taken (W.tie k).other)]]=some (.d (.bool (W.bears asked taken (W.tie k).one&&W.bears asked taken (W.tie k).other))):=λe=>by simp[g1,om,cV,sR,qM]
   unfold bW at hc⊢;simp?[dW,jI,c1,c2,g3,hc,ga]
theorem ph{W:aN}{asked taken:List Int}{k:Int}(truth:Bool)(hk:gG W k)(h1:asked.length<60)(h2:taken.length<60):bQ [.d (ay W),.d (bW asked taken),.d (.int k),.d (.bool truth)]=some (.d (bW (aN.askd asked k) (W.took taken k truth)),[.d (ay W),.d (bW asked taken),.d (.int k),.d (.bool truth)]):=by
 have s1:∀e,g1 bi e [.d (.tuple (asked.map PyData.int++[.int k]))]=some (.l ((dP (asked++[k])).map .int)):=λe=>by have:=kS (e:=e) (ns:=asked++[k]) ↥7;simpa using this
 have s2:∀e,g1 bi e [.d (.tuple (taken.map PyData.int++[.int (W.tie k).one,.int (W.tie k).other]))]=some (.l ((dP (taken++[(W.tie k).one,(W.tie k).other])).map .int)):=λe=>by have:=kS (e:=e) (ns:=taken++[(W.tie k).one,(W.tie k).other]) ↥7;simpa using this
 have g1':∀e,cQ e (.d (.tuple (asked.map .int))) (.d (.tuple [.int k]))=some (.d (.tuple (asked.map .int++[.int k]))):=λe=>lZ ↥7;have g2':∀e,cQ e (.d (.tuple (taken.map .int))) (.d (.tuple [.int (W.tie k).one,.int (W.tie k).other]))=some (.d (.tuple (taken.map .int++[.int (W.tie k).one,.int (W.tie k).other]))):=λe=>lZ ↥7;have th:=jD hk;cases truth with|true=>simp?[bQ,fy,bW,th,g1',g2',s1,s2,aN.askd,aN.took]|false=>simp?[bQ,fy,bW,g1',s1,aN.askd,aN.took]
theorem DT{W:aN}{s:Std}{k:Int}(h:W.may s.1 s.2 k=true):k∉s.1/\(s.1.length:Int)<W.asks/\∀e,W.has k e=true->e∉s.2/\W.many s.1 e<W.pat.getD e.toNat 0:=by
 simp only[aN.may,aN.bears,MC,Oa,Rf,decide_eq_true_eq,decide_eq_false_iff_not,List.contains_eq_mem]at h;obtain⟨⟨h1,h2⟩,h3,h4⟩:=h;refine⟨h1,by lia,λe he=>?_⟩;unfold aN.has at he;rw[PZ,beq_iff_eq,beq_iff_eq]at he;rcases he with rfl|rfl;·exact h3
 ·exact h4
theorem kM{α:Type}{cs:En}{g:FG}{ft:FT}{fe:FE}{item:α->LS}{b:α->Bool}{y:α->LS}{u:α->En}(n:Nat):∀(L:List α) (t:En) (acc:List LS),t.length=n->(∀x∈L,(∀t:En,t.length=n->g (item x) (cs++t)=some (cs++u x))/\(u x).length=n/\ft (cs++u x)=some (b x,cs++u x)/\(b x=true->fe (cs++u x)=some (.d (y x),cs++u x)))->acc.length+L.length<=1000000->∃t',t'.length=n/\dk g ft fe (L.map item) (cs++t) acc=some (acc++(L.filter b).map y,cs++t')
 |[],t,acc,h,_,_=>⟨t,h,by simp[dk]⟩|x::r,t,acc,h,hs,hl=>by
  simp only[Nj]at hl;obtain⟨a1,a2,a3,a4⟩:=hs x ↥1;have al:acc.length<1000000:=by lia
  cases c:b x with|false=>rw[c]at a3;obtain⟨t',l',ih⟩:=kM n r (u x) acc a2 (λy hy=>hs y (by simp[hy])) ↥0;refine⟨t',l',?_⟩;rw[Mp,List.filter_cons_of_neg (by simp[c])];simp only[dk,a1 t h,MH,a3];exact ih|true=>rw[c]at a3;obtain⟨t',l',ih⟩:=kM n r (u x) (acc++[y x]) a2 (λy hy=>hs y (by simp[hy])) ↥7;refine⟨t',l',?_⟩;rw[Mp,List.filter_cons_of_pos (by simp[c]),Mp];simp only[dk,a1 t h,MH,a3,a4 c,if_true,nq,al];rw[ih];simp
theorem pW{α:Type}{cs:En}{g g2:FG}{ft ft2:FT}{fi2:FI}{fe:FE}{item:α->LS}{f:α->List LS}(n B:Nat):∀(L:List α) (t:En) (acc:List LS),t.length=n->(∀x∈L,(f x).length<=B)->(∀x∈L,∀(t:En) (acc:List LS),t.length=n->acc.length+B<=1000000->∃e1 e2 its e3 t',g (item x) (cs++t)=some e1/\ft e1=some (true,e2)/\fi2 e2=some (its,[],e3)/\dk g2 ft2 fe its e3 acc=some (acc++f x,cs++t')/\t'.length=n)->acc.length+B*L.length<=1000000->∃t',t'.length=n/\iC g ft fi2 g2 ft2 fe (L.map item) (cs++t) acc=some (acc++L.flatMap f,cs++t')|[],t,acc,h,_,_,_=>⟨t,h,by simp[iC]⟩|x::r,t,acc,h,hf,hs,hl=>by simp only[Nj,Nat.mul_add,Nat.mul_one]at hl;obtain⟨e1,e2,its,e3,t1,a1,a2,a3,a4,a5⟩:=hs x ↥1 t acc h ↥0;have:=hf x ↥1;obtain⟨t',b1,b2⟩:=pW n B r t1 (acc++f x) a5 (λy hy=>hf y (by simp[hy])) (λy hy=>hs y (by simp[hy])) (by rw[MY];lia);refine⟨t',b1,?_⟩;rw[Mp];unfold iC;simp only[a1,a2,a3,a4,b2,MH,if_true,List.flatMap_cons,MA]
theorem yz{e:En}{f h:Fr}:cS true e (.d (dF f)) (.d (dF h))=some (.d (.bool (!decide (f=h)))):=by
 have h0:∀x y:Int,Nr (.tuple [.int x,.int y])=true:=λx y=>by simp[Nr,MM,Na,MT,Ni]
 obtain⟨a,b⟩:=f;obtain⟨c,d⟩:=h;unfold cS dF;simp only[jd,MH,h0,OL,if_true];by_cases z:a=c<;>by_cases y:b=d<;>simp[Nb,Oj,z,y]
def bE(p:Std×Fr):LS:=.tuple [bW p.1.1 p.1.2,dF p.2]
theorem C7(p:Std×Fr):tM (bE p)=some [.rs [p.1.1,p.1.2],.r [p.2.1,p.2.2]]:=by
 have h1:wH (bW p.1.1 p.1.2)=some (.rs [p.1.1,p.1.2]):=by
  have h0:tO [.tuple (p.1.1.map .int),.tuple (p.1.2.map .int)]=some [p.1.1,p.1.2]:=by simp[tO,EE,l8]
  unfold bW;dsimp only[wH];rw[show jo [PyData.tuple (p.1.1.map .int),.tuple (p.1.2.map .int)]=none from rfl];dsimp only;rw[h0];rfl
 have h2:wH (dF p.2)=some (.r [p.2.1,p.2.2]):=rfl;show yk [bW p.1.1 p.1.2,dF p.2]=_;simp[yk,h1,h2]
theorem zg(L:List (Std×Fr)):Ga (L.map bE)=true:=by cases L with|nil=>rfl|cons p r=>rw[Mp];dsimp only[Ga];rw[C7];dsimp only;rw[MC];refine⟨by simp[Cm.s],?_⟩;rw[ML];intro x hx;rw[<-Mp]at hx;obtain⟨q,_,rfl⟩:=LM hx;rw[C7];rfl
def ie(L:List (Std×Fr)):List (Std×Fr):=L.mergeSort λa b=>decide (iH (bE a)<=iH (bE b))
theorem jV(L:List (Std×Fr)):(ie L).Perm L:=Qx _ _
theorem vc(L:List (Std×Fr)):(ie L).map bE=m9 (L.map bE):=List.map_mergeSort λa _ b _=>rfl
theorem t9{e:En}{L:List (Std×Fr)}(hl:L.length<65536):g1 bi e [.l (L.map bE)]=some (.l ((ie L).map bE)):=by
 rw[vc];show bi e (.l (L.map bE))=_;have hn:l5 e (.l (L.map bE))=some (.l (m9 (L.map bE))):=by simp[l5,cV,hl,zg]
 cases L with|nil=>simp[bi,fL,cV,jo,dP,m9]|cons p r=>
  have z:fL e (.l ((p::r).map bE))=none:=by have:cV e (.l ((p::r).map bE))=some (true,(p::r).map bE):=rfl;unfold fL;rw[this];rfl
  unfold bi;rw[z];exact hn
def qd(W:aN)(k:Int)(s:Std):List (Std×Fr):=if W.may s.1 s.2 k=true then([true,false].filter λb=>!decide (ce (W.tie k) b=(0,1))).map λb=>(nxt W s k b,ce (W.tie k) b) else[(s,(1,1))]
theorem rH{W:aN}{k:Int}{s:Std}:(qd W k s).length<=2:=by
 unfold qd;split;·rw[Mn];exact List.length_filter_le _ _
 ·simp
theorem pK{W:aN}(ok:W.Ok){s:Std}(hs:j9 W s){k:Int}(hk:gG W k):bK [.d (ay W),.d (bW s.1 s.2),.d (.int k)]=some (.l ((qd W k s).map bE),[.d (ay W),.d (bW s.1 s.2),.d (.int k)]):=by
 have wl:=ok.len;have sl:=hs.len;have st:=hs.tk;have tm:=xH ok (taken:=s.2) hs.inw ↥0 hk;have g1':∀e,cK e (.d (ay W)) (.d (.int 1))=some (.d (.tuple (W.ties.map b7))):=λe=>by rw[dC,eA,eS];rfl
 have ai:=gP hk;have tk:=ok.ties (W.tie k) (LO hk.get);have tl:=ue tk;cases c:W.may s.1 s.2 k with|false=>
  rw[c]at tm;have e:qd W k s=[(s,(1,1))]:=by unfold qd;rw[c];rfl
  rw[e];show bK _=some (.l [.tuple [bW s.1 s.2,.tuple [.int 1,.int 1]]],_);generalize bW s.1 s.2=SS at*;generalize ay W=WW at*;simp?[bK,gH,tm]|true=>
  rw[c]at tm;have e:qd W k s=([true,false].filter λb=>!decide (ce (W.tie k) b=(0,1))).map λb=>(nxt W s k b,ce (W.tie k) b):=by unfold qd;rw[c];rfl
  have tb:=λb=>ph (asked:=s.1) (taken:=s.2) b hk ↥0 ↥0;obtain⟨t',l',hc⟩:=kM (cs:=[some (.d (ay W)),some (.d (bW s.1 s.2)),some (.d (.int k))]) (g:=bC (au (aq 3) (au (aq 4) br))) (ft:=cX) (fe:=cf) (item:=λb=>.tuple [.bool b,dF (ce (W.tie k) b)]) (b:=λb=>!decide (ce (W.tie k) b=(0,1))) (y:=λb=>bE (nxt W s k b,ce (W.tie k) b)) (u:=λb=>[some (.d (.bool b)),some (.d (dF (ce (W.tie k) b)))]) 2 [true,false] [none,none] [] rfl (λb _=>by
   refine⟨λt ht=>?_,rfl,?_,λ_=>?_⟩;·match t,ht with|[t1,t2],_=>rfl
   ·have gn:=λe=>yz (e:=e) (f:=ce (W.tie k) b) (h:=(0,1));generalize (!decide (ce (W.tie k) b=(0,1)))=bb at*;rw[show dF ((0,1):Fr)=.tuple [.int 0,.int 1]from rfl]at gn;generalize dF (ce (W.tie k) b)=CC at*;generalize bW s.1 s.2=SS at*;generalize ay W=WW at*;simp?[cX,gn]
   ·have tb:=tb b;show cf _=some (.d (.tuple [bW (aN.askd s.1 k) (W.took s.2 k b),dF (ce (W.tie k) b)]),_);generalize dF (ce (W.tie k) b)=CC at*;generalize bW (aN.askd s.1 k) (W.took s.2 k b)=S2 at*;generalize bW s.1 s.2=SS at*;generalize ay W=WW at*;simp?[cf,tb]) ⋯;rw[NR,show(([true,false].filter λb=>!decide (ce (W.tie k) b=(0,1))).map λb=>bE (nxt W s k b,ce (W.tie k) b))=(qd W k s).map bE by rw[e,Po];rfl]at hc;have hv:=lS (cp:=[(0,"web"),(1,"stand"),(2,"tie")]) (nT:=2) (fi:=eU) (g:=bC (au (aq 3) (au (aq 4) br))) (ft:=cX) (fe:=cf) (e:=[some (.d (ay W)),some (.d (bW s.1 s.2)),some (.d (.int k)),some (.d (dF (ce (W.tie k) true)))]) (e1:=[some (.d (ay W)),some (.d (bW s.1 s.2)),some (.d (.int k)),some (.d (dF (ce (W.tie k) true)))]) (cs:=[some (.d (ay W)),some (.d (bW s.1 s.2)),some (.d (.int k))]) (t:=[none,none]) (t':=t') (show eU _=some ([true,false].map λb=>.tuple [.bool b,dF (ce (W.tie k) b)],[],_) from jn (by show _=some (Rv.d (.tuple [.tuple [.bool true,dF (ce (W.tie k) true)],.tuple [.bool false,dF (ce (W.tie k) false)]]),_);clear hc;rw[show PyData.tuple [.int (W.tie k).top,.int (W.tie k).bot]=dF (ce (W.tie k) true) from rfl]at tl;generalize dF (ce (W.tie k) false)=C2 at*;generalize dF (ce (W.tie k) true)=CC at*;generalize bW s.1 s.2=SS at*;generalize ay W=WW at*;simp?[tl])) rfl rfl hc;generalize (qd W k s).map bE=OO at*;rw[show dF (ce (W.tie k) true)=PyData.tuple [.int (W.tie k).top,.int (W.tie k).bot]from rfl]at hv;unfold b7 at g1' ai;generalize PyData.tuple [.int (W.tie k).top,.int (W.tie k).bot]=CC at*;generalize (W.ties.map λt=>PyData.tuple [.int t.one,.int t.other,.tuple [.int t.top,.int t.bot],.int t.worth])=TT at*;generalize bW s.1 s.2=SS at*;generalize ay W=WW at*;simp?[bK,gH,tm,g1',ai,hv]
def kN(W:aN)(L:List (Std×Fr))(k:Int):List (Std×Fr):=L.flatMap λp=>(qd W k p.1).map λq=>(q.1,tm p.2 q.2)
def vN(W:aN)(L:List (Std×Fr))(k:Int):List (Std×Fr):=ie (kN W L k)
structure qH (W:aN) (D:Int) (L:List (Std×Fr)):Prop where
 st:∀p∈L,j9 W p.1
 fr:∀p∈L,xQ D p.2
theorem qY{W:aN}{L:List (Std×Fr)}{k:Int}{x:Std×Fr}(h:x∈kN W L k):∃p∈L,∃q∈qd W k p.1,x=(q.1,tm p.2 q.2):=by obtain⟨p,hp,hx⟩:=List.mem_flatMap.mp h;obtain⟨q,hq,rfl⟩:=LM hx;exact⟨p,hp,q,hq,rfl⟩
theorem rJ{W:aN}(ok:W.Ok){s:Std}(hs:j9 W s){k:Int}(hk:gG W k){q:Std×Fr}(hq:q∈qd W k s):j9 W q.1/\xQ (W.tie k).bot q.2:=by
 have tk:=ok.ties (W.tie k) (LO hk.get);unfold qd at hq;split at hq;case isTrue c=>obtain⟨b,_,rfl⟩:=LM hq;exact⟨hs.nxt b ok hk (DT c).1,qP tk b⟩
 case isFalse c=>simp at hq;subst hq;exact⟨hs,⟨show(0:Int)<1 by decide,show(0:Int)<=1 by decide,show(1:Int)<=1 by decide,Int.one_dvd _⟩⟩
theorem yp{W:aN}(ok:W.Ok){D:Int}{L:List (Std×Fr)}(h:qH W D L){k:Int}(hk:gG W k):qH W (D*(W.tie k).bot) (kN W L k):=by
 refine⟨λx hx=>?_,λx hx=>?_⟩;·obtain⟨p,hp,q,hq,rfl⟩:=qY hx;exact(rJ ok (h.st p hp) hk hq).1
 ·obtain⟨p,hp,q,hq,rfl⟩:=qY hx;exact(h.fr p hp).tm (rJ ok (h.st p hp) hk hq).2
theorem qH.perm{W:aN}{D:Int}{L L':List (Std×Fr)}(h:qH W D L)(p:L'.Perm L):qH W D L':=⟨λx hx=>h.st x (p.mem_iff.mp hx),λx hx=>h.fr x (p.mem_iff.mp hx)⟩
theorem kO{W:aN}{k:Int}:∀L:List (Std×Fr),(kN W L k).length<=2*L.length|[]=>by simp[kN]|p::r=>by have:=kO (W:=W) (k:=k) r;have:=rH (W:=W) (k:=k) (s:=p.1);unfold kN at*;rw[List.flatMap_cons,MY,Mn,Nj];lia
theorem pe{W:aN}(ok:W.Ok){D:Int}(d0:0<D)(dB:Bt 300 D){L:List (Std×Fr)}(h:qH W D L){k:Int}(hk:gG W k)(hl:L.length<16384):bP [.d (ay W),.d (.tuple (L.map bE)),.d (.int k)]=some (.d (.tuple ((vN W L k).map bE)),[.d (ay W),.d (.tuple (L.map bE)),.d (.int k)]):=by
 have tk:=ok.ties (W.tie k) (LO hk.get)
 have b0:=tk.b0;have b1:=tk.b1;have bb:Bt 300 (W.tie k).bot:=Bt.mono (m:=8) (by unfold Bt;lia) ⋯;obtain⟨t',l',hc⟩:=pW (cs:=[some (.d (ay W)),some (.d (.int k))]) (g:=bC (au (aq 2) (au (aq 3) br))) (ft:=jC) (fi2:=dU) (g2:=bC (au (aq 4) (au (aq 5) br))) (ft2:=jC) (fe:=bx) (item:=bE) (f:=λp=>((qd W k p.1).map λq=>(q.1,tm p.2 q.2)).map bE) 4 2 L [none,none,none,none] [] rfl (λp _=>by rw[Mn,Mn];exact rH) (λp hp t acc ht ha=>by have tn:=pK ok (h.st p hp) hk;obtain⟨t',l',hi⟩:=kM (cs:=[some (.d (ay W)),some (.d (.int k)),some (.d (bW p.1.1 p.1.2)),some (.d (dF p.2))]) (g:=bC (au (aq 4) (au (aq 5) br))) (ft:=jC) (fe:=bx) (item:=bE) (b:=λ_=>true) (y:=λq=>bE (q.1,tm p.2 q.2)) (u:=λq=>[some (.d (bW q.1.1 q.1.2)),some (.d (dF q.2))]) 2 (qd W k p.1) (t.drop 2) acc (by rw[NY,ht]) (λq hq=>by
  refine⟨λt ht=>?_,rfl,rfl,λ_=>?_⟩;·match t,ht with|[t1,t2],_=>rfl
  ·have f1:=h.fr p hp;have f2:=(rJ ok (h.st p hp) hk hq).2;have x1:=f1.bt dB d0;have x2:=f2.bt bb ↥0;have tt:=B_ (a:=p.2) (b:=q.2) (n:=300) f1.pos f2.pos x1.1 x1.2 x2.1 x2.2 ⋯;show bx _=some (.d (.tuple [bW q.1.1 q.1.2,dF (tm p.2 q.2)]),_);generalize dF (tm p.2 q.2)=C3 at*;generalize dF p.2=C1 at*;generalize dF q.2=C2 at*;generalize bW p.1.1 p.1.2=S1 at*;generalize bW q.1.1 q.1.2=S2 at*;generalize ay W=WW at*;simp?[bx,tt]) (by have:=rH (W:=W) (k:=k) (s:=p.1);lia);rw[List.filter_eq_self.mpr ↥4]at hi;match t,ht with
  |[t1,t2,t3,t4],_=>
   refine⟨[some (.d (ay W)),some (.d (.int k)),some (.d (bW p.1.1 p.1.2)),some (.d (dF p.2)),t3,t4],_,(qd W k p.1).map bE,[some (.d (ay W)),some (.d (.int k)),some (.d (bW p.1.1 p.1.2)),some (.d (dF p.2)),t3,t4],some (.d (bW p.1.1 p.1.2))::some (.d (dF p.2))::t',rfl,rfl,?_,?_,by simp[l']⟩;·refine yH ?_;clear hi;generalize (qd W k p.1).map bE=NN at*;generalize dF p.2=C1 at*;generalize bW p.1.1 p.1.2=S1 at*;generalize ay W=WW at*;simp?[tn]
   ·rw[Po];exact hi) ↥7;have hv:=xK (cp:=[(0,"web"),(2,"tie")]) (nT:=4) (fi:=gW) (fi2:=dU) (g:=bC (au (aq 2) (au (aq 3) br))) (g2:=bC (au (aq 4) (au (aq 5) br))) (ft:=jC) (ft2:=jC) (fe:=bx) (e:=[some (.d (ay W)),some (.d (.tuple (L.map bE))),some (.d (.int k))]) (cs:=[some (.d (ay W)),some (.d (.int k))]) (t:=[none,none,none,none]) (t':=t') (jn rfl) rfl rfl hc;rw[NR,show(L.flatMap λp=>((qd W k p.1).map λq=>(q.1,tm p.2 q.2)).map bE)=(kN W L k).map bE by unfold kN;rw[List.map_flatMap]]at hv;have fl:=kO (W:=W) (k:=k) L;have gs:=λe=>t9 (e:=e) (L:=kN W L k) ↥0;have ll:((vN W L k).map bE).length<1000000:=by rw[Mn];unfold vN;rw[(jV _).length_eq];lia
 rw[show ie (kN W L k)=vN W L k from rfl]at gs;generalize (vN W L k).map bE=BB at*;generalize (kN W L k).map bE=FF at*;generalize L.map bE=LL at*;generalize ay W=WW at*;simp?[bP,ja,hv,gs,ll]
def eJ(W:aN):List (Std×Fr)->List Int->List (List (Std×Fr))|L,[]=>[L]|L,k::r=>L::eJ W (vN W L k) r
def jZ(L:List (Std×Fr)):LS:=.tuple (L.map bE)
abbrev iX:List (Std×Fr):=[(([],[]),(1,1))]
structure wA (W:aN) (i:Nat) (L:List (Std×Fr)):Prop where
 ex:∃D:Int,0<D/\Bt (1+8*i) D/\qH W D L
 ln:L.length<=2^i
theorem wA.first(W:aN):wA W 0 iX:=⟨⟨1,by decide,by unfold Bt;decide,λp hp=>by simp at hp;subst hp;exact j9.first W,λp hp=>by simp at hp;subst hp;exact D2⟩,by simp⟩
theorem wA.next{W:aN}(ok:W.Ok){i:Nat}{L:List (Std×Fr)}(h:wA W i L){k:Int}(hk:gG W k):wA W (i+1) (vN W L k):=by
 obtain⟨D,d0,dB,hL⟩:=h.ex;have tk:=ok.ties (W.tie k) (LO hk.get);have b0:=tk.b0;have b1:=tk.b1;refine⟨⟨D*(W.tie k).bot,Pp d0 ↥0,?_,(yp ok hL hk).perm (jV _)⟩,?_⟩;·have:Bt (1+8*i+8) (D*(W.tie k).bot):=Bt.mul dB (by unfold Bt;lia);exact this.mono ↥0
 ·have a:=kO (W:=W) (k:=k) L;have b:=h.ln;unfold vN;rw[(jV _).length_eq,Nat.pow_succ];lia
theorem Aj{n:Int}(h:n<=8):cz [.d (.int n),.d (.int 8)]=some (.d .none,[.d (.int n),.d (.int 8)]):=by
 have c:¬8<n:=by lia
 simp?[cz,jb,c]
abbrev CP(W:aN)(os:List Int)(Ls:List (List (Std×Fr)))(v3:Option Sv):En:=[some (.d (ay W)),some (.d (.tuple (os.map .int))),some (.l (Ls.map jZ)),v3]
inductive He (W:aN) (os:List Int) (i:Nat):En->Prop|mk{Ls L v3}(h:wA W i L) (hl:Ls.length=i) (e:Ls++eJ W L (os.drop i)=eJ W iX os):He W os i (CP W os (Ls++[L]) v3)
theorem gE{W:aN}(ok:W.Ok){os:List Int}(ho:∀k∈os,gG W k)(hl:os.length<=8):bX [.d (ay W),.d (.tuple (os.map .int))]=some (.d (.tuple ((eJ W iX os).map jZ)),[.d (ay W),.d (.tuple (os.map .int))]):=by
 obtain⟨e',h1,hI⟩:=cP (own:=[]) (g:=aq 3) (f:=dZ) (He W os) (os.map .int) 0 (CP W os [iX] none) (λi x e hx hI=>by
  rw[MN]at*;obtain⟨h,hll,e⟩:=hI;rename_i Ls L v3;rw[MS]at hx;obtain⟨k,hk,rfl⟩:=LI hx;obtain⟨il,ik⟩:=LJ hk;have iw:=ho k (LO hk);have dr:os.drop i=k::os.drop (i+1):=by rw[Os il,ik]
  rw[dr,eJ]at e;obtain⟨D,d0,dB,hL⟩:=h.ex;have ln:=h.ln;have p2:2^i<=128:=Mv (PP ⋯ (show i<=7 by lia)) ⋯;have tb:=pe ok d0 (dB.mono ↥0) hL iw ↥0;have al:atI ((Ls++[L]).map jZ) (-1)=some (jZ L):=by rw[Pz];exact wB
  have lu:(Ls++[L]).length<1000000:=by rw[MY];simp;lia
  refine⟨CP W os (Ls++[L]) (some (.d (.int k))),CP W os ((Ls++[L])++[vN W L k]) (some (.d (.int k))),rfl,?_,bH,.mk (h.next ok iw) (by rw[MY,hll];rfl) (by rw[MA];exact e)⟩;simp only[CP];rw[Pz (l₁:=Ls++[L])];simp only[Mp,MG];rw[show jZ (vN W L k)=.tuple ((vN W L k).map bE) from rfl];rw[show jZ L=.tuple (L.map bE) from rfl]at al;have lu':((Ls++[L]).map jZ).length<1000000:=by rw[Mn];exact lu
  generalize (vN W L k).map bE=BB at*;generalize L.map bE=LL at*;generalize (Ls++[L]).map jZ=XX at*;generalize os.map PyData.int=OO at*;generalize ay W=WW at*;simp?[dZ,al,tb,lu']) (He.mk (Ls:=[]) (wA.first W) rfl rfl);rw[MN,Mn]at hI;obtain⟨h,hll,e⟩:=hI;rename_i Ls L v3;rw[QJ,eJ]at e;have hi:j4 (CP W os [iX] none)=some (os.map .int,[],CP W os [iX] none):=jn rfl;have hg:=λWl=>ef (W:=Wl) (g:=aq 3) (f:=dZ) hi;rw[h1]at hg;rw[<-e];have tr:=Aj (n:=((os.map PyData.int).length:Int)) (by rw[Mn];lia);have lu':((Ls++[L]).map jZ).length<1000000:=by rw[Mn,MY];simp;lia
 simp only[CP]at hg;rw[show[iX].map jZ=[.tuple [.tuple [.tuple [.tuple [],.tuple []],.tuple [.int 1,.int 1]]]]from rfl]at hg;generalize (Ls++[L]).map jZ=XX at*;generalize os.map PyData.int=OO at*;generalize ay W=WW at*;simp?[bX,mC,tr,hg,lu']
theorem GU{f:Fr}(h:Cr f):tm f (1,1)=f:=by have p:=h.pos;unfold tm lowM;simp only[Int.mul_one];rw[if_neg ↥0,h.cop];simp
theorem AG{n:Int}{t:lV}(o:t.Ok n)(b:Bool):(!decide (ce t b=(0,1)))=decide (0<(ce t b).1):=by
 have b0:=o.b0;have b1:=o.b1;have c:=o.cop;have t0:=o.c0;have t1:=o.c1;by_cases z:(ce t b).1=0
 ·have e:ce t b=(0,1):=by cases b with|true=>have z:t.top=0:=z;rw[z]at c;simp at c;show(t.top,t.bot)=(0,1);rw[z,show t.bot=1 by lia]|false=>
    have z:t.bot-t.top=0:=z;have z':t.top=t.bot:=by lia
    rw[z']at c;simp at c;show(t.bot-t.top,t.bot)=(0,1);rw[z,show t.bot=1 by lia]
  rw[e];rfl
 ·have ge:0<=(ce t b).1:=by cases b with|true=>exact t0|false=>show 0<=t.bot-t.top;lia
  have ne:ce t b≠(0,1):=λe=>z (by rw[e]);rw[decide_eq_false ne,decide_eq_true (show 0<(ce t b).1 by lia)];rfl
def ww(W:aN)(k:Int)(p:Std×Fr)(b:Bool):List (Std×Fr):=if 0<(ce (W.tie k) b).1 then[(nxt W p.1 k b,tm p.2 (ce (W.tie k) b))]else[]
def wx(W:aN)(k:Int)(p:Std×Fr):List (Std×Fr):=if W.may p.1.1 p.1.2 k=true then ww W k p true++ww W k p false else[p]
theorem EY{W:aN}(ok:W.Ok){k:Int}(hk:gG W k){p:Std×Fr}(h:Cr p.2):wx W k p=(qd W k p.1).map λq=>(q.1,tm p.2 q.2):=by have tk:=ok.ties (W.tie k) (LO hk.get);unfold wx qd;cases c:W.may p.1.1 p.1.2 k with|false=>rw[if_neg ⋯,if_neg ⋯,Mp,MG,GU h]|true=>rw[if_pos rfl,if_pos rfl];unfold ww;rw[show(λb=>!decide (ce (W.tie k) b=(0,1)))=λb=>decide (0<(ce (W.tie k) b).1) from funext (AG tk)];by_cases z1:0<(ce (W.tie k) true).1<;>by_cases z2:0<(ce (W.tie k) false).1<;>simp[List.filter,z1,z2]
abbrev qC(W:aN)(L:List (Std×Fr))(k:Int)(F:List LS)(v4 v5 v6 v7 v8:Option Sv):En:=[some (.d (ay W)),some (.l (L.map bE)),some (.d (.int k)),some (.l F),v4,v5,v6,v7,v8]
theorem Dc{W:aN}{L:List (Std×Fr)}{k:Int}(hk:gG W k){p:Std×Fr}{F:List LS}(b:Bool){n:Nat}(a2:0<p.2.2)(b2:0<(ce (W.tie k) b).2)(ha1:Bt n p.2.1)(ha:Bt n p.2.2)(hb1:Bt n (ce (W.tie k) b).1)(hb:Bt n (ce (W.tie k) b).2)(hn:n<=1900)(h1:p.1.1.length<60)(h2:p.1.2.length<60)(hF:F.length<1000000){v6:Option Sv}:dg (qC W L k F (some (.d (bW p.1.1 p.1.2))) (some (.d (dF p.2))) v6 (some (.d (.bool b))) (some (.d (dF (ce (W.tie k) b)))))=some (.nx (qC W L k (F++(ww W k p b).map bE) (some (.d (bW p.1.1 p.1.2))) (some (.d (dF p.2))) v6 (some (.d (.bool b))) (some (.d (dF (ce (W.tie k) b)))))):=by
 have tb:=Af (W:=W) (asked:=p.1.1) (taken:=p.1.2) b hk h1 h2;have tt:=B5 a2 b2 ha1 ha hb1 hb hn;have gi:∀e,cK e (.d (dF (ce (W.tie k) b))) (.d (.int 0))=some (.d (.int (ce (W.tie k) b).1)):=λe=>by show cK e (.d (.tuple [.int (ce (W.tie k) b).1,.int (ce (W.tie k) b).2])) (.d (.int 0))=_;rw[eA];rfl
 unfold ww;by_cases c:0<(ce (W.tie k) b).1;·rw[if_pos c];rw[show([(nxt W p.1 k b,tm p.2 (ce (W.tie k) b))].map bE)=[.tuple [bW (aN.askd p.1.1 k) (W.took p.1.2 k b),dF (tm p.2 (ce (W.tie k) b))]]from rfl];simp only[qC];generalize dF (tm p.2 (ce (W.tie k) b))=C3 at*;generalize dF (ce (W.tie k) b)=C2 at*;generalize dF p.2=C1 at*;generalize bW (aN.askd p.1.1 k) (W.took p.1.2 k b)=S2 at*;generalize bW p.1.1 p.1.2=S1 at*;generalize ay W=WW at*;generalize L.map bE=LL at*;simp?[dg,gi,c,tb,tt,hF]
 ·rw[if_neg c,MG,Mu];simp only[qC];generalize dF (ce (W.tie k) b)=C2 at*;generalize dF p.2=C1 at*;generalize bW p.1.1 p.1.2=S1 at*;generalize ay W=WW at*;generalize L.map bE=LL at*;simp?[dg,gi,c]
theorem r_{W:aN}{k:Int}{p:Std×Fr}{b:Bool}:(ww W k p b).length<=1:=by unfold ww;split<;>simp
theorem GS{W:aN}(ok:W.Ok){D:Int}(d0:0<D)(dB:Bt 300 D){L:List (Std×Fr)}{k:Int}(hk:gG W k){p:Std×Fr}(hs:j9 W p.1)(hf:xQ D p.2){F:List LS}(hF:F.length<900000){v6 v7 v8:Option Sv}:∃w6 w7 w8,dh (qC W L k F (some (.d (bW p.1.1 p.1.2))) (some (.d (dF p.2))) v6 v7 v8)=some (.nx (qC W L k (F++(wx W k p).map bE) (some (.d (bW p.1.1 p.1.2))) (some (.d (dF p.2))) w6 w7 w8)):=by
 have wl:=ok.len;have sl:=hs.len;have st:=hs.tk;have tm:=GP ok (taken:=p.1.2) hs.inw ↥0 hk;have tk:=ok.ties (W.tie k) (LO hk.get);have b0:=tk.b0;have b1:=tk.b1;have bb:Bt 300 (W.tie k).bot:=Bt.mono (m:=8) (by unfold Bt;lia) ⋯
 have x1:=hf.bt dB d0;have x2:=λb=>(qP tk b).bt bb ↥0;unfold wx;cases c:W.may p.1.1 p.1.2 k with|false=>
  rw[c]at tm;refine⟨v6,v7,v8,?_⟩;rw[if_neg ⋯,Mp,MG,show bE p=.tuple [bW p.1.1 p.1.2,dF p.2]from rfl];have hF':F.length<1000000:=by lia
  simp only[qC];generalize dF p.2=C1 at*;generalize bW p.1.1 p.1.2=S1 at*;generalize ay W=WW at*;generalize L.map bE=LL at*;simp?[dh,tm,hF']|true=>
  rw[c]at tm;rw[if_pos rfl];have u1:=Dc (L:=L) hk (p:=p) (F:=F) true (n:=300) hf.pos (qP tk true).pos x1.1 x1.2 (x2 true).1 (x2 true).2 ⋯ ↥0 ↥0 ↥0 (v6:=some (.d (dF (ce (W.tie k) true))));have u2:=Dc (L:=L) hk (p:=p) (F:=F++(ww W k p true).map bE) false (n:=300) hf.pos (qP tk false).pos x1.1 x1.2 (x2 false).1 (x2 false).2 ⋯ ↥0 ↥0 (by rw[MY,Mn];have:=r_ (W:=W) (k:=k) (p:=p) (b:=true);lia) (v6:=some (.d (dF (ce (W.tie k) true))));have tr:=B4 (t:=W.tie k);have g1':∀e,cK e (.d (ay W)) (.d (.int 1))=some (.d (.tuple (W.ties.map b7))):=λe=>by rw[dC,eA,eS];rfl
  have g2':∀e,cK e (.d (.tuple (W.ties.map b7))) (.d (.int k))=some (.d (b7 (W.tie k))):=λe=>by rw[eA,gP hk];rfl
  have g3':∀e,cK e (.d (b7 (W.tie k))) (.d (.int 2))=some (.d (dF (ce (W.tie k) true))):=λe=>by unfold b7;rw[eA];rfl
  rw[show PyData.tuple [.int (W.tie k).top,.int (W.tie k).bot]=dF (ce (W.tie k) true) from rfl]at tr;refine⟨some (.d (dF (ce (W.tie k) true))),some (.d (.bool false)),some (.d (dF (ce (W.tie k) false))),?_⟩;have hi:jl (qC W L k F (some (.d (bW p.1.1 p.1.2))) (some (.d (dF p.2))) (some (.d (dF (ce (W.tie k) true)))) v7 v8)=some ([.tuple [.bool true,dF (ce (W.tie k) true)],.tuple [.bool false,dF (ce (W.tie k) false)]],[],qC W L k F (some (.d (bW p.1.1 p.1.2))) (some (.d (dF p.2))) (some (.d (dF (ce (W.tie k) true)))) v7 v8):=yH (by clear u1 u2;simp only[qC];generalize dF (ce (W.tie k) false)=C3 at*;generalize dF (ce (W.tie k) true)=C2 at*;generalize dF p.2=C1 at*;generalize bW p.1.1 p.1.2=S1 at*;generalize ay W=WW at*;generalize L.map bE=LL at*;simp?[tr]);have hg:=λWl=>ef (W:=Wl) (g:=bC (au (aq 7) (au (aq 8) br))) (f:=dg) hi;clear hi;have hfor:∀Wl,eN Wl jl (bC (au (aq 7) (au (aq 8) br))) dg (qC W L k F (some (.d (bW p.1.1 p.1.2))) (some (.d (dF p.2))) (some (.d (dF (ce (W.tie k) true)))) v7 v8)=some (.nx (qC W L k (F++(ww W k p true++ww W k p false).map bE) (some (.d (bW p.1.1 p.1.2))) (some (.d (dF p.2))) (some (.d (dF (ce (W.tie k) true)))) (some (.d (.bool false))) (some (.d (dF (ce (W.tie k) false)))))):=λWl=>by rw[hg Wl,Pz,<-MA];clear hg;simp only[qC]at u1 u2⊢;generalize (ww W k p true).map bE=A1 at*;generalize (ww W k p false).map bE=A2 at*;generalize dF (ce (W.tie k) false)=C3 at*;generalize dF (ce (W.tie k) true)=C2 at*;generalize dF p.2=C1 at*;generalize bW p.1.1 p.1.2=S1 at*;generalize ay W=WW at*;generalize L.map bE=LL at*;simp?[kc,u1,u2,bH]
  clear u1 u2 hg;simp only[qC]at hfor⊢;generalize (ww W k p true++ww W k p false).map bE=A1 at*;generalize dF (ce (W.tie k) false)=C3 at*;generalize dF (ce (W.tie k) true)=C2 at*;generalize dF p.2=C1 at*;generalize bW p.1.1 p.1.2=S1 at*;generalize b7 (W.tie k)=T1 at*;generalize W.ties.map b7=TT at*;generalize ay W=WW at*;generalize L.map bE=LL at*;simp?[dh,tm,g1',g2',g3',hfor]
theorem Ci{W:aN}{k:Int}{p:Std×Fr}:(wx W k p).length<=2:=by
 unfold wx;split;·rw[MY];have:=r_ (W:=W) (k:=k) (p:=p) (b:=true);have:=r_ (W:=W) (k:=k) (p:=p) (b:=false);lia
 ·simp
theorem se{W:aN}{k:Int}:∀L:List (Std×Fr),(L.flatMap (wx W k)).length<=2*L.length|[]=>by simp|p::r=>by have:=se (W:=W) (k:=k) r;have:=Ci (W:=W) (k:=k) (p:=p);rw[List.flatMap_cons,MY,Nj];lia
theorem xI{W:aN}(ok:W.Ok){D:Int}(d0:0<D)(dB:Bt 300 D){L:List (Std×Fr)}(h:qH W D L)(lo:∀p∈L,Cr p.2){k:Int}(hk:gG W k)(hl:L.length<16384):g9 [.d (ay W),.l (L.map bE),.d (.int k)]=some (.l ((kN W L k).map bE),[.d (ay W),.l (L.map bE),.d (.int k)]):=by
 have fl:kN W L k=L.flatMap (wx W k):=by unfold kN;rw[List.flatMap_def,List.flatMap_def,List.map_congr_left λp hp=>(EY ok hk (lo p hp)).symm]
 rw[fl];obtain⟨e',h1,⟨v4,v5,v6,v7,v8,he⟩⟩:=cP (own:=[(1,L.map bE)]) (g:=bC (au (aq 4) (au (aq 5) br))) (f:=dh) (λi e=>∃v4 v5 v6 v7 v8,e=qC W L k (((L.take i).flatMap (wx W k)).map bE) v4 v5 v6 v7 v8) (L.map bE) 0 (qC W L k (((L.take 0).flatMap (wx W k)).map bE) none none none none none) (λi x e hx⟨v4,v5,v6,v7,v8,he⟩=>by
  subst he;rw[MN];rw[MS]at hx;obtain⟨p,hp,rfl⟩:=LI hx;have pm:=LO hp;have tl:=se (W:=W) (k:=k) (L.take i);rw[Nh]at tl;obtain⟨w6,w7,w8,hb⟩:=GS ok d0 dB (L:=L) hk (h.st p pm) (h.fr p pm) (F:=((L.take i).flatMap (wx W k)).map bE) (by rw[Mn];lia) (v6:=v6) (v7:=v7) (v8:=v8);refine⟨_,_,rfl,hb,λq hq=>?_,some (.d (bW p.1.1 p.1.2)),some (.d (dF p.2)),w6,w7,w8,?_⟩;·simp at hq;subst hq;rfl
  ·rw[List.take_succ,hp,List.flatMap_append,Pz];simp) ⟨none,none,none,none,none,rfl⟩;subst he;rw[MN,Mn,List.take_length]at h1;have hf:eN [4,5,6,7,8] mY (bC (au (aq 4) (au (aq 5) br))) dh (qC W L k [] none none none none none)=some (.nx (qC W L k ((L.flatMap (wx W k)).map bE) v4 v5 v6 v7 v8)):=by rw[z0 (own:=[(1,L.map bE)]) (items:=L.map bE) (e1:=qC W L k [] none none none none none) rfl rfl];exact h1
 have ll:((L.flatMap (wx W k)).map bE).length<1000000:=by have:=se (W:=W) (k:=k) L;rw[Mn];lia
 clear h1;simp only[qC]at hf;generalize (L.flatMap (wx W k)).map bE=FF at*;generalize L.map bE=LL at*;generalize ay W=WW at*;simp?[g9,pN,hf,ll]
theorem ov:∀{a b:List Int},a.map PyData.int=b.map PyData.int->a=b|[],[],_=>rfl|[],_::_,h=>by cases h|_::_,[],h=>by cases h|x::a,y::b,h=>by rw[Mp,Mp]at h;injection h with h1 h2;injection h1 with h1;rw[h1,ov h2]
theorem AL{p q:Std×Fr}(h:bE p=bE q):p=q:=by obtain⟨⟨a,b⟩,c,d⟩:=p;obtain⟨⟨a',b'⟩,c',d'⟩:=q;unfold bE bW dF at h;injection h with h;injection h with h1 h2;injection h2 with h2 h3;injection h1 with h1;injection h1 with h4 h5;injection h5 with h5 h6;injection h4 with h4;injection h5 with h5;injection h2 with h2;injection h2 with h7 h8;injection h8 with h8 h9;injection h7 with h7;injection h8 with h8;exact Prod.ext (Prod.ext (ov h4) (ov h5)) (Prod.ext h7 h8)
theorem sN:∀{A B:List (Std×Fr)},A.map bE=B.map bE->A=B|[],[],_=>rfl|[],_::_,h=>by cases h|_::_,[],h=>by cases h|x::a,y::b,h=>by rw[Mp,Mp]at h;injection h with h1 h2;rw[AL h1,sN h2]
theorem B0{A B:List (Std×Fr)}(p:A.Perm B):ie A=ie B:=by refine sN ?_;rw[vc,vc];obtain⟨n0,sh,_,hsh⟩:=ze (zg B);refine t5 hsh ((kr _).trans (p.map bE)) ?_;have h2:=QY (le:=λa b:LS=>decide (iH a<=iH b)) (λa b c h1 h2=>by simp only[decide_eq_true_eq]at*;exact List.le_trans h1 h2) (λa b=>by simp only[PZ,decide_eq_true_eq];exact List.le_total _ _) (A.map bE);exact h2.imp λh=>by simpa using h
theorem xC{e:En}{i:Nat}{L:List (Std×Fr)}(hi:e[i]?=some (some (.l (L.map bE))))(hl:L.length<65536):g1 bi e [.s i]=some (.l ((ie L).map bE)):=by
 have sq:cV e (.s i)=some (true,L.map bE):=by simp[cV,hi]
 have:=t9 (e:=e) hl;have sq2:cV e (.l (L.map bE))=some (true,L.map bE):=rfl;show bi e (.s i)=_;have t:bi e (.l (L.map bE))=_:=this;unfold bi fL l5 at*;rw[sq2]at t;rw[sq];exact t
def CQ(W:aN):List (Std×Fr)->List Int->List (List (Std×Fr))|_,[]=>[]|ws,k::r=>ie (kN W ws k)::CQ W (kN W ws k) r
theorem yq{W:aN}{A B:List (Std×Fr)}(p:A.Perm B)(k:Int):(kN W A k).Perm (kN W B k):=p.flatMap_right _
theorem s_{W:aN}:∀(os:List Int) (ws:List (Std×Fr)),eJ W (ie ws) os=ie ws::CQ W ws os
 |[],ws=>rfl|k::r,ws=>by
  rw[eJ,CQ];have:vN W (ie ws) k=ie (kN W ws k):=by unfold vN;exact B0 (yq (jV ws) k)
  rw[this,s_ r]
theorem B1:ie iX=iX:=by simp[ie,iX]
theorem FC{W:aN}(os:List Int):eJ W iX os=iX::CQ W iX os:=by have:=s_ (W:=W) os iX;rwa[B1]at this
structure Do (W:aN) (i:Nat) (L:List (Std×Fr)):Prop where
 ex:∃D:Int,0<D/\Bt (1+8*i) D/\qH W D L
 ln:L.length<=2^i
 lw:∀p∈L,Cr p.2
theorem Do.first(W:aN):Do W 0 iX:=⟨(wA.first W).ex,(wA.first W).ln,λp hp=>by simp at hp;subst hp;exact⟨by decide,by decide⟩⟩
theorem Do.next{W:aN}(ok:W.Ok){i:Nat}{L:List (Std×Fr)}(h:Do W i L){k:Int}(hk:gG W k):Do W (i+1) (kN W L k):=by
 obtain⟨D,d0,dB,hL⟩:=h.ex;have tk:=ok.ties (W.tie k) (LO hk.get);have b0:=tk.b0;have b1:=tk.b1;refine⟨⟨D*(W.tie k).bot,Pp d0 ↥0,?_,yp ok hL hk⟩,?_,λx hx=>?_⟩;·have:Bt (1+8*i+8) (D*(W.tie k).bot):=Bt.mul dB (by unfold Bt;lia);exact this.mono ↥0
 ·have a:=kO (W:=W) (k:=k) L;have b:=h.ln;rw[Nat.pow_succ];lia
 ·obtain⟨p,hp,q,hq,rfl⟩:=qY hx;exact Cr.lowM (Pp (hL.fr p hp).pos (rJ ok (hL.st p hp) hk hq).2.pos)
abbrev Dg(W:aN)(os:List Int)(ws:List (Std×Fr))(F:List (List (Std×Fr)))(v4:Option Sv):En:=[some (.d (ay W)),some (.d (.tuple (os.map .int))),some (.l (ws.map bE)),some (.l (F.map jZ)),v4]
inductive Hq (W:aN) (os:List Int) (i:Nat):En->Prop|mk{ws F v4}(h:Do W i ws) (hl:F.length=i+1) (e:F++CQ W ws (os.drop i)=iX::CQ W iX os):Hq W os i (Dg W os ws F v4)
theorem pb{W:aN}(ok:W.Ok){os:List Int}(ho:∀k∈os,gG W k)(hl:os.length<=8):gY [.d (ay W),.d (.tuple (os.map .int))]=some (.d (.tuple ((eJ W iX os).map jZ)),[.d (ay W),.d (.tuple (os.map .int))]):=by
 obtain⟨e',h1,hI⟩:=cP (own:=[]) (g:=aq 4) (f:=iy) (Hq W os) (os.map .int) 0 (Dg W os iX [iX] none) (λi x e hx hI=>by
  rw[MN]at*;obtain⟨h,hll,e⟩:=hI;rename_i ws F v4;rw[MS]at hx;obtain⟨k,hk,rfl⟩:=LI hx;obtain⟨il,ik⟩:=LJ hk;have iw:=ho k (LO hk);have dr:os.drop i=k::os.drop (i+1):=by rw[Os il,ik]
  rw[dr,CQ]at e;obtain⟨D,d0,dB,hL⟩:=h.ex;have ln:=h.ln;have p2:2^i<=128:=Mv (PP ⋯ (show i<=7 by lia)) ⋯;have tb:=xI ok d0 (dB.mono ↥0) hL h.lw iw ↥0;have fl:=kO (W:=W) (k:=k) ws;have gs:∀{e:En},e[2]?=some (some (.l ((kN W ws k).map bE)))->g1 bi e [.s 2]=some (.l ((ie (kN W ws k)).map bE)):=λhi=>xC hi ↥0;refine⟨Dg W os ws F (some (.d (.int k))),Dg W os (kN W ws k) (F++[ie (kN W ws k)]) (some (.d (.int k))),rfl,?_,bH,.mk (h.next ok iw) (by rw[MY,hll];rfl) (by rw[MA];exact e)⟩;simp only[Dg];rw[Pz (l₁:=F)];simp only[Mp,MG];rw[show jZ (ie (kN W ws k))=.tuple ((ie (kN W ws k)).map bE) from rfl];have lu':(F.map jZ).length<1000000:=by rw[Mn];lia
  generalize (ie (kN W ws k)).map bE=BB at*;have gs':=gs (e:=[some (.d (ay W)),some (.d (.tuple (os.map .int))),some (.l ((kN W ws k).map bE)),some (.l (F.map jZ)),some (.d (.int k))]) rfl;clear gs;generalize (kN W ws k).map bE=FF at*;generalize ws.map bE=LL at*;generalize F.map jZ=XX at*;generalize os.map PyData.int=OO at*;generalize ay W=WW at*;simp?[iy,tb,gs',lu']) (Hq.mk (Do.first W) rfl rfl);rw[MN,Mn]at hI;obtain⟨h,hll,e⟩:=hI;rename_i ws F v4;rw[QJ,CQ,Mu,<-FC]at e;have hi:oo (Dg W os iX [iX] none)=some (os.map .int,[],Dg W os iX [iX] none):=jn rfl;have hg:=λWl=>ef (W:=Wl) (g:=aq 4) (f:=iy) hi;rw[h1]at hg;rw[<-e];have lu':(F.map jZ).length<1000000:=by rw[Mn];lia
 simp only[Dg]at hg;rw[show[iX].map jZ=[.tuple [.tuple [.tuple [.tuple [],.tuple []],.tuple [.int 1,.int 1]]]]from rfl,show iX.map bE=[.tuple [.tuple [.tuple [],.tuple []],.tuple [.int 1,.int 1]]]from rfl]at hg;generalize F.map jZ=XX at*;generalize ws.map bE=LL at*;generalize os.map PyData.int=OO at*;generalize ay W=WW at*;simp?[gY,sy,hg,lu']
theorem Al{n:Int}(n0:0<=n)(n1':n<=16){ds:List Int}(hd:iW ds):∃(W:aN) (ds':List Int),md [.l (ds.map .int),.d (.int n)]=some (.d (ay W),[.l (ds'.map .int),.d (.int n)])/\iW ds'/\W.Ok/\(W.ties.length:Int)=n:=by
 obtain⟨n1,d1,t1,a1,-,hd1⟩:=iT hd;have gm:∀e:En,a7 e (.d (.int n1)) (.d (.int 4))=some (.d (.int (n1%4))):=λe=>aQ ⋯;obtain⟨z,hz,az⟩:=i8 (xs:=[PyData.int 2,.int 4,.int 7,.int 12]) (i:=n1%4) (vF ⋯) (by have:=vG (n:=n1) (k:=4) ⋯;simpa using this);obtain⟨th,rfl,th1,th2⟩:∃p:Int,z=.int p/\2<=p/\p<=12:=by simp only[Nc,Nx,or_false]at hz;rcases hz with rfl|rfl|rfl|rfl<;>exact⟨_,rfl,by decide,by decide⟩
 obtain⟨ts,d2,t2,hd2,tl,tok⟩:=Ak d1 th n hd1 th1 ↥0 n0 ↥0;obtain⟨n3,d3,t3,a3,-,hd3⟩:=iT hd2;have gm3:∀e:En,a7 e (.d (.int n3)) (.d (.int 3))=some (.d (.int (n3%3))):=λe=>aQ ⋯;have q0:=vF (n:=n3) (k:=3) ⋯;have q1:=vG (n:=n3) (k:=3) ⋯;generalize n3%3=q at*;obtain⟨p,hp,ap⟩:=i8 (xs:=[PyData.int 20,.int 1,.int 2]) (i:=q) q0 (by simpa using q1);obtain⟨pa,rfl,pa0,pa1⟩:∃x:Int,p=.int x/\0<=x/\x<=20:=by simp only[Nc,Nx,or_false]at hp;rcases hp with rfl|rfl|rfl<;>exact⟨_,rfl,by decide,by decide⟩
 obtain⟨s,hs,as⟩:=i8 (xs:=[PyData.int 40,.int 40,.int (n/2)]) (i:=q) q0 (by simpa using q1);obtain⟨ak,rfl,ak0,ak1⟩:∃x:Int,s=.int x/\0<=x/\x<=40:=by simp only[Nc,Nx,or_false]at hs;rcases hs with rfl|rfl|rfl<;>exact⟨_,rfl,by lia,by lia⟩
 have gf:∀e:En,er e (.d (.int n)) (.d (.int 2))=some (.d (.int (n/2))):=λe=>fm ⋯ (lW ⋯ ⋯);have gr:∀e:En,fJ e (.d (.tuple [.int pa])) (.d (.int th))=some (.d (.tuple (Mh th.toNat (.int pa)))):=λe=>Dx ↥0 ↥0;refine⟨⟨th,ts,Mh th.toNat pa,ak⟩,d3,?_,hd3,⟨by show 0<=th;lia,th2,tok,by show ts.length<=16;lia,by show((Mh th.toNat pa).length:Int)=th;rw[Qo];lia,λx hx=>by have:=List.eq_of_mem_replicate hx;subst this;exact⟨pa0,pa1⟩,ak0,ak1⟩,by show(ts.length:Int)=n;lia⟩;show _=some (Rv.d (.tuple [.int th,.tuple (ts.map b7),.tuple ((Mh th.toNat pa).map .int),.int ak]),_);rw[List.map_replicate];generalize n/2=n2 at*;generalize Mh th.toNat (PyData.int pa)=RP at*;generalize ts.map b7=TS at*;simp?[md,x6,t1,gm,az,t2,t3,gm3,ap,as,gf,gr]
theorem IR{W:aN}(e:En):cK e (.d (ay W)) (.d (.int 1))=some (.d (.tuple (W.ties.map b7))):=by rw[dC,eA,eS];rfl
theorem tN{n:Nat}{x:Int}(h:x∈gc n):0<=x/\x<(n:Int):=by unfold gc at h;obtain⟨i,hi,rfl⟩:=LM h;have:=Pf.mp hi;have e:(Int.ofNat i)=(i:Int):=rfl;simp only[e];lia
theorem BP(n:Nat):(gc n).Nodup:=by unfold gc;exact List.pairwise_map.mpr (List.Pairwise.imp (λh e=>by have:_=_:=e;simp at this;lia) List.nodup_range)
abbrev gb(n:Int)(ds:List Int)(W:aN)(lf fd:List Int):En:=[some (.l (ds.map .int)),some (.d (ay W)),some (.d (.int n)),some (.l (lf.map .int)),some (.l (fd.map .int))]
inductive FK (n:Int) (W:aN):En->Prop|mk{ds lf fd}(hd:iW ds) (nd:(fd++lf).Nodup) (hr:∀k∈fd++lf,gG W k) (hl:(fd.length:Int)<=n) (hs:fd.length+lf.length=W.ties.length):FK n W (gb n ds W lf fd)
def Fo(e:En):Nat:=match e[3]? with|some (some (Sv.l xs))=>xs.length|_=>0
theorem qX{n:Int}{W:aN}{ds lf fd:List Int}:Fo (gb n ds W lf fd)=lf.length:=by show(lf.map PyData.int).length=_;rw[Mn]
theorem Ah{n:Int}(n0:0<=n){W:aN}(hn:(W.ties.length:Int)=n)(ok:W.Ok){ds:List Int}(hd:iW ds):∃(fs ds':List Int),ma [.l (ds.map .int),.d (ay W),.d (.int n)]=some (.d (.tuple (fs.map .int)),[.l (ds'.map .int),.d (ay W),.d (.int n)])/\iW ds'/\fs.Nodup/\(∀k∈fs,gG W k)/\(fs.length:Int)=n:=by
 have wl:=ok.len;have g1':=IR (W:=W);have q3:∀(xs:List Int) (e:En),e[3]?=some (some (.l (xs.map .int)))->cS true e (.s 3) (.l [])=some (.d (.bool (!(xs.map PyData.int).isEmpty))):=λxs e he=>oj he (jy _).1;obtain⟨e0,e',hw,hP,hft⟩:=iV (ft:=cx) (f:=kD) (FK n W) Fo (λe hP=>by
  obtain⟨hd,nd,hr,hl,hs⟩:=hP;rename_i ds lf fd;have qf:((fd.map PyData.int).length:Int)=(fd.length:Int):=by simp
  by_cases c:lf=[];·subst c;left;refine⟨gb n ds W [] fd,?_,trivial⟩;have q:=λe he=>q3 [] e he;simp only[gb,MG,List.isEmpty_nil,QE]at q⊢;simp?[cx,q]
  ·have q:=λe he=>q3 lf e he;rw[show(lf.map PyData.int).isEmpty=false by
   rcases lf with _|⟨x,r⟩;·exact absurd rfl c
   ·rfl]at q;by_cases c2:(fd.length:Int)<n
   ·right;obtain⟨nn,d1,t1,-,-,hd1⟩:=iT hd;have lp:0<(lf.length:Int):=by have:=List.length_pos_iff.mpr c;lia
    have gm:∀e:En,a7 e (.d (.int nn)) (.d (.int (lf.length:Int)))=some (.d (.int (nn%(lf.length:Int)))):=λe=>aQ lp;have a0:=vF (n:=nn) lp;have a1:=vG (n:=nn) lp;generalize nn%(lf.length:Int)=k at*;have hk:k.toNat<lf.length:=by lia
    have hp:=ka lf k.toNat hk;have hx:(lf.map PyData.int)[k.toNat]?=some (.int lf[k.toNat]):=by rw[MS,My hk];rfl
    have he:(lf.map PyData.int).eraseIdx k.toNat=(lf.eraseIdx k.toNat).map .int:=lY;have pp:((fd++[lf[k.toNat]])++lf.eraseIdx k.toNat).Perm (fd++lf):=by rw[MA];exact Ot _ hp
    have hle:=hp.length_eq;rw[Nj]at hle;generalize lf[k.toNat]=x at*;generalize lf.eraseIdx k.toNat=lf' at*;refine⟨gb n ds W lf fd,gb n d1 W lf' (fd++[x]),?_,?_,.mk hd1 (pp.nodup_iff.mpr nd) (λz hz=>hr z (pp.mem_iff.mp hz)) ↥7 ↥7,by rw[qX,qX];lia⟩
    ·have c3:(fd.length:Int)<n:=by lia
     simp only[gb];generalize lf.map PyData.int=LL at*;simp?[cx,q,qf,c3]
    ·have ql:((lf.map PyData.int).length:Int)=(lf.length:Int):=by simp
     have nl:=oF W.ties.length (fd++lf) nd hr;rw[MY]at nl;have kb:k<1000000000:=by lia
     have lt:fd.length<1000000:=by lia
     simp only[gb,Pz,Mp,MG,<-he];generalize (lf.length:Int)=M0 at*;generalize lf.map PyData.int=LL at*;simp?[kD,t1,ql,gm,a0,kb,hx,lt]
   ·left;refine⟨gb n ds W lf fd,?_,trivial⟩;have c3:¬(fd.length:Int)<n:=by lia
    simp only[gb];generalize lf.map PyData.int=LL at*;simp?[cx,q,qf,c3]) (2^4200) (gb n ds W (gc W.ties.length) []) (.mk hd (BP _) (λk hk=>tN hk) (by simpa using n0) (by simp[lE])) (by rw[qX,lE];exact Qt wl ⋯);obtain⟨hd2,nd,hr,hl,hs⟩:=hP;rename_i ds2 lf fd;have key:∀b e'',cx (gb n ds2 W lf fd)=some (b,e'')->e''=gb n ds2 W lf fd:=λb e'' h=>by
  have q:=λe he=>q3 lf e he;have qf:((fd.map PyData.int).length:Int)=(fd.length:Int):=by simp
  generalize (!(lf.map PyData.int).isEmpty)=bb at*;have:cx (gb n ds2 W lf fd)=some (bb&&decide ((fd.length:Int)<n),gb n ds2 W lf fd):=by simp only[gb];generalize lf.map PyData.int=LL at*;cases bb<;>simp?[cx,q,qf]
  rw[this]at h;exact(Prod.mk.inj (Nm h)).2.symm
 have he:=key _ _ hft;subst he;have fl:(fd.length:Int)=n:=by
  have q:=λe he=>q3 lf e he;have qf:((fd.map PyData.int).length:Int)=(fd.length:Int):=by simp
  by_cases c:lf=[];·subst c;simp at hs;lia
  ·by_cases c2:(fd.length:Int)<n
   ·exfalso;rw[show(lf.map PyData.int).isEmpty=false by
    rcases lf with _|⟨x,r⟩;·exact absurd rfl c
    ·rfl]at q;have:cx (gb n ds2 W lf fd)=some (true,gb n ds2 W lf fd):=by simp only[gb];generalize lf.map PyData.int=LL at*;simp?[cx,q,qf,c2]
    rw[this]at hft;cases hft
   ·lia
 refine⟨fd,ds2,?_,hd2,(List.nodup_append.mp nd).1,λk hk=>hr k (by simp[hk]),fl⟩;have hw':iR (2^4200) cx kD (gb n ds W (gc W.ties.length) [])=some (.nx (gb n ds2 W lf fd)):=hw;have ql:(((W.ties.map b7).length:Nat):Int)=(W.ties.length:Int):=by simp
 have q2:(W.ties.length:Int)<=100000:=by lia
 have q4:((W.ties.length:Int)).toNat=W.ties.length:=by lia
 simp only[gb,MG]at hw';generalize fd.map PyData.int=FF at*;generalize lf.map PyData.int=LL at*;generalize W.ties.map b7=TT at*;simp?[ma,xY,g1',ql,gF,q2,q4,hw']
abbrev oE(ds:List Int)(W:aN)(most:Int)(left found:List Int)(v5:Option Sv):En:=[some (.l (ds.map .int)),some (.d (ay W)),some (.d (.int most)),some (.l (left.map .int)),some (.l (found.map .int)),v5]
theorem uU{ds:List Int}{W:aN}{most:Int}{left found:List Int}{v5:Option Sv}(hd:iW ds)(hl:left.length<=100)(hf:found.length<=100):∃ds' left' found',fg (oE ds W most left found v5)=some (.nx (oE ds' W most left' found' v5))/\iW ds'/\(found'++left').Perm (found++left)/\found'.length<=found.length+1:=by
 have gn:∀(e:En) (xs:List Int),e[3]?=some (some (.l (xs.map .int)))->cS true e (.s 3) (.l [])=some (.d (.bool (!(xs.map PyData.int).isEmpty))):=λe xs he=>oj he (jy xs).1;by_cases c:left=[];·subst c;refine⟨ds,[],found,?_,hd,.refl _,by lia⟩;have gn':=λe he=>gn e [] he;simp only[MG,List.isEmpty_nil,QE]at gn';simp?[oE,fg,gn']
 ·obtain⟨n,d1,t1,a1,b1,hd1⟩:=iT hd;have pos:0<left.length:=List.length_pos_iff.mpr c;have m0:0<=n%(left.length:Int):=Qg _ ↥0;have m1:n%(left.length:Int)<(left.length:Int):=Qh _ ↥0;have gm:∀e,a7 e (.d (.int n)) (.d (.int (left.length:Int)))=some (.d (.int (n%(left.length:Int)))):=λe=>aQ ↥0;generalize n%(left.length:Int)=i at*;have hi:i.toNat<left.length:=by lia
  have hx:(left.map PyData.int)[i.toNat]?=some (.int left[i.toNat]):=by rw[MS,My hi];rfl
  have he:(left.map PyData.int).eraseIdx i.toNat=(left.eraseIdx i.toNat).map .int:=by rw[lY]
  refine⟨d1,left.eraseIdx i.toNat,found++[left[i.toNat]],?_,hd1,?_,by simp⟩
  ·have gn':=λe he=>gn e left he;have ne:(left.map PyData.int).isEmpty=false:=by cases hq:left with|nil=>exact absurd hq c|cons x r=>rfl
   rw[ne]at gn';have ql:((left.map PyData.int).length:Int)=(left.length:Int):=by simp
   have hb:i<1000000000:=by lia
   have lf:(found.map PyData.int).length<1000000:=by simp;lia
   have e1:(found++[left[i.toNat]]).map PyData.int=found.map .int++[.int left[i.toNat]]:=by simp
   simp only[oE,e1,<-he];generalize left[i.toNat]=x at*;generalize found.map PyData.int=FF at*;generalize (left.length:Int)=L at*;generalize left.map PyData.int=LL at*;simp?[fg,gn',t1,ql,gm,m0,hb,hx,lf]
  ·rw[MA];exact Ot _ (ka left i.toNat hi)
theorem B9{W:aN}(ok:W.Ok){ds:List Int}(hd:iW ds){most:Int}(m0:0<=most)(m1:most<=100):∃(os ds' left:List Int),k8 [.l (ds.map .int),.d (ay W),.d (.int most)]=some (.d (.tuple (os.map .int)),[.l (ds'.map .int),.d (ay W),.d (.int most)])/\iW ds'/\(os++left).Perm (gc W.ties.length)/\(os.length:Int)<=most:=by
 have wl:=ok.len;obtain⟨n,d1,t1,a1,b1,hd1⟩:=iT hd;have k0:0<=n%(most+1):=Qg _ ↥0;have k1:n%(most+1)<most+1:=Qh _ ↥0;have gm:∀e,a7 e (.d (.int n)) (.d (.int (most+1)))=some (.d (.int (n%(most+1)))):=λe=>aQ ↥0;generalize n%(most+1)=many at*;have g1':∀e,cK e (.d (ay W)) (.d (.int 1))=some (.d (.tuple (W.ties.map b7))):=λe=>by rw[dC,eA,eS];rfl
 obtain⟨e',h1,⟨d2,left,found,v5,he,hd2,hp,hfl⟩⟩:=cP (own:=[]) (g:=aq 5) (f:=fg) (λi e=>∃ds left found v5,e=oE ds W most left found v5/\iW ds/\(found++left).Perm (gc W.ties.length)/\found.length<=i) (bL 0 many.toNat) 0 (oE d1 W most (gc W.ties.length) [] none) (λi x e hx⟨ds,left,found,v5,he,hd,hp,hfl⟩=>by subst he;have hl:=hp.length_eq;rw[MY,lE]at hl;obtain⟨ds',left',found',h1,h2,h3,h4⟩:=uU (W:=W) (most:=most) (left:=left) (found:=found) (v5:=some (.d x)) hd ↥0 ↥0;exact⟨_,_,rfl,h1,bH,ds',left',found',_,rfl,h2,h3.trans hp,by lia⟩) ⟨d1,_,[],none,rfl,hd1,by simp,by simp⟩;subst he;have hf:∀Wl,eN Wl l7 (aq 5) fg (oE ds W most (gc W.ties.length) [] none)=some (.nx (oE d2 W most left found v5)):=λWl=>by rw[ef (show l7 (oE ds W most (gc W.ties.length) [] none)=some (bL 0 many.toNat,[],oE d1 W most (gc W.ties.length) [] none) from dS (n:=many) (by simp?[oE,t1,gm]) ↥0 ↥0)];exact h1
 rw[iQ]at hfl;refine⟨found,d2,left,?_,hd2,hp,by lia⟩;simp only[oE,MG]at hf;have ql:((W.ties.map b7).length:Int)=(W.ties.length:Int):=by simp
 have lr:∀(fs:FA) (e e1:En) (n:Nat),n<=16->fs e=some ([.d (.int (n:Int))],e1)->gF fs e=some (.l ((gc n).map .int),e1):=λfs e e1 n hn h=>by unfold gF;rw[h];simp only[MH,bF];rw[if_pos ↥0,Int.toNat_natCast]
 have hr:gF (aa (aI (g1 gK) (aa (aB cK (af 1) (vC (.int 1))) aj)) aj) [some (.l (ds.map .int)),some (.d (ay W)),some (.d (.int most)),none,none,none]=some (.l ((gc W.ties.length).map .int),[some (.l (ds.map .int)),some (.d (ay W)),some (.d (.int most)),none,none,none]):=lr _ _ _ _ wl (by simp?[g1']);simp?[k8,vt,hr,hf]
theorem ER{d:LS}{n dep:Nat}(hz:Sz n dep d)(h1:n<=16777216)(h2:dep<=60):iK [.d d,.d d]=some (.d (.bool true),[.d d,.d d]):=by have r:∀e,g1 mW e [.d d]=some (.d (.str d.shown)):=λe=>AU (hz.ok h1 h2);have q:∀e,cS false e (.d (.str d.shown)) (.d (.str d.shown))=some (.d (.bool true)):=λe=>AQ hz.so;simp?[iK,x4,r,q]
theorem FU{W:aN}(ok:W.Ok){i:Nat}(hi:i<=8){L:List (Std×Fr)}(h:wA W i L):Sz 314115 10 (jZ L):=by
 obtain⟨D,d0,dB,hL⟩:=h.ex;have wl:=ok.len;have t1:=ok.t1;have ln:L.length<=256:=Mv h.ln (Mv (PP ⋯ hi) ⋯);refine Sz.tup (n:=1225) (dep:=8) (m:=256) (λd hd=>?_) (by rw[Mn];exact ln);obtain⟨p,hp,rfl⟩:=LM hd;have hs:=hL.st p hp;have sl:=hs.len;have st:=hs.tk;have fr:=(hL.fr p hp).bt (dB.mono (show 1+8*i<=300 by lia)) d0;refine Sz.tup (n:=609) (dep:=6) (m:=2) (λd hd=>?_) ↥1;simp only[Nc,Nx,or_false]at hd;rcases hd with rfl|rfl
 ·refine(Sz.tup (n:=131) (dep:=4) (m:=2) (λd hd=>?_) ↥1).mono ⋯ ⋯;simp only[Nc,Nx,or_false]at hd;rcases hd with rfl|rfl;·exact(Sz.ints (m:=16) ↥0 λk hk=>⟨(hs.inw k hk).1,by have:=(hs.inw k hk).2;lia⟩).mono ⋯ ⋯
  ·exact Sz.ints (m:=32) ↥0 λt ht=>⟨(hs.th t ht).1,by have:=(hs.th t ht).2;lia⟩
 ·exact(Sz.fr fr.1 fr.2 ⋯ ⋯).mono ⋯ ⋯
theorem sY{W:aN}(ok:W.Ok):∀(os:List Int) (i:Nat) (L:List (Std×Fr)),wA W i L->(∀k∈os,gG W k)->i+os.length<=8->∀M∈eJ W L os,∃j,j<=8/\wA W j M
 |[],i,L,h,_,hl,M,hM=>by rw[eJ,Pa]at hM;subst hM;exact⟨i,by simpa using hl,h⟩|k::r,i,L,h,ho,hl,M,hM=>by
  rw[Nj]at hl;rw[eJ]at hM;rcases LN hM with rfl|hM;·exact⟨i,by lia,h⟩
  ·exact sY ok r (i+1) _ (h.next ok (ho k ↥1)) (λj hj=>ho j (by simp[hj])) ↥0 M hM
theorem sZ{W:aN}:∀(os:List Int) (L:List (Std×Fr)),(eJ W L os).length=os.length+1|[],L=>rfl|k::r,L=>by rw[eJ,Nj,sZ r,Nj]
theorem jM{W:aN}(ok:W.Ok){os:List Int}(ho:∀k∈os,gG W k)(hl:os.length<=8):iK [.d (.tuple ((eJ W iX os).map jZ)),.d (.tuple ((eJ W iX os).map jZ))]=some (.d (.bool true),[.d (.tuple ((eJ W iX os).map jZ)),.d (.tuple ((eJ W iX os).map jZ))]):=by refine ER (Sz.tup (n:=314115) (dep:=10) (m:=9) (λd hd=>?_) (by rw[Mn,sZ];lia)) ⋯ ⋯;obtain⟨M,hM,rfl⟩:=LM hd;obtain⟨j,hj,h⟩:=sY ok os 0 iX (wA.first W) ho ↥0 M hM;exact FU ok hj h
theorem qu{W:aN}{os:List Int}(h8:8<os.length)(h16:os.length<=16):gZ [.d (ay W),.d (.tuple (os.map .int))]=some (.d (.bool true),[.d (ay W),.d (.tuple (os.map .int))]):=by
 have ol:((os.map PyData.int).length:Int)=(os.length:Int):=by simp
 refine DS rfl rfl ⟨[.int (os.length:Int),.int 8],[some (.d (ay W)),some (.d (.tuple (os.map .int))),none,none],?_,rfl,?_⟩;·generalize os.map PyData.int=OO at*;simp?[ol]
 ·have c:(8:Int)<(os.length:Int):=by lia
  refine⟨[some (.d (.int (os.length:Int))),some (.d (.int 8))],?_,rfl,?_⟩;·simp?[c]
  ·have a:∀e:En,q_ e (.d (.int (os.length:Int)))=some (.d (.str (nS (os.length:Int)))):=λe=>sS ↥0 ↥0;have b:∀e:En,q_ e (.d (.int 8))=some (.d (.str (nS 8))):=λe=>sS ⋯ ⋯;have l1:=vO ⟨os.length,by lia⟩;have l2:=vO ⟨8,by lia⟩;change (nS (os.length:Int)).length<=4 at l1;change (nS 8).length<=4 at l2;have l3:(Nv " are more than ").length=15:=by decide
   have l:(nS (os.length:Int)).length+(Nv " are more than ").length+(nS 8).length<=1000000:=by lia
   generalize nS (os.length:Int)=x at*;generalize nS 8=y at*;refine⟨[.d (.str (Oz++x++Nv " are more than "++y))],[some (.d (.int (os.length:Int))),some (.d (.int 8))],?_,rfl⟩;simp?[a,b,G8,qz,l]
theorem sM{xs:List LS}{m:Nat}:L2.cutD xs none (some (m:Int))=xs.take m:=by
 unfold L2.cutD;rw[HT.sIx_none,HT.sIx_nat];simp only[Pu,Nat.sub_zero];rcases Nat.le_total m xs.length with z|z;·rw[Nat.min_eq_left z]
 ·rw[Nat.min_eq_right z,Rk ↥8,Rk z]
inductive Dj (ns:List Int):En->Prop|mk{ds v2 v3 v4 v5 v6 v7 v8}(hd:iW ds):Dj ns [some (.d (.list (ns.map .int))),some (.l (ds.map .int)),v2,v3,v4,v5,v6,v7,v8]
theorem yF{W:aN}{os:List Int}(e:En):cS true e (.d (.tuple [ay W,.tuple (os.map .int)])) (.d (.tuple [ay W,.tuple (os.map .int)]))=some (.d (.bool false)):=yw (n:=12) (Sh.tup (n:=10) λd hd=>by
 simp only[Nc,Nx,or_false]at hd;rcases hd with rfl|rfl;·exact Sh.web
 ·exact Sh.ints.mono ⋯) ⋯ (by simp[dG,cw,yr,oh])
theorem yT{ns ds:List Int}(hd:iW ds){i:Nat}(hi:i<3){v3 v4 v5 v6 v7 v8:Option Sv}:∃e2,E2 [some (.d (.list (ns.map .int))),some (.l (ds.map .int)),some (.d (.int (i:Int))),v3,v4,v5,v6,v7,v8]=some (.nx e2)/\Dj ns e2:=by
 by_cases z:i=0;·subst z;obtain⟨W,d1,t1,hd1,ok,wl⟩:=Al (n:=8) ⋯ ⋯ hd;obtain⟨fs,d2,t2,hd2,nd,ho,fl⟩:=Ah (n:=8) ⋯ wl ok hd1;have tl:=pb ok ho ↥0;have to:=gE ok ho ↥0;have ts:=jM ok ho ↥0;have gq:=λe=>yF (W:=W) (os:=fs) e;refine⟨[some (.d (.list (ns.map .int))),some (.l (d2.map .int)),some (.d (.int ((0:Nat):Int))),some (.d (ay W)),some (.d (.tuple (fs.map .int))),some (.d (.tuple [ay W,.tuple (fs.map .int)])),some (.d (.tuple ((eJ W iX fs).map jZ))),v7,v8],?_,.mk hd2⟩;generalize (eJ W iX fs).map jZ=YY at*;generalize fs.map PyData.int=OO at*;generalize ay W=WW at*;simp?[E2,t1,t2,tl,to,ts,gq]
 ·obtain⟨W,d1,t1,hd1,ok,-,wl⟩:=GR ds 12 10 hd ⋯ ⋯ ⋯ ⋯;obtain⟨os,d2,left,t2,hd2,pm,ol⟩:=B9 ok hd1 (most:=8-(i:Int)) ↥0 ↥0;have ho:∀k∈os,gG W k:=λk hk=>tN (pm.mem_iff.mp (by simp[hk]));have tl:=pb ok ho ↥0;have to:=gE ok ho ↥0;have ts:=jM ok ho ↥0;have gq:=λe=>yF (W:=W) (os:=os) e;have z':¬(i:Int)=0:=by lia
  refine⟨[some (.d (.list (ns.map .int))),some (.l (d2.map .int)),some (.d (.int (i:Int))),some (.d (ay W)),some (.d (.tuple (os.map .int))),some (.d (.tuple [ay W,.tuple (os.map .int)])),some (.d (.tuple ((eJ W iX os).map jZ))),v7,v8],?_,.mk hd2⟩;generalize (eJ W iX os).map jZ=YY at*;generalize os.map PyData.int=OO at*;generalize ay W=WW at*;generalize (i:Int)=ii at*;simp?[E2,z',t1,t2,tl,to,ts,gq]
theorem yS(ns:List Int)(hl:ns.length<=63):∃as',oB [.d (.list (ns.map .int))]=some (.d (.bool true),as'):=by
 obtain⟨ds,td,hd⟩:=B8 ns hl;obtain⟨e2,h1,hI⟩:=cP (own:=[]) (g:=aq 2) (f:=E2) (λ_=>Dj ns) (bL 0 3) 0 [some (.d (.list (ns.map .int))),some (.l (ds.map .int)),none,none,none,none,none,none,none] (λi x e hx hI=>by
  obtain⟨hd⟩:=hI;rename_i ds v2 v3 v4 v5 v6 v7 v8;obtain⟨j,hj,rfl⟩:∃j:Nat,j<3/\x=.int (j:Int):=by
   have hm:=LO hx;rw[show bL 0 3=[.int 0,.int 1,.int 2]from rfl]at hm;simp only[Nc,Nx,or_false]at hm;rcases hm with rfl|rfl|rfl;·exact⟨0,by decide,rfl⟩
   ·exact⟨1,by decide,rfl⟩
   ·exact⟨2,by decide,rfl⟩
  obtain⟨e',hb,hI'⟩:=yT (ns:=ns) hd hj (v3:=v3) (v4:=v4) (v5:=v5) (v6:=v6) (v7:=v7) (v8:=v8);exact⟨_,_,rfl,hb,bH,hI'⟩) (.mk hd);obtain⟨hd2⟩:=hI;rename_i ds2 v2 v3 v4 v5 v6 v7 v8;have hi:Ik [some (.d (.list (ns.map .int))),some (.l (ds.map .int)),none,none,none,none,none,none,none]=some (bL 0 3,[],[some (.d (.list (ns.map .int))),some (.l (ds.map .int)),none,none,none,none,none,none,none]):=dS (n:=3) rfl ⋯ ⋯;have hfor:=λWl=>ef (W:=Wl) (g:=aq 2) (f:=E2) hi;rw[h1]at hfor;obtain⟨n1,d1,t1,-,-,hd1⟩:=iT hd2;have gm:∀e:En,a7 e (.d (.int n1)) (.d (.int 8))=some (.d (.int (n1%8))):=λe=>aQ ⋯;have q0:=vF (n:=n1) (k:=8) ⋯;have q1:=vG (n:=n1) (k:=8) ⋯;generalize n1%8=q at*;obtain⟨W,d3,t3,hd3,ok,wl⟩:=Al (n:=9+q) ↥0 ↥0 hd1;obtain⟨fs,d4,t4,hd4,nd,ho,fl⟩:=Ah (n:=9+q) ↥0 wl ok hd3;have r1:=qu (W:=W) (os:=fs) ↥0 ↥0;have l9:(fs.take 9).length=9:=by rw[Nh];lia
 have r2:=qu (W:=W) (os:=fs.take 9) ↥0 ↥0;have ho2:∀k∈fs.take 2,gG W k:=λk hk=>ho k (Rh hk);have l2:(fs.take 2).length<=8:=by rw[Nh];lia
 have tl:=pb ok ho2 l2;have to:=gE ok ho2 l2;have ts:=jM ok ho2 l2;have to0:=gE ok (os:=[]) (λk hk=>by cases hk) ⋯;have ts0:=jM ok (os:=[]) (λk hk=>by cases hk) ⋯;rw[show(eJ W iX []).map jZ=[.tuple [.tuple [.tuple [.tuple [],.tuple []],.tuple [.int 1,.int 1]]]]from rfl,MG]at to0;rw[show(eJ W iX []).map jZ=[.tuple [.tuple [.tuple [.tuple [],.tuple []],.tuple [.int 1,.int 1]]]]from rfl]at ts0;have c9:∀e:En,Ft e (.d (.tuple (fs.map .int))) none (some 9)=some (.d (.tuple ((fs.take 9).map .int))):=λe=>by rw[j3,show(9:Int)=((9:Nat):Int) from rfl,sM,List.map_take]
 have c2:∀e:En,Ft e (.d (.tuple (fs.map .int))) none (some 2)=some (.d (.tuple ((fs.take 2).map .int))):=λe=>by rw[j3,show(2:Int)=((2:Nat):Int) from rfl,sM,List.map_take]
 clear h1;generalize (eJ W iX (fs.take 2)).map jZ=YY at*;generalize (fs.take 9).map PyData.int=O9 at*;generalize (fs.take 2).map PyData.int=O2 at*;generalize fs.map PyData.int=OO at*;generalize ay W=WW at*;simp?[oB,Cw,td,hfor,t1,gm,t3,t4,r1,r2,c9,c2,tl,to,ts,to0,ts0]
theorem E6{P:List LP->Prop}(h:∀a0,P [a0]):∀us:List LP,us.length=1->P us:=λus e=>match us,e with|[a0],_=>h a0
theorem ul{P:List LP->Prop}(h:∀a0 a1,P [a0,a1]):∀us:List LP,us.length=2->P us:=λus e=>match us,e with|[a0,a1],_=>h a0 a1
theorem xS{P:List LP->Prop}(h:∀a0 a1 a2,P [a0,a1,a2]):∀us:List LP,us.length=3->P us:=λus e=>match us,e with|[a0,a1,a2],_=>h a0 a1 a2
theorem Io{P:List LP->Prop}(h:∀a0 a1 a2 a3,P [a0,a1,a2,a3]):∀us:List LP,us.length=4->P us:=λus e=>match us,e with|[a0,a1,a2,a3],_=>h a0 a1 a2 a3
abbrev hQ(w:LV)(n:Str)(s:Me)(a c:LQ)(d p:LP):Prop:=(NG (kK w.params) ME n,Oq a (kK w.params),PK (kK w.params) (.ref c) n,OI (kK w.params) (.ref a))=(some (some (.ref a)),some (kF n s d p c),true,true)
theorem hm{w:LV}{h:LZ}{mg:Str->Option LP}{n:Str}{s:Me}{a c:LQ}{d p:LP}{ps:List Str}(X:(kK w.params).In h)(G:h.Ns ME mg)(e:hQ w n s a c d p)(b:∀(kV doc pm:LP) (an:Option LQ) (cdv ct:LP) (us:List LP),us.length=ps.length->bindArgs (NJ n n (dD s) (b_ s) (ao s) .none kV doc pm an cdv ct) ⟨us,[]⟩=pure (ps.zip us)):eQ (kK w.params) mg n s a (NJ n n (dD s) (b_ s) (ao s) .none .none d p none (.ref c) .none) ps:=Dz X G (congrArg (·.1) e) (congrArg (·.2.1) e) (congrArg (·.2.2.1) e) (congrArg (·.2.2.2) e) b
theorem nz(w:LV):hQ w "refuse_above" bD 82 81 (.none) Il:=by kernel_rfl
theorem kY(w:LV):hQ w "common_divisor" bS 91 90 (.none) CM:=by kernel_rfl
theorem xb(w:LV):hQ w "lowest" hX 98 97 (.none) CM:=by kernel_rfl
theorem yQ(w:LV):hQ w "times" lK 105 104 (.none) CM:=by kernel_rfl
theorem sW(w:LV):hQ w "one_less" fX 112 111 (.none) CM:=by kernel_rfl
theorem rk(w:LV):hQ w "things_of" cG 122 121 (.none) Av:=by kernel_rfl
theorem rj(w:LV):hQ w "many_asks" eO 127 126 (.none) Av:=by kernel_rfl
theorem kX(w:LV):hQ w "bears_one_more" bR 134 133 (.none) Av:=by kernel_rfl
theorem uK(w:LV):hQ w "may_ask" h_ 139 138 (.none) Av:=by kernel_rfl
theorem nA(w:LV):hQ w "stand_behind" cF 146 145 (.none) Av:=by kernel_rfl
theorem ox(w:LV):hQ w "stands_next" cU 153 152 (.none) G3:=by kernel_rfl
theorem ny(w:LV):hQ w "layer_behind" bT 158 157 (.none) G3:=by kernel_rfl
theorem ri(w:LV):hQ w "layers_of" cE 165 164 (.none) Im:=by kernel_rfl
theorem yM(w:LV):hQ w "_law_mixed" lG 172 171 (.none) fN:=by kernel_rfl
theorem yL(w:LV):hQ w "_law_draws" lF 179 178 (.none) fN:=by kernel_rfl
theorem AZ(w:LV):hQ w "_law_next" gO 186 185 (.none) fN:=by kernel_rfl
theorem DH(w:LV):hQ w "_law_gcd" tQ 193 192 (.none) fN:=by kernel_rfl
theorem DK(w:LV):hQ w "_law_low" qi 200 199 (.none) fN:=by kernel_rfl
theorem yO(w:LV):hQ w "_law_times" lI 207 206 (.none) fN:=by kernel_rfl
theorem A0(w:LV):hQ w "_law_rest" oS 214 213 (.none) fN:=by kernel_rfl
theorem A4(w:LV):hQ w "_law_same" oT 221 220 (.none) fN:=by kernel_rfl
theorem w_(w:LV):hQ w "_law_chance" jv 228 227 (.none) fN:=by kernel_rfl
theorem yP(w:LV):hQ w "_law_worth" lJ 235 234 (.none) fN:=by kernel_rfl
theorem A6(w:LV):hQ w "_law_ties" mv 242 241 (.none) fN:=by kernel_rfl
theorem DM(w:LV):hQ w "_law_web" tS 249 248 (.none) fN:=by kernel_rfl
theorem uG(w:LV):hQ w "_law_asks_of" hE 254 253 (.none) fN:=by kernel_rfl
theorem DL(w:LV):hQ w "_law_may" tR 261 260 (.none) fN:=by kernel_rfl
theorem wZ(w:LV):hQ w "_law_behind" jt 268 267 (.none) fN:=by kernel_rfl
theorem yN(w:LV):hQ w "_law_order" lH 275 274 (.none) fN:=by kernel_rfl
theorem uJ(w:LV):hQ w "_law_ways_on" hV 282 281 (.none) fN:=by kernel_rfl
theorem xa(w:LV):hQ w "_law_layers" jw 289 288 (.none) fN:=by kernel_rfl
theorem AY(w:LV):hQ w "_law_full" oR 296 295 (.none) fN:=by kernel_rfl
theorem A7(w:LV):hQ w "_law_wide" oU 303 302 (.none) fN:=by kernel_rfl
theorem uH(w:LV):hQ w "_law_is_many" hJ 310 309 (.none) fN:=by kernel_rfl
theorem uI(w:LV):hQ w "_law_refused" hU 317 316 (.none) fN:=by kernel_rfl
theorem DN(w:LV):hQ w "law" oV 324 323 (.none) fN:=by kernel_rfl
theorem all_mk{l:W.OpenLaw}{w:LV}{h:LZ}{mg:Str->Option LP}{fa:LQ}(X:(kK w.params).In h)(G:h.Ns ME mg)(hfa:mg "law"=some (.ref fa)):∃fd:Mw,(∀(s:LR) (v:LP),BindsTo s fd ⟨[v],[]⟩ [("_law_script",v)])/\∀base:LZ,(kK w.params).In base->base.Ns ME mg->a_ l.prog w (kK w.params) mg base eW 9 fa fd ["_law_script"] (fZ (kK w.params) 1 oB):=by
 have e:=hfa.symm.trans (NZ X G (show NG (kK w.params) ME "law"=some (some (.ref 324)) by kernel_rfl));cases e;have nn:∀{n:Str},NG (kK w.params) ME n=some none->mg n=none:=λe=>W.mg_none_of X G e;have T:iq mg:=⟨nn ↥6,nn ↥6,nn ↥6,nn ↥6,nn ↥6,nn ↥6,nn ↥6,nn ↥6,nn ↥6,nn ↥6,nn ↥6,nn ↥6,nn ↥6⟩;have Jj:=hm (ps:=["many","most"]) X G (nz w) λ_ _ _ _ _ _=>ul λ_ _=>rfl;have Jo:=hm (ps:=["one","other"]) X G (kY w) λ_ _ _ _ _ _=>ul λ_ _=>rfl;have Jz:=hm (ps:=["top","bottom"]) X G (xb w) λ_ _ _ _ _ _=>ul λ_ _=>rfl;have JX:=hm (ps:=["one","other"]) X G (yQ w) λ_ _ _ _ _ _=>ul λ_ _=>rfl;have JA:=hm (ps:=["chance"]) X G (sW w) λ_ _ _ _ _ _=>E6 λ_=>rfl;have Jm:=hm (ps:=["web","tie"]) X G (rk w) λ_ _ _ _ _ _=>ul λ_ _=>rfl;have Jw:=hm (ps:=["web","asked","thing"]) X G (rj w) λ_ _ _ _ _ _=>xS λ_ _ _=>rfl;have Jp:=hm (ps:=["web","stand","thing"]) X G (kX w) λ_ _ _ _ _ _=>xS λ_ _ _=>rfl;have JE:=hm (ps:=["web","stand","tie"]) X G (uK w) λ_ _ _ _ _ _=>xS λ_ _ _=>rfl;have Jq:=hm (ps:=["web","stand","tie","truth"]) X G (nA w) λ_ _ _ _ _ _=>Io λ_ _ _ _=>rfl;have Jr:=hm (ps:=["web","stand","tie"]) X G (ox w) λ_ _ _ _ _ _=>xS λ_ _ _=>rfl;have Jn:=hm (ps:=["web","layer","tie"]) X G (ny w) λ_ _ _ _ _ _=>xS λ_ _ _=>rfl;have Ji:=hm (ps:=["web","order"]) X G (ri w) λ_ _ _ _ _ _=>ul λ_ _=>rfl;have JO:=hm (ps:=["_law_cell","_law_k"]) X G (yM w) λ_ _ _ _ _ _=>ul λ_ _=>rfl;have J1:=hm (ps:=["_law_script"]) X G (yL w) λ_ _ _ _ _ _=>E6 λ_=>rfl;have Jk:=hm (ps:=["_law_drawn"]) X G (AZ w) λ_ _ _ _ _ _=>E6 λ_=>rfl;have Kv:=hm (ps:=["_law_one","_law_other"]) X G (DH w) λ_ _ _ _ _ _=>ul λ_ _=>rfl;have Ka:=hm (ps:=["_law_top","_law_bottom"]) X G (DK w) λ_ _ _ _ _ _=>ul λ_ _=>rfl;have J0:=hm (ps:=["_law_one","_law_other"]) X G (yO w) λ_ _ _ _ _ _=>ul λ_ _=>rfl;have Kb:=hm (ps:=["_law_one"]) X G (A0 w) λ_ _ _ _ _ _=>E6 λ_=>rfl;have JQ:=hm (ps:=["_law_found","_law_due"]) X G (A4 w) λ_ _ _ _ _ _=>ul λ_ _=>rfl;have JK:=hm (ps:=["_law_number","_law_kind"]) X G (w_ w) λ_ _ _ _ _ _=>ul λ_ _=>rfl;have JZ:=hm (ps:=["_law_number","_law_kind"]) X G (yP w) λ_ _ _ _ _ _=>ul λ_ _=>rfl;have JV:=hm (ps:=["_law_drawn","_law_things","_law_many"]) X G (A6 w) λ_ _ _ _ _ _=>xS λ_ _ _=>rfl;have KA:=hm (ps:=["_law_drawn","_law_most","_law_ties_here"]) X G (DM w) λ_ _ _ _ _ _=>xS λ_ _ _=>rfl;have JF:=hm (ps:=["_law_web_here","_law_asked","_law_thing"]) X G (uG w) λ_ _ _ _ _ _=>xS λ_ _ _=>rfl;have Ky:=hm (ps:=["_law_web_here","_law_stand","_law_tie"]) X G (DL w) λ_ _ _ _ _ _=>xS λ_ _ _=>rfl;have JL:=hm (ps:=["_law_web_here","_law_stand","_law_tie","_law_truth"]) X G (wZ w) λ_ _ _ _ _ _=>Io λ_ _ _ _=>rfl;have J3:=hm (ps:=["_law_drawn","_law_web_here","_law_most"]) X G (yN w) λ_ _ _ _ _ _=>xS λ_ _ _=>rfl;have JG:=hm (ps:=["_law_web_here","_law_ways","_law_tie"]) X G (uJ w) λ_ _ _ _ _ _=>xS λ_ _ _=>rfl;have JH:=hm (ps:=["_law_web_here","_law_order_here"]) X G (xa w) λ_ _ _ _ _ _=>ul λ_ _=>rfl;have J9:=hm (ps:=["_law_drawn","_law_web_here","_law_most"]) X G (AY w) λ_ _ _ _ _ _=>xS λ_ _ _=>rfl;have J8:=hm (ps:=["_law_drawn","_law_many"]) X G (A7 w) λ_ _ _ _ _ _=>ul λ_ _=>rfl;have Jv:=hm (ps:=["_law_error"]) X G (uH w) λ_ _ _ _ _ _=>E6 λ_=>rfl;have Jy:=hm (ps:=["_law_web_here","_law_order_here"]) X G (uI w) λ_ _ _ _ _ _=>ul λ_ _=>rfl;have Lo:=hm (ps:=["_law_script"]) X G (DN w) λ_ _ _ _ _ _=>E6 λ_=>rfl;have lG_83:Oq 83 (kK w.params)=some (kT [.int (0) 281,.int (1) 282] 0):=by kernel_rfl
 have m_ZERO:=NZ X G (show NG (kK w.params) ME "ZERO"=some (some (.ref 83)) by kernel_rfl);have c_ZERO:∀F,DA (kK w.params) F (.tuple [.int (0),.int (1)]) (.ref 83):=λF=>by simp only[DA,aL];exact⟨83,[V.int (0),V.int (1)],rfl,.inr ⟨_,_,_,lG_83,rfl,rfl,rfl,(by show 2<=Mi;decide),(.cons ⟨_,rfl⟩ (.cons ⟨_,rfl⟩ .nil))⟩,⟨_,_,rfl,rfl,⟨_,_,rfl,rfl,rfl⟩⟩⟩
 have lG_84:Oq 84 (kK w.params)=some (kT [.int (1) 284,.int (1) 285] 0):=by kernel_rfl
 have m_ONE:=NZ X G (show NG (kK w.params) ME "ONE"=some (some (.ref 84)) by kernel_rfl);have c_ONE:∀F,DA (kK w.params) F (.tuple [.int (1),.int (1)]) (.ref 84):=λF=>by simp only[DA,aL];exact⟨84,[V.int (1),V.int (1)],rfl,.inr ⟨_,_,_,lG_84,rfl,rfl,rfl,(by show 2<=Mi;decide),(.cons ⟨_,rfl⟩ (.cons ⟨_,rfl⟩ .nil))⟩,⟨_,_,rfl,rfl,⟨_,_,rfl,rfl,rfl⟩⟩⟩
 have lG_115:Oq 115 (kK w.params)=some (kT [.ref 113,.ref 114] 0):=by kernel_rfl
 have lG_113:Oq 113 (kK w.params)=some (kT [] 0):=by kernel_rfl
 have lG_114:Oq 114 (kK w.params)=some (kT [] 0):=by kernel_rfl
 have m_FIRST_STAND:=NZ X G (show NG (kK w.params) ME "FIRST_STAND"=some (some (.ref 115)) by kernel_rfl);have c_FIRST_STAND:∀F,DA (kK w.params) F (.tuple [.tuple [],.tuple []]) (.ref 115):=λF=>by simp only[DA,aL];exact⟨115,[V.ref 113,V.ref 114],rfl,.inr ⟨_,_,_,lG_115,rfl,rfl,rfl,(by show 2<=Mi;decide),(.cons rfl (.cons rfl .nil))⟩,⟨_,_,rfl,⟨113,[],rfl,.inr ⟨_,_,_,lG_113,rfl,rfl,rfl,(by show 0<=Mi;decide),.nil⟩,rfl⟩,⟨_,_,rfl,⟨114,[],rfl,.inr ⟨_,_,_,lG_114,rfl,rfl,rfl,(by show 0<=Mi;decide),.nil⟩,rfl⟩,rfl⟩⟩⟩
 have lG_148:Oq 148 (kK w.params)=some (kT [.ref 147] 0):=by kernel_rfl
 have lG_147:Oq 147 (kK w.params)=some (kT [.ref 115,.ref 84] 0):=by kernel_rfl
 have m_FIRST_LAYER:=NZ X G (show NG (kK w.params) ME "FIRST_LAYER"=some (some (.ref 148)) by kernel_rfl);have c_FIRST_LAYER:∀F,DA (kK w.params) F (.tuple [.tuple [.tuple [.tuple [],.tuple []],.tuple [.int (1),.int (1)]]]) (.ref 148):=λF=>by simp only[DA,aL];exact⟨148,[V.ref 147],rfl,.inr ⟨_,_,_,lG_148,rfl,rfl,rfl,(by show 1<=Mi;decide),(.cons rfl .nil)⟩,⟨_,_,rfl,⟨147,[V.ref 115,V.ref 84],rfl,.inr ⟨_,_,_,lG_147,rfl,rfl,rfl,(by show 2<=Mi;decide),(.cons rfl (.cons rfl .nil))⟩,⟨_,_,rfl,⟨115,[V.ref 113,V.ref 114],rfl,.inr ⟨_,_,_,lG_115,rfl,rfl,rfl,(by show 2<=Mi;decide),(.cons rfl (.cons rfl .nil))⟩,⟨_,_,rfl,⟨113,[],rfl,.inr ⟨_,_,_,lG_113,rfl,rfl,rfl,(by show 0<=Mi;decide),.nil⟩,rfl⟩,⟨_,_,rfl,⟨114,[],rfl,.inr ⟨_,_,_,lG_114,rfl,rfl,rfl,(by show 0<=Mi;decide),.nil⟩,rfl⟩,rfl⟩⟩⟩,⟨_,_,rfl,⟨84,[V.int (1),V.int (1)],rfl,.inr ⟨_,_,_,lG_84,rfl,rfl,rfl,(by show 2<=Mi;decide),(.cons ⟨_,rfl⟩ (.cons ⟨_,rfl⟩ .nil))⟩,⟨_,_,rfl,rfl,⟨_,_,rfl,rfl,rfl⟩⟩⟩,rfl⟩⟩⟩,rfl⟩⟩
 have m_MOST_TIES_OF_ORDER:=NZ X G (show NG (kK w.params) ME "MOST_TIES_OF_ORDER"=some (some (.int (8) 382)) by kernel_rfl);have m_NoRise:=NZ X G (show NG (kK w.params) ME "NoRise"=some (some (.ref 49)) by kernel_rfl);have m_NoText:=NZ X G (show NG (kK w.params) ME "NoText"=some (some (.ref 73)) by kernel_rfl);have m_NotTwoSided:=NZ X G (show NG (kK w.params) ME "NotTwoSided"=some (some (.ref 61)) by kernel_rfl);have m_PairsError:=NZ X G (show NG (kK w.params) ME "PairsError"=some (some (.ref 24)) by kernel_rfl);have m_TooMany:=NZ X G (show NG (kK w.params) ME "TooMany"=some (some (.ref 37)) by kernel_rfl);have x_TooMany:Py (kK w.params) 37 xO "ValueError.__new__"=true:=by kernel_rfl
 have Z_TooMany:pq (kK w.params) 37:=⟨by kernel_rfl,by kernel_rfl,by kernel_rfl,by kernel_rfl,by kernel_rfl,by kernel_rfl⟩;have k_t:W.kitAny (kK w.params) (.ref 37) [.ref 49,.ref 73,.ref 61]=some false:=by kernel_rfl
 have k_TooMany:OP (kK w.params) (.ref 37) (.ref 37)=some true:=by kernel_rfl
 have k_PairsError:OP (kK w.params) (.ref 37) (.ref 24)=some true:=by kernel_rfl
 have k_ValueError:OP (kK w.params) (.ref 37) (.type "ValueError")=some true:=by kernel_rfl
 have x2_PairsError:W.exmOne (kK w.params) (.ref 37) (.ref 24)=some true:=by kernel_rfl
 refine⟨NJ "law" "law" (dD oV) (b_ oV) (ao oV) .none .none (.none) fN none (.ref 323) .none,λs v=>.of_eq rfl,λbase _ _=>?_⟩;have cl:∀{f:LQ}{fd:Mw}{n:Str}{s:Me}{ps:List Str}{lv k:Nat}{m:FM},eQ (kK w.params) mg n s f fd ps->a_ l.prog w (kK w.params) mg base eW lv f fd ps (fZ (kK w.params) k m)->Cl l.prog w (kK w.params) mg base n s ps lv k m:=λh g=>⟨_,_,h,g⟩;have z_refuse_above:=cl Jj (nD Jj T);have R_refuse_above:=mh (P:=l.prog) (w:=w) (base:=base) Jj T m_TooMany x_TooMany;have z_common_divisor:=cl Jo (lm Jo T);have z_lowest:=cl Jz (xl Jz T z_common_divisor);have z_times:=cl JX (zh JX T z_lowest);have z_one_less:=cl JA (tH JA T z_lowest);have z_things_of:=cl Jm (rM Jm T);have z_many_asks:=cl Jw (rL Jw T z_things_of);have z_bears_one_more:=cl Jp (lh Jp T z_many_asks);have z_may_ask:=cl JE (uT JE T z_bears_one_more z_things_of);have z_stand_behind:=cl Jq (nE Jq T z_things_of);have z_stands_next:=cl Jr (oH Jr T z_may_ask z_stand_behind z_one_less m_ZERO c_ZERO m_ONE c_ONE);have z_layer_behind:=cl Jn (nB Jn T z_times z_stands_next);have z_layers_of:=cl Ji (rK Ji T z_refuse_above z_layer_behind m_FIRST_LAYER c_FIRST_LAYER m_MOST_TIES_OF_ORDER);have R_layers_of:=pH (P:=l.prog) (w:=w) (base:=base) Ji T z_layer_behind m_FIRST_LAYER c_FIRST_LAYER m_MOST_TIES_OF_ORDER Jj R_refuse_above;have zLmixed:=cl JO (y' JO T);have zLdraws:=cl J1 (y_ J1 T zLmixed);have zLnext:=cl Jk (Bg Jk T);have zLgcd:=cl Kv (DX Kv T);have zLlow:=cl Ka (DY Ka T zLgcd);have zLtimes:=cl J0 (zb J0 T zLlow);have zLrest:=cl Kb (Bh Kb T);have zLsame:=cl JQ (Bi JQ T);have zLchance:=cl JK (xj JK T zLlow);have zLworth:=cl JZ (zc JZ T);have zLties:=cl JV (Bj JV T zLnext zLchance zLworth);have zLweb:=cl KA (D0 KA T zLties zLnext);have zLasks_of:=cl JF (uP JF T);have zLmay:=cl Ky (DZ Ky T zLasks_of);have zLbehind:=cl JL (xi JL T);have zLorder:=cl J3 (za J3 T zLnext);have zLways_on:=cl JG (uS JG T zLmay zLrest zLbehind zLtimes);have zLlayers:=cl JH (xk JH T zLways_on);have zLfull:=cl J9 (Bf J9 T zLnext);have zLwide:=cl J8 (Bk J8 T zLties zLnext);have JP:=uQ (P:=l.prog) (w:=w) (base:=base) Jv T Z_TooMany m_TooMany m_NoRise m_NoText m_NotTwoSided m_PairsError k_t k_TooMany k_PairsError k_ValueError;have zLrefused:=cl Jy (uR Jy T Ji R_layers_of Jv JP m_PairsError x2_PairsError);have Lp:=D1 (P:=l.prog) (w:=w) (base:=base) Lo T zLdraws zLwide zLfull zLsame zLlayers z_layers_of zLweb zLorder zLnext zLrefused;exact Lp
def GB(K:W.Frag):Sp:=λvs H Q _=>∃(a:LQ) (ns:List Int),vs=[.ref a]/\i6 K H a (ns.map V.int)/\ns.length<=63/\∀H',Q (.bl true) H'
theorem DP{K:W.Frag}{vs:List V}{H:Hp}{Q:VK}{E:XK}(h:GB K vs H Q E):fZ K 1 oB vs H Q E:=by obtain⟨a,ns,rfl,hS,hl,q⟩:=h;obtain⟨as',hm⟩:=yS ns hl;exact va hS hm q
theorem walk{l:W.OpenLaw}{q:Mc}{loose:List Str}{XP:(Str->Option LP)->LZ->Prop}{YP:LV->LZ->Prop}{d:DefRec}{K:Params->W.Frag}(hn:l.most=some 63)(hdf:d.params.defaults=[])(hY:∀(w:LV) (h:LZ),YP w h->(K w.params).In h)(F:∀(w:LV) (mg:Str->Option LP) (fa:LQ) (h:LZ),(K w.params).In h->h.Ns ME mg->mg d.name=some (.ref fa)->∃fd:Mw,(∀(s:LR) (u:LP),BindsTo s fd ⟨[u],[]⟩ [("_law_script",u)])/\∀base:LZ,(K w.params).In base->base.Ns ME mg->a_ l.prog w (K w.params) mg base eW 9 fa fd ["_law_script"] (fZ (K w.params) 1 oB)):W.WalkO q loose XP YP l.row.toRowW d [] (λf vs=>PySem.call f vs):=L2.walk_of (n:=63) (k:=9) (x:="_law_script") (CX:=λ_=>eW) (sp:=λw=>fZ (K w.params) 1 oB) hn ⋯ hdf ⟨rfl,by decide,by decide,rfl⟩ hY F (λ_ _ a ns hl _ hS=>DP ⟨a,ns,rfl,hS,hl,λ_=>rfl⟩) λ_ _ _ _ _ z=>z
end V24
open PySem PySem.W PyProof.Rows
theorem saO{l:OpenLaw}(h:l.wellSaid=true):l.row.wellSaid=true:=by
 cases e:l.row.wellSaid with
 |true=>rfl
 |false=>unfold OpenLaw.wellSaid at h;rw[e]at h;simp at h
set_option maxRecDepth 100000 in
theorem sa0:QO.wellSaid=true:=by kernel_rfl
set_option maxRecDepth 100000 in
set_option maxHeartbeats 0 in
theorem PySem.Challenge.cw_askedpairs_k24_layers_told_holds : PySem.Challenge.rw_askedpairs_k24_layers_told.Holds := by
  w_on;refine⟨sa0,?_⟩;have:=saO sa0
  refine holds_open (q:=V24.kq) (loose:=["FIRST_LAYER"]) (Xt:=fun s=>xlAt V24.kq [] s&&recOk (RowW.records (OpenRow.toRowW (OpenLaw.row QO))) s) (XP:=XL V24.kq []) (Yf:=Hook.obs V24.kH) (Ya:=Hook.val V24.kH) (YP:=Hook.says V24.kH) (N:=4694) V24.left (Hook.of V24.kH) (Hook.keeps V24.kH) (fun s e=>xl_of s (Bool.and_eq_true_iff.mp e).1) XL.keeps ∅ ∅ ∅ (fun s e=>recFacts_of (Bool.and_eq_true_iff.mp e).2) ∅ (by assumption) ↥2 ⟨rfl,rfl,rfl,rfl,rfl,by decide+kernel⟩ ?hw ?hc
  case hw=>w_witness2
  case hc=>exact V24.walk (l:=QO) rfl rfl (fun w h Y=>kIn_of Y) (fun w mg fa h KX G hmg=>V24.all_mk KX G hmg)
