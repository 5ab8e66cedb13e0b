import PyProof.Rows.All
import KE.KRevSl
import KE.KItem
import KE.KFromBytes
import KE.KIntText
import KE.KRevIter
import KE.KTryMore
import PySem.Challenge.RW_askedpairs_k28_trees_of_orders
open PySem renaming Value->QP,Addr->QQ,PyData->QR,Shared->QS,Expr->QT,wpAny_bind->QV,World->QW,wpAny->QX,model->QY,Program->QZ,Heap->Re,Around->Rf,starEach->Rg,Stmt->Rh,eval->Rj,wpAny_pure->Rl,sizeLine->Rm,Scope->Rt,wpAny_mono->Rx,backTo->RF,compareOp->RI,FuncData->RJ,mainGlobals->RN,cellsFrom->RO,binaryOp->RZ,cLine->Sa,sizeLine_eq->Se,IsPair->Sf,sysModules->So,atKey->Sr,Keyword->Sw,NameKind->Sx,bootBuiltins->SC,assign->SE,foldedSetIterable->SF,wpAny_field->SG,assignEach->SL,intKind->SU,swapsWith->SV,codeAny->SW,pyNext->Tf,Builtin->Tg,holding->Ti,getItem->Tq,wpAny_loadPart'->Tu,importedModules->Tx,standAt->TC,wpAny_newObj_type->TF,attributeBase->TJ,call_meets->TK,wpAny_seqItems->TQ,tupleKind->Ub,wpAny_truthy_bool->Uc,wpAny_standAt->Ud,wpAny_call_entry->Uh,wpAny_holding->Up,wpAny_rule->Uq,behindInMarks->Ur,ReadsAll->Ut,Fin->Uw,wpAny_passesOwn->Uz,letOwnedTupleGo->UA,wpAny_callSpecial?_slot->UB,sliceBounds->UD,keywordEach->UE,swapsWithSole->US,swappedStores->UT,wpAny_Call_Name_kw->UX,wpAny_setField_rec->Vh,wpAny_execs_cons->Vl,wpAny_pyIter_tuple->Vm,codeAny_mono->Vn,mem_of_lookup->Vo,typeIs_int->Vq,wpAny_loadPart_at->VE,wpAny_execs_nil->VN,wpAny_isInstance->Wc,tupleKind_room_in1->We,wpAny_updateSeq_pair->WB
open PySem.W renaming Frag->QU,fnOf->Tc,nsIn->Tj,mg_of->TM,kitOne->TX,boot_heap->TZ,openSeen->Ua,kia_one->Um,hideAll->UP,keepIn->UW,isStarred->Vg,excIn->Vj,codeIn->Vp,methodObj->Wr,callWith_K->Wv
open List renaming replicate->Rk,map_cons->Rn,length_map->Rq,getElem?_set_ne->Ru,size_toArray->Ry,mem_cons->RC,getElem?_map->RK,find?_cons->RL,not_mem_nil->RM,map_nil->RQ,getElem?_eq_getElem->RS,getElem?_set_self->RU,all_eq_true->RV,length_append->RW,mem_append->Si,mem_append_right->Sk,append_nil->Sl,length_set->Sy,length_cons->SA,map_map->SH,getElem?_append_left->SM,nil_append->SN,set_set->SR,mem_cons_of_mem->Td,range->To,lookup_cons->Tt,cons_append->Tw,mem_cons_self->Tz,map_append->TY,nodup_cons->Ue,replicate_succ->Ui,mem_singleton->Uk,ext_getElem?->Ul,Nodup->Uo,any_cons->Us,drop_eq_getElem_cons->Uu,append_assoc->UF,getElem?_modify->UJ,getElem?_set->UK,map->UL,dropWhile_cons->UM,toArray->UN,mem_filter->UQ,filterMap_cons->UR,length_take->UY,getElem?_append_right->UZ,length_replicate->Va,foldl->Vc,forIn_cons->Vd,lookup->Vf,getElem?_eq_none->Vi,flatten_cons->Vr,length_eq_zero_iff->Vu,forIn_nil->Vv,drop_eq_nil_of_le->Vx,all_nil->Vz,lookup_append->VC,map_congr_left->VD,mem_range->VL,of_mem_zip->VO,length_nil->VW,getElem_mem->VY,getElem?_of_mem->Wg,findIdx?_eq_none_iff->Wj,nodup_append->Wk,length_filter_le->Wo,mem_filterMap->Ws,mem_append_left->Wu,getElem?_replicate->Wx,getD_eq_getElem?_getD->WA,find?_eq_none->WK,findIdx?_eq_some_iff_getElem->WQ
open Nat renaming le_refl->Ro,le_trans->RT,lt_of_lt_of_le->Sb,ne_of_lt->Sd,zero_le->SY,zero_add->Ta,lt_irrefl->Tn,pow_le_pow_right->Tr,le_of_lt->Uy,pow_pos->Vk,lt_of_le_of_lt->Vs,le_add_right->VF,pow_succ->VI
open PySem.Heap renaming lt_size->Rp,get?_push_of_some->RH,get?_push_size->Sn,size_push->SZ,SameBut->TB
open Option renaming bind_some->Rr,map_some->Su,isSome_map->UH,getD_some->Vt,map_eq_some_iff->Wq,isSome_iff_exists->Ww
open Int renaming gcd->Rw,toNat_natCast->Ug,emod_nonneg->VG,emod_lt_of_pos->VH,fdiv_mul_cancel->VT,lt_of_lt_of_le->WJ
open Ne renaming symm->Rz
open PyProof.Rows renaming envOfC->RB,kindOf->SX,AllBare->Tp,slot_tuple_getitem->UC,callWith_type1->UU,boot_isinstance->VB,boot_tuple->WH
open Bool renaming and_eq_true->RE,false_ne_true->Te,not_true->UI,false_eq_true->Ve,not_eq_true'->Vy,and_self->VA,eq_iff_iff->VX,false_or->Wd,or_eq_false_iff->Wm
open Option.some renaming inj->RG,injEq->Ux
open PySem.PassesOwn renaming never->RX
open PySem.Str renaming ofString->RY,empty->Uv
open PySem.Challenge renaming pw_askedpairs_k28_trees_of_orders->Sg,rw_askedpairs_k28_trees_of_orders->Wp
open False renaming elim->Sj
open PySem.PyData renaming canLay0->Sm,eqv->Ss,canLayAll0->SB,strOk->SJ,depth->SQ,depthAll->Th,shownAll->Ts,eqvAll->TV,showableAll->VU
open PySem.SeqAt renaming shaped->SI,canLay_of_shaped->Wh
open PySem.NameKind renaming free->SO,cell->UG
open True renaming intro->Tv
open PySem.Obj renaming mapSeq->TH
open PySem.Builtin.SmallTypes renaming nextOf->TN,ownedTupleIsFree->Wa,ownedTupleHandOut->WO
open ForInStep renaming yield->Uj
open PySem.Value renaming isInt->UO,builtin->Wn
open PySem.Builtin renaming bitAnd->UV
open PySem.Builtin.Tuple renaming tupleExact->Vb,tupleHashOf->Wf,tupleTooMany->WE,tupleItemsOf->WM
open PySem.F renaming slot_tuple_mul->Vw,slot_list_pop->VR,slot_int_rmul->VS,slot_tuple_iterator_next->VZ,slot_zip_next->Wb,plainAttrs_list->Wi,slot_list_append->Wz,slot_enumerate_next->WC
open PySem.Paired renaming length->VJ
open Array renaming length_toList->VM,forIn_toList->WG
open PySem.Builtin.Slice renaming slicePlaces->VP,sliceAdjust->Wy,sliceApplied->WL
open PySem.Builtin.List renaming listTooLong->VQ,listExtendWith->WN
open PySem.AutoSeq1 renaming idx_int->WD
set_option Elab.async false
set_option linter.all false
set_option maxRecDepth 100000
noncomputable section
local macro_rules|`(∅)=>`(by rfl)
local macro_rules|`(⋯)=>`(by decide)
local macro_rules|`(↥0)=>`(by lia)|`(↥1)=>`(by simp)|`(↥2)=>`(by decide+kernel)|`(↥3)=>`(Or.inl rfl)|`(↥4)=>`(fun _ _=>rfl)|`(↥5)=>`(by intro _;rfl)|`(↥6)=>`(by kernel_rfl)|`(↥7)=>`(by simp;lia)|`(↥8)=>`(Nat.le_refl _)
local macro_rules|`(⇑0)=>`(PySem.W.Frag)
local macro_rules|`(↑$x)=>`(($x).heap.objs.size)
namespace L2
open PySem PySem.Spec PyProof.Rows
def d_(s:Rh):Arguments:=match s with|.FunctionDef _ a _ _ _ _ _ _ _ _=>a|_=>{posonlyargs:=[],args:=[],vararg:=none,kwonlyargs:=[],kw_defaults:=[],kwarg:=none,defaults:=[]}
def cn(s:Rh):List Rh:=match s with|.FunctionDef _ _ b _ _ _ _ _ _ _=>b|_=>[]
def am(s:Rh):Rt:=match s with|.FunctionDef _ _ _ _ _ _ sc _ _ _=>sc|_=>{kind:=.function,names:=[],isGenerator:=false,isCoroutine:=false}
end L2
namespace V28
open PySem PySem.Spec PyProof.Rows L2
def top(i:Nat):Rh:=Sg.main.body.getD i (.Pass ⟨0,0,0,0⟩)
abbrev bD:Rh:=top 6
abbrev cY:Rh:=top 9
abbrev fV:Rh:=top 10
abbrev bY:Rh:=top 11
abbrev jE:Rh:=top 12
abbrev bZ:Rh:=top 13
abbrev gQ:Rh:=top 16
abbrev bL:Rh:=top 19
abbrev eX:Rh:=top 20
abbrev nK:Rh:=top 22
abbrev nJ:Rh:=top 23
abbrev iu:Rh:=top 24
abbrev xA:Rh:=top 25
abbrev xB:Rh:=top 26
abbrev oJ:Rh:=top 27
abbrev lg:Rh:=top 28
abbrev nM:Rh:=top 29
abbrev oK:Rh:=top 30
abbrev xC:Rh:=top 31
abbrev jz:Rh:=top 32
abbrev ut:Rh:=top 33
abbrev jA:Rh:=top 34
abbrev nL:Rh:=top 35
abbrev jy:Rh:=top 36
abbrev fU:Rh:=top 37
abbrev iy:Rh:=top 38
abbrev rY:Rh:=top 39
abbrev r6:Rh:=top 40
abbrev jD:Rh:=top 41
abbrev lm:Rh:=top 42
abbrev jB:Rh:=top 43
abbrev lh:Rh:=top 44
abbrev dC:Rh:=top 45
abbrev jC:Rh:=top 46
abbrev er:Rh:=top 47
abbrev r9:Rh:=top 48
def kL(n:Str)(bs mro:List QP)(ns:QQ)(sub:List QP)(sl:Array (Option QP)):Obj:=⟨.type "type",none,.cls {name:=n,bases:=bs,mro:=mro,ns:=ns,qualname:=n,hasDict:=true,slotNames:=[],subclasses:=sub,abstract:=false,collection:=none,hasDel:=false},sl⟩
def kE(P:Params)(k:Str)(t:Tok)(v:QP):DictEntry:=⟨PyData.keyHash P k,.str k t,v⟩
def kF(n:Str)(s:Rh)(doc pm:QP)(c:QQ):Obj:=⟨.type "function",none,.func (Tc n n (d_ s) (cn s) (am s) .none .none doc pm none (.ref c) .none),#[]⟩
def kI(n:Int):QP:=.int n 0
def kC(n:Str)(a:Nat)(l:List QP)(z:Nat):Obj:=⟨.type "code",none,.fields (Value.str n a::Value.str n (a+1)::Value.str "/claim/cut.py" (a+2)::l++[Value.str "/claim/cut.py" z]).toArray,#[]⟩
def kT(l:List QP)(n:Nat):Obj:=⟨.type "tuple",none,.seq l.toArray n,#[]⟩
def NM:QP:=.str "askedpairs.errors" 187
def E8:QP:=.str "askedpairs.stands" 279
def NN:QP:=.str "askedpairs.trees" 325
def ML:QP:=.str "askedpairs.layers" 336
def eR:QP:=.str "law_askedpairs_k28_trees_of_orders" 354
def kK(P:Params):QU:=[(3,⟨.type "dict",none,.dict (UN [kE P "__name__" 165 (.str "law_askedpairs_k28_trees_of_orders" 354),kE P "__doc__" 166 (.none),kE P "__package__" 167 (.none),kE P "__loader__" 168 (.builtin "__main__.__loader__#opaque"),kE P "__spec__" 169 (.none),kE P "__annotations__" 170 (.ref 6),kE P "__builtins__" 171 (.ref 4),kE P "__file__" 173 (.str "/claim/cut.py" 172),kE P "__cached__" 174 (.none),kE P "PairsError" 206 (.ref 24),kE P "TooMany" 222 (.ref 37),kE P "NoRise" 238 (.ref 49),kE P "NotTwoSided" 254 (.ref 61),kE P "NoText" 270 (.ref 73),kE P "refuse_above" 278 (.ref 82),kE P "FIRST_STAND" 281 (.ref 85),kE P "things_of" 289 (.ref 92),kE P "many_asks" 295 (.ref 97),kE P "bears_one_more" 306 (.ref 104),kE P "may_ask" 312 (.ref 109),kE P "stand_behind" 324 (.ref 116),kE P "END" 329 (.int (-1) 328),kE P "tree_by" 335 (.ref 121),kE P "MOST_TIES_OF_ORDER" 339 (.int (8) 338),kE P "asks_by_stand" 345 (.ref 126),kE P "tree_of" 353 (.ref 133),kE P "_law_mixed" 364 (.ref 140),kE P "_law_draws" 375 (.ref 147),kE P "_law_next" 382 (.ref 154),kE P "_law_gcd" 390 (.ref 161),kE P "_law_low" 399 (.ref 168),kE P "_law_same" 407 (.ref 175),kE P "_law_chance" 416 (.ref 182),kE P "_law_worth" 424 (.ref 189),kE P "_law_ties" 443 (.ref 196),kE P "_law_web" 459 (.ref 203),kE P "_law_asks_of" 465 (.ref 208),kE P "_law_may" 477 (.ref 215),kE P "_law_behind" 490 (.ref 222),kE P "_law_order" 502 (.ref 229),kE P "_law_answers" 513 (.ref 236),kE P "_law_run_order" 525 (.ref 243),kE P "_law_run_tree" 538 (.ref 250),kE P "_law_full" 549 (.ref 257),kE P "_law_wide" 560 (.ref 264),kE P "_law_rows_of" 566 (.ref 269),kE P "_law_spread" 578 (.ref 276),kE P "_law_is_many" 585 (.ref 283),kE P "_law_is_int" 594 (.ref 290),kE P "_law_nodes_right" 607 (.ref 297),kE P "_law_refused" 617 (.ref 304),kE P "_law_asks_alike" 628 (.ref 311),kE P "law" 644 (.ref 318)]) 53,#[]⟩),(82,kF "refuse_above" bD (.none) NM 81),(81,kC "refuse_above" 271 [kI 12,kI 2,kI 0,kI 0,kI 3,.ref 76,.bool true,kI 181,.ref 77,.none,.ref 78,.ref 79,.ref 80,kI 276,kI 12] 277),(92,kF "things_of" cY (.none) E8 91),(91,kC "things_of" 282 [kI 17,kI 2,kI 0,kI 0,kI 3,.ref 86,.bool true,kI 181,.ref 87,.none,.ref 88,.ref 89,.ref 90,kI 287,kI 17] 288),(97,kF "many_asks" fV (.none) E8 96),(96,kC "many_asks" 290 [kI 19,kI 3,kI 0,kI 0,kI 3,.ref 93,.bool true,kI 181,.ref 94,.none,.none,.none,.ref 95,kI 293,kI 19] 294),(104,kF "bears_one_more" bY (.none) E8 103),(103,kC "bears_one_more" 296 [kI 21,kI 3,kI 0,kI 0,kI 3,.ref 98,.bool true,kI 181,.ref 99,.none,.ref 100,.ref 101,.ref 102,kI 304,kI 21] 305),(109,kF "may_ask" jE (.none) E8 108),(108,kC "may_ask" 307 [kI 24,kI 3,kI 0,kI 0,kI 3,.ref 105,.bool true,kI 181,.ref 106,.none,.none,.none,.ref 107,kI 310,kI 24] 311),(116,kF "stand_behind" bZ (.none) E8 115),(115,kC "stand_behind" 313 [kI 29,kI 4,kI 0,kI 0,kI 3,.ref 110,.bool true,kI 181,.ref 111,.none,.ref 112,.ref 113,.ref 114,kI 322,kI 29] 323),(121,kF "tree_by" gQ (.none) NN 120),(120,kC "tree_by" 330 [kI 36,kI 2,kI 0,kI 0,kI 3,.ref 117,.bool true,kI 181,.ref 118,.none,.none,.none,.ref 119,kI 333,kI 36] 334),(126,kF "asks_by_stand" bL (.none) ML 125),(125,kC "asks_by_stand" 340 [kI 51,kI 2,kI 0,kI 0,kI 3,.ref 122,.bool true,kI 181,.ref 123,.none,.none,.none,.ref 124,kI 343,kI 51] 344),(133,kF "tree_of" eX (.none) ML 132),(132,kC "tree_of" 346 [kI 61,kI 2,kI 0,kI 0,kI 3,.ref 127,.bool true,kI 181,.ref 128,.none,.ref 129,.ref 130,.ref 131,kI 351,kI 61] 352),(140,kF "_law_mixed" nK (.none) eR 139),(139,kC "_law_mixed" 356 [kI 65,kI 2,kI 0,kI 0,kI 3,.ref 134,.bool true,kI 181,.ref 135,.none,.ref 136,.ref 137,.ref 138,kI 362,kI 65] 363),(147,kF "_law_draws" nJ (.none) eR 146),(146,kC "_law_draws" 365 [kI 68,kI 1,kI 0,kI 0,kI 3,.ref 141,.bool true,kI 181,.ref 142,.none,.ref 143,.ref 144,.ref 145,kI 373,kI 68] 374),(154,kF "_law_next" iu (.none) eR 153),(153,kC "_law_next" 376 [kI 81,kI 1,kI 0,kI 0,kI 3,.ref 148,.bool true,kI 181,.ref 149,.none,.ref 150,.ref 151,.ref 152,kI 380,kI 81] 381),(161,kF "_law_gcd" xA (.none) eR 160),(160,kC "_law_gcd" 383 [kI 85,kI 2,kI 0,kI 0,kI 3,.ref 155,.bool true,kI 181,.ref 156,.none,.ref 157,.ref 158,.ref 159,kI 388,kI 85] 389),(168,kF "_law_low" xB (.none) eR 167),(167,kC "_law_low" 391 [kI 89,kI 2,kI 0,kI 0,kI 3,.ref 162,.bool true,kI 181,.ref 163,.none,.ref 164,.ref 165,.ref 166,kI 397,kI 89] 398),(175,kF "_law_same" oJ (.none) eR 174),(174,kC "_law_same" 400 [kI 92,kI 2,kI 0,kI 0,kI 3,.ref 169,.bool true,kI 181,.ref 170,.none,.ref 171,.ref 172,.ref 173,kI 405,kI 92] 406),(182,kF "_law_chance" lg (.none) eR 181),(181,kC "_law_chance" 408 [kI 94,kI 2,kI 0,kI 0,kI 3,.ref 176,.bool true,kI 181,.ref 177,.none,.ref 178,.ref 179,.ref 180,kI 414,kI 94] 415),(189,kF "_law_worth" nM (.none) eR 188),(188,kC "_law_worth" 417 [kI 104,kI 2,kI 0,kI 0,kI 3,.ref 183,.bool true,kI 181,.ref 184,.none,.ref 185,.ref 186,.ref 187,kI 422,kI 104] 423),(196,kF "_law_ties" oK (.none) eR 195),(195,kC "_law_ties" 425 [kI 106,kI 3,kI 0,kI 0,kI 3,.ref 190,.bool true,kI 181,.ref 191,.none,.ref 192,.ref 193,.ref 194,kI 441,kI 106] 442),(203,kF "_law_web" xC (.none) eR 202),(202,kC "_law_web" 444 [kI 121,kI 3,kI 0,kI 0,kI 3,.ref 197,.bool true,kI 181,.ref 198,.none,.ref 199,.ref 200,.ref 201,kI 457,kI 121] 458),(208,kF "_law_asks_of" jz (.none) eR 207),(207,kC "_law_asks_of" 460 [kI 131,kI 3,kI 0,kI 0,kI 3,.ref 204,.bool true,kI 181,.ref 205,.none,.none,.none,.ref 206,kI 463,kI 131] 464),(215,kF "_law_may" ut (.none) eR 214),(214,kC "_law_may" 466 [kI 133,kI 3,kI 0,kI 0,kI 3,.ref 209,.bool true,kI 181,.ref 210,.none,.ref 211,.ref 212,.ref 213,kI 475,kI 133] 476),(222,kF "_law_behind" jA (.none) eR 221),(221,kC "_law_behind" 478 [kI 141,kI 4,kI 0,kI 0,kI 3,.ref 216,.bool true,kI 181,.ref 217,.none,.ref 218,.ref 219,.ref 220,kI 488,kI 141] 489),(229,kF "_law_order" nL (.none) eR 228),(228,kC "_law_order" 491 [kI 147,kI 3,kI 0,kI 0,kI 3,.ref 223,.bool true,kI 181,.ref 224,.none,.ref 225,.ref 226,.ref 227,kI 500,kI 147] 501),(236,kF "_law_answers" jy (.none) eR 235),(235,kC "_law_answers" 503 [kI 154,kI 2,kI 0,kI 0,kI 3,.ref 230,.bool true,kI 181,.ref 231,.none,.ref 232,.ref 233,.ref 234,kI 511,kI 154] 512),(243,kF "_law_run_order" fU (.none) eR 242),(242,kC "_law_run_order" 514 [kI 162,kI 3,kI 0,kI 0,kI 3,.ref 237,.bool true,kI 181,.ref 238,.none,.ref 239,.ref 240,.ref 241,kI 523,kI 162] 524),(250,kF "_law_run_tree" iy (.none) eR 249),(249,kC "_law_run_tree" 526 [kI 170,kI 2,kI 0,kI 0,kI 3,.ref 244,.bool true,kI 181,.ref 245,.none,.ref 246,.ref 247,.ref 248,kI 536,kI 170] 537),(257,kF "_law_full" rY (.none) eR 256),(256,kC "_law_full" 539 [kI 178,kI 3,kI 0,kI 0,kI 3,.ref 251,.bool true,kI 181,.ref 252,.none,.ref 253,.ref 254,.ref 255,kI 547,kI 178] 548),(264,kF "_law_wide" r6 (.none) eR 263),(263,kC "_law_wide" 550 [kI 184,kI 2,kI 0,kI 0,kI 3,.ref 258,.bool true,kI 181,.ref 259,.none,.ref 260,.ref 261,.ref 262,kI 558,kI 184] 559),(269,kF "_law_rows_of" jD (.none) eR 268),(268,kC "_law_rows_of" 561 [kI 189,kI 1,kI 0,kI 0,kI 3,.ref 265,.bool true,kI 181,.ref 266,.none,.none,.none,.ref 267,kI 564,kI 189] 565),(276,kF "_law_spread" lm (.none) eR 275),(275,kC "_law_spread" 567 [kI 195,kI 3,kI 0,kI 0,kI 3,.ref 270,.bool true,kI 181,.ref 271,.none,.ref 272,.ref 273,.ref 274,kI 576,kI 195] 577),(283,kF "_law_is_many" jB (.none) eR 282),(282,kC "_law_is_many" 579 [kI 200,kI 1,kI 0,kI 0,kI 3,.ref 277,.bool true,kI 181,.ref 278,.none,.ref 279,.ref 280,.ref 281,kI 583,kI 200] 584),(290,kF "_law_is_int" lh (.none) eR 289),(289,kC "_law_is_int" 586 [kI 204,kI 3,kI 0,kI 0,kI 3,.ref 284,.bool true,kI 181,.ref 285,.none,.ref 286,.ref 287,.ref 288,kI 592,kI 204] 593),(297,kF "_law_nodes_right" dC (.none) eR 296),(296,kC "_law_nodes_right" 595 [kI 206,kI 2,kI 0,kI 0,kI 3,.ref 291,.bool true,kI 181,.ref 292,.none,.ref 293,.ref 294,.ref 295,kI 605,kI 206] 606),(304,kF "_law_refused" jC (.none) eR 303),(303,kC "_law_refused" 608 [kI 221,kI 2,kI 0,kI 0,kI 3,.ref 298,.bool true,kI 181,.ref 299,.none,.ref 300,.ref 301,.ref 302,kI 615,kI 221] 616),(311,kF "_law_asks_alike" er (.none) eR 310),(310,kC "_law_asks_alike" 618 [kI 228,kI 4,kI 0,kI 0,kI 3,.ref 305,.bool true,kI 181,.ref 306,.none,.ref 307,.ref 308,.ref 309,kI 626,kI 228] 627),(318,kF "law" r9 (.none) eR 317),(317,kC "law" 629 [kI 231,kI 1,kI 0,kI 0,kI 3,.ref 312,.bool true,kI 181,.ref 313,.none,.ref 314,.ref 315,.ref 316,kI 642,kI 231] 643),(85,kT [.ref 83,.ref 84] 0),(83,kT [] 0),(84,kT [] 0),(24,kL "PairsError" [.type "ValueError"] [.ref 24,.type "ValueError",.type "Exception",.type "BaseException",.type "object"] 23 [.ref 37,.ref 49,.ref 61,.ref 73] #[some (.ref 15),none,some (.str "PairsError" 189),some (.str "PairsError" 197),some (.builtin "ValueError.__new__"),some (.bool true)]),(23,⟨.type "dict",none,.dict (UN [kE P "__module__" 196 (.str "askedpairs.errors" 187),kE P "__firstlineno__" 200 (.int (2) 199),kE P "__static_attributes__" 201 (.ref 22),kE P "__weakref__" 203 (.ref 25),kE P "__doc__" 204 (.none)]) 3,#[]⟩),(37,kL "TooMany" [.ref 24] [.ref 37,.ref 24,.type "ValueError",.type "Exception",.type "BaseException",.type "object"] 36 [] #[some (.ref 28),none,some (.str "TooMany" 207),some (.str "TooMany" 215),some (.builtin "ValueError.__new__"),some (.bool true)]),(36,⟨.type "dict",none,.dict (UN [kE P "__module__" 214 (.str "askedpairs.errors" 187),kE P "__firstlineno__" 218 (.int (4) 217),kE P "__static_attributes__" 219 (.ref 35),kE P "__doc__" 220 (.none)]) 2,#[]⟩),(49,kL "NoRise" [.ref 24] [.ref 49,.ref 24,.type "ValueError",.type "Exception",.type "BaseException",.type "object"] 48 [] #[some (.ref 40),none,some (.str "NoRise" 223),some (.str "NoRise" 231),some (.builtin "ValueError.__new__"),some (.bool true)]),(48,⟨.type "dict",none,.dict (UN [kE P "__module__" 230 (.str "askedpairs.errors" 187),kE P "__firstlineno__" 234 (.int (6) 233),kE P "__static_attributes__" 235 (.ref 47),kE P "__doc__" 236 (.none)]) 2,#[]⟩),(61,kL "NotTwoSided" [.ref 24] [.ref 61,.ref 24,.type "ValueError",.type "Exception",.type "BaseException",.type "object"] 60 [] #[some (.ref 52),none,some (.str "NotTwoSided" 239),some (.str "NotTwoSided" 247),some (.builtin "ValueError.__new__"),some (.bool true)]),(60,⟨.type "dict",none,.dict (UN [kE P "__module__" 246 (.str "askedpairs.errors" 187),kE P "__firstlineno__" 250 (.int (8) 249),kE P "__static_attributes__" 251 (.ref 59),kE P "__doc__" 252 (.none)]) 2,#[]⟩),(73,kL "NoText" [.ref 24] [.ref 73,.ref 24,.type "ValueError",.type "Exception",.type "BaseException",.type "object"] 72 [] #[some (.ref 64),none,some (.str "NoText" 255),some (.str "NoText" 263),some (.builtin "ValueError.__new__"),some (.bool true)]),(72,⟨.type "dict",none,.dict (UN [kE P "__module__" 262 (.str "askedpairs.errors" 187),kE P "__firstlineno__" 266 (.int (10) 265),kE P "__static_attributes__" 267 (.ref 71),kE P "__doc__" 268 (.none)]) 2,#[]⟩)]
def kA:List QQ:=[3,82,81,92,91,97,96,104,103,109,108,116,115,121,120,126,125,133,132,140,139,147,146,154,153,161,160,168,167,175,174,182,181,189,188,196,195,203,202,208,207,215,214,222,221,229,228,236,235,243,242,250,249,257,256,264,263,269,268,276,275,283,282,290,289,297,296,304,303,311,310,318,317,85,83,84,24,23,37,36,49,48,61,60,73,72]
def kq:QZ:={Sg with main:={Sg.main with body:=[top 1,top 2,top 3,top 4,top 5,top 6,top 8,top 9,top 10,top 11,top 12,top 13,top 15,top 16,top 18,top 19,top 20,top 22,top 23,top 24,top 25,top 26,top 27,top 28,top 29,top 30,top 31,top 32,top 33,top 34,top 35,top 36,top 37,top 38,top 39,top 40,top 41,top 42,top 43,top 44,top 45,top 46,top 47,top 48]}}
def kH:W.Hook:=W.kHook kK kA (λ_=>by kernel_rfl)
abbrev lX(s:QS):Bool:=W.xlAt kq [] s&&W.recOk (W.RowW.records (W.OpenRow.toRowW (W.OpenLaw.row Wp))) s
def An(p:QZ)(w:QW):Nat->W.SharedT->Thread->Option W.SharedT|0,_,_=>none|n+1,s,t=>match W.through t with|true=>some s|false=>match W.stepOk 11 (some (.ref 6)) t with|false=>none|true=>match W.stepT (denote treeTable) p w s t with|some (x,y)=>An p w n x y|none=>none
theorem IC{p:QZ}{w:QW}:∀{n:Nat}{s r:W.SharedT}{t:Thread},An p w n s t=some r->W.topRun treeTable p w 11 (some (.ref 6)) n s.abs t=some r.abs
 |0,_,_,_,h=>by cases h|n+1,s,r,t,h=>by
  unfold An at h;unfold W.topRun;split at h;·next e=>rw[e];cases h;rfl
  ·next e=>
   rw[e];split at h;·cases h
   ·next k=>
    rw[k];split at h;·next g=>rw[W.stepT_spec g];exact IC h
    ·cases h
def IB:List Obj->Nat->W.BT->W.BT|[],_,t=>t|o::r,n,t=>IB r (n+1) (t.ins n o)
def MA(w:QW)(os:OsState):W.SharedT:=⟨IB (TZ w.params).objs.toList 0 .nil,11,(TZ w.params).life,#[],W.boot_drawn,W.boot_toks,os⟩
theorem KP:(λw os=>(MA w os).abs)=λw os=>⟨TZ w.params,#[],W.boot_drawn,W.boot_toks,os⟩:=by kernel_rfl
theorem Mz:(λw:QW=>((TZ w.params).isNs RN,(TZ w.params).objs.size,(TZ w.params).nsMap RN "__annotations__"))=λ_=>(true,11,some (.ref 6)):=by kernel_rfl
def v_(p:QZ)(w:QW)(s:QS):Bool:=W.staticsOk (Tx p.main.body) (TZ w.params) s.heap&&W.namesBound p s.heap&&W.gensDone s&&W.laidKept (TZ w.params) s.heap
def xU(p:QZ)(r:QW->QW)(N:Nat){α:Type}(f:QW->QS->α)(a:QW->α):Prop:=∀w,(λos=>(An p (r w) N (MA w os) (W.topStub p)).map λx=>f w x.abs)=λ_=>some (a (r w))
theorem HC{p q:QZ}{L:List Str}{X:QS->Bool}{α:Type}{Yf:QS->α}{Ya:QW->α}{N:Nat}(o:W.opening p=W.plainProg p.main.scope.names)(hN:Nat.ble 600 N=true)(fe:fenceModules? p=some)(h:∀w,∃r:QW->QW,r w=w/\xU p r N (λw s=>(v_ p w s,Ua q L (Tx p.main.body) X true s,Yf s)) λw=>(true,W.openGood q L,Ya w)):W.LeftO p q L X Yf Ya N:=λw=>by
 obtain⟨s,e,k⟩:=Wq.1 (W.boot_open (N:=N) o hN (λs=>congrFun fe s) w);obtain⟨r,rw1,h⟩:=h w;obtain⟨H,g,d,t,os⟩:=s;cases k;have z:=congrFun (h w) os;rw[rw1]at z;obtain⟨y,ey,hy⟩:=Wq.1 z;have a:=IC ey;rw[congrFun (congrFun KP w) os]at a;have b:=congrFun Mz w;simp only[Prod.mk.injEq]at b hy;have c:W.topFrom treeTable p w N ⟨TZ w.params,#[],W.boot_drawn,W.boot_toks,os⟩=some y.abs:=by unfold W.topFrom;dsimp only;rw[b.1,b.2.1,b.2.2,a];have m:=hy.1;unfold v_ at m;simp only[Rr,m];rfl
 unfold W.openEnds;rw[e,Rr];exact(congrArg (Option.map _) c).trans (congrArg some (Prod.ext hy.2.1 hy.2.2))
theorem KQ{p:QZ}{N:Nat}{α:Type}{f:QW->QS->α}{a:QW->α}(h:xU p (λw=>w) N f a):∀w:QW,∃r:QW->QW,r w=w/\xU p r N f a:=λ_=>⟨_,rfl,h⟩
theorem Lo:xU Sg (λw=>w) 4646 (λv s=>(v_ Sg v s,(Ua kq [] (Tx Sg.main.body) lX true s).1)) (λv=>(true,expectedOf kq)):=λw=>by kernel_rfl
theorem Lp:xU Sg (λw=>w) 4646 (λv s=>((Ua kq [] (Tx Sg.main.body) lX true s).2.1,(Ua kq [] (Tx Sg.main.body) lX true s).2.2.1)) (λv=>(bltViewBooted,true)):=λw=>by kernel_rfl
theorem Lq:xU Sg (λw=>w) 4646 (λv s=>(Ua kq [] (Tx Sg.main.body) lX true s).2.2.2.1) (λv=>true):=λw=>by kernel_rfl
theorem Lr:xU Sg (λw=>w) 4646 (λv s=>((Ua kq [] (Tx Sg.main.body) lX true s).2.2.2.2.1,(Ua kq [] (Tx Sg.main.body) lX true s).2.2.2.2.2.1)) (λv=>(pinGoodD (drecsOf kq),plainGoodE kq (W.looseW kq []))):=λw=>by kernel_rfl
theorem Ls:xU Sg (λw=>w) 4646 (λv s=>((Ua kq [] (Tx Sg.main.body) lX true s).2.2.2.2.2.2,W.Hook.obs kH s)) (λv=>((plainGoodD kq [],W.wideGood kq,W.clsGoodW kq []),W.Hook.val kH v)):=λw=>by kernel_rfl
def NC(v:QW)(s:QS):=(v_ Sg v s,(Ua kq [] (Tx Sg.main.body) lX true s),W.Hook.obs kH s)
def NB(v:QW):=(true,W.openGood kq [],W.Hook.val kH v)
theorem ND{τ β0 β1 β2 β3 β4 β5 β6 β7 β8:Type}{o:Option τ}{a0:τ->β0}{a1:τ->β1}{a2:τ->β2}{a3:τ->β3}{a4:τ->β4}{a5:τ->β5}{a6:τ->β6}{a7:τ->β7}{a8:τ->β8}{c0:β0}{c1:β1}{c2:β2}{c3:β3}{c4:β4}{c5:β5}{c6:β6}{c7:β7}{c8:β8}(h:o.map (λx=>(a0 x,a1 x))=some (c0,c1))(k:o.map (λx=>(a2 x,a3 x))=some (c2,c3))(n:o.map a4=some c4)(l:o.map (λx=>(a5 x,a6 x))=some (c5,c6))(m:o.map (λx=>(a7 x,a8 x))=some (c7,c8)):o.map (λx=>(a0 x,(a1 x,a2 x,a3 x,a4 x,a5 x,a6 x,a7 x),a8 x))=some (c0,(c1,c2,c3,c4,c5,c6,c7),c8):=by cases o with|none=>cases h|some x=>simp only[Su,Ux,Prod.mk.injEq]at h k l m n⊢;exact⟨h.1,⟨h.2,k.1,k.2,n,l.1,l.2,m.1⟩,m.2⟩
theorem left:W.LeftO Sg kq [] lX (W.Hook.obs kH) (W.Hook.val kH) 4646:=HC ↥6 ↥6 ↥6 (KQ (f:=NC) (a:=NB) (λw=>funext λos=>ND (congrFun (Lo w) os) (congrFun (Lp w) os) (congrFun (Lq w) os) (congrFun (Lr w) os) (congrFun (Ls w) os)))
end V28
namespace L2
open PySem PySem.Spec PyProof.Rows
theorem QI{α:Type _}{β:Type _}{o:Option α}{f:α->Option β}{b:β}(h:o.bind f=some b):∃a,o=some a/\f a=some b:=Option.bind_eq_some_iff.mp h
theorem QJ{α:Type _}{β:Type _}{o:Option α}{f:α->β}{b:β}(h:o.map f=some b):∃a,o=some a/\f a=b:=Wq.mp h
theorem QK{α:Type _}{l:List α}{i:Nat}{a:α}(h:l[i]?=some a):∃w:i<l.length,l[i]=a:=List.getElem?_eq_some_iff.mp h
theorem QL{α:Type _}{a:α}{s t:List α}(h:a∈s++t):a∈s\/a∈t:=Si.mp h
theorem QM{α:Type _}{β:Type _}{b:β}{f:α->β}{l:List α}(h:b∈l.map f):∃a,a∈l/\f a=b:=List.mem_map.mp h
theorem QN{α:Type _}{a b:α}{l:List α}(h:a∈b::l):a=b\/a∈l:=RC.mp h
theorem QO{α:Type _}{l:List α}{i:Nat}{a:α}(h:l[i]?=some a):a∈l:=List.mem_of_getElem? h
abbrev dh:=Sum Int Str
def rg:dh->QP->Bool|.inl k,v=>UO k v|.inr x,v=>Value.isStrOf x v
def Ng(w:QW):dh->Int|.inl k=>hashInt k|.inr x=>hashStr w x
theorem bx:∀{k:dh}{v:QP},rg k v=true->(∃i t,k=Sum.inl i/\v=Value.int i t)\/(∃x t,k=Sum.inr x/\v=Value.str x t)|.inl i,v,h=>by obtain⟨t,e⟩:=Value.isInt_shape (k:=i) (v:=v) h;exact .inl ⟨i,t,rfl,e⟩|.inr x,v,h=>by obtain⟨t,e⟩:=Value.isStrOf_shape (x:=x) (v:=v) h;exact .inr ⟨x,t,rfl,e⟩
theorem AV(i:Int)(t:Tok):rg (.inl i) (.int i t)=true:=by simp[rg,UO]
theorem AW(x:Str)(t:Tok):rg (.inr x) (.str x t)=true:=by simp[rg,Value.isStrOf]
theorem I_(a b:Int):decide ((Sum.inl a:dh)=Sum.inl b)=(a==b):=by
 by_cases e:a=b;·subst e;simp
 ·have h:¬(Sum.inl a:dh)=Sum.inl b:=λq=>e (Sum.inl.inj q);rw[decide_eq_false h];exact(beq_eq_false_iff_ne.mpr e).symm
theorem Jc(a b:Str):decide ((Sum.inr a:dh)=Sum.inr b)=decide (a=b):=by
 by_cases e:a=b;·subst e;simp
 ·have h:¬(Sum.inr a:dh)=Sum.inr b:=λq=>e (Sum.inr.inj q);rw[decide_eq_false h,decide_eq_false e]
theorem Ja(a:Int)(b:Str):decide ((Sum.inl a:dh)=Sum.inr b)=false:=decide_eq_false (λq=>nomatch q)
theorem Jb(a:Str)(b:Int):decide ((Sum.inr a:dh)=Sum.inl b)=false:=decide_eq_false (λq=>nomatch q)
def bQ(prog:QZ)(w:QW):PySem.KeyKind prog w dh where
 is:=rg;hash:=Ng w;inj:=λv a b ha hb=>by
  rcases bx ha with⟨i,t,rfl,rfl⟩|⟨x,t,rfl,rfl⟩
  ·rcases bx hb with⟨j,u,rfl,e⟩|⟨y,u,rfl,e⟩;·injection e with e1 _;rw[e1]
   ·exact nomatch e
  ·rcases bx hb with⟨j,u,rfl,e⟩|⟨y,u,rfl,e⟩;·exact nomatch e
   ·injection e with e1 _;rw[e1]
 byValue:=λk v h=>by rcases bx h with⟨i,t,rfl,rfl⟩|⟨x,t,rfl,rfl⟩<;>rfl
 pyHash:=λhv h=>by
  rcases bx hv with⟨i,t,rfl,rfl⟩|⟨x,t,rfl,rfl⟩;·exact wpAny_pyHash_int h
  ·exact wpAny_pyHash_str h
 eqBool:=λhu hv h=>by
  rcases bx hu with⟨i,t,rfl,rfl⟩|⟨x,t,rfl,rfl⟩
  ·rcases bx hv with⟨j,u,rfl,rfl⟩|⟨y,u,rfl,rfl⟩;·rw[I_]at h;exact wpAny_eqBool_int h
   ·rw[Ja]at h;exact SeqAt.EqAt.int_str i t y u _ _ _ _ h
  ·rcases bx hv with⟨j,u,rfl,rfl⟩|⟨y,u,rfl,rfl⟩;·rw[Jb]at h;exact SeqAt.EqAt.str_int x t j u _ _ _ _ h
   ·rw[Jc]at h;exact wpAny_eqBool_str h
 «strs»:=λk x t v h=>by
  rcases bx h with⟨i,u,rfl,e⟩|⟨y,u,rfl,e⟩;·exact nomatch e
  ·injection e with e1 _;subst e1;cases v<;>rfl
theorem xa(prog:QZ)(w:QW)(i:Int)(t:Tok):(bQ prog w).is (.inl i) (.int i t)=true:=AV i t
theorem xb(prog:QZ)(w:QW)(x:Str)(t:Tok):(bQ prog w).is (.inr x) (.str x t)=true:=AW x t
inductive V where|non|bl (b:Bool)|int (i:Int)|str (x:Str)|byt (b:Array UInt8)|flt (b:UInt64)|ref (a:QQ)|ty (n:String)deriving DecidableEq
def aS:V->QP->Prop|.non,u=>u=Value.none|.bl b,u=>u=Value.bool b|.int i,u=>∃t,u=Value.int i t|.str x,u=>∃t,u=Value.str x t|.byt b,u=>∃t,u=Value.bytes b t|.flt b,u=>∃t,u=Value.float b t|.ref a,u=>u=Value.ref a|.ty n,u=>u=Value.type n
abbrev aN:List V->List QP->Prop:=Paired aS
theorem aN.length{xs:List V}{us:List QP}(r:aN xs us):xs.length=us.length:=VJ r
theorem aN.get:∀{xs:List V}{us:List QP}{i:Nat}{x:V},aN xs us->xs[i]?=some x->∃u,us[i]?=some u/\aS x u|_,_,_,_,.nil,e=>by simp at e|_,_,0,_,.cons r _,e=>by simp at e;subst e;exact⟨_,rfl,r⟩|_,_,i+1,x,.cons _ t,e=>by obtain⟨u,h1,h2⟩:=aN.get (i:=i) (x:=x) t (by simpa using e);exact⟨u,by simpa using h1,h2⟩
theorem aN.set{x:V}{u:QP}(r:aS x u):∀{xs:List V}{us:List QP}(i:Nat),aN xs us->aN (xs.set i x) (us.set i u)|_,_,_,.nil=>.nil|_,_,0,.cons _ t=>.cons r t|_,_,i+1,.cons q t=>.cons q (aN.set r i t)
theorem aN.append:∀{xs ys:List V}{us ws:List QP},aN xs us->aN ys ws->aN (xs++ys) (us++ws)|_,_,_,_,.nil,s=>s|_,_,_,_,.cons r t,s=>.cons r (aN.append t s)
theorem aN.take:∀{xs:List V}{us:List QP}(n:Nat),aN xs us->aN (xs.take n) (us.take n)|_,_,0,_=>.nil|_,_,_+1,.nil=>.nil|_,_,n+1,.cons r t=>.cons r (aN.take n t)
theorem aN.drop:∀{xs:List V}{us:List QP}(n:Nat),aN xs us->aN (xs.drop n) (us.drop n)|_,_,0,r=>r|_,_,_+1,.nil=>.nil|_,_,n+1,.cons _ t=>aN.drop n t
def pE:Option V->Option QP->Prop|some v,some u=>aS v u|none,none=>True|_,_=>False
def KV{κ:Type}:List (κ×V)->List (κ×QP)->Prop:=Paired fun(p:κ×V) (q:κ×QP)=>p.1=q.1/\aS p.2 q.2
def kV:dh->V|.inl i=>.int i|.inr x=>.str x
inductive HO where/--a list -/|lst (xs:List V)/--a tuple (never changes) -/|tup (xs:List V)/--a dict whose keys are ints and texts; one whose keys are tuples of ints and texts (the empty one is both) -/|dK (kvs:List (dh×V))|dT (kvs:List (List dh×V))/--a set of ints: its members, its size -/|set (S:Int->Bool) (n:Nat)/--an instance of the class at C, its dict at dx, its attributes -/|ins (C dx:QQ) (fs:List (Str×V))/--the dict of the instance at x -/|own (x:QQ)/--the dict of an exception -/|xd (fs:List (Str×V))/--a bound method, f of x -/|met (f x:QQ)/--a range object lo, lo + 1, .. below hi -/|rng (lo hi:Int)/--a thing that is known to the object (the script; a dict while a loop walks it): read, never written while it is so -/|frz (o:Obj) (u:HO)/--a code object's table -/|tbl (ps:Array QP)/--any other thing, by what is true of its one object (a def of one's own: SetO a S n := HO.ext fun h => ..) -/|ext (φ:Re->Prop)
abbrev Hp:=QQ->Option HO
def upd(H:Hp)(a:QQ)(o:HO):Hp:=λb=>if b=a then some o else H b
theorem ao{H:Hp}{a:QQ}{o:HO}:upd H a o a=some o:=by unfold upd;rw[if_pos rfl]
theorem aq{H:Hp}{a b:QQ}{o:HO}(h:b≠a):upd H a o b=H b:=by unfold upd;rw[if_neg h]
theorem LC{H:Hp}{a b:QQ}{o u:HO}(h:H a=some o)(h':H b=some u)(d:o≠u):a≠b:=by intro e;subst e;rw[h]at h';exact d (RG h')
theorem eV{H:Hp}{a b:QQ}{o:HO}(h:H a=some o)(h':H b=none):a≠b:=by intro e;subst e;rw[h]at h';cases h'
def qe(h:Re)(a:QQ)(items:Array QP):Prop:=∃o,h.get? a=some o/\o.cls=.type "tuple"/\∃n,o.data=.seq items n/\o.dict=none
theorem qe.tup{h:Re}{a:QQ}{items:Array QP}(x:qe h a items):IsTup h a items:=let⟨o,ho,hc,n,hd,_⟩:=x;⟨o,ho,hc,n,hd⟩
theorem qe.new(h:Re)(items:Array QP):qe (h.push {cls:=.type "tuple",data:=.seq items}) h.objs.size items:=⟨_,Sn _ rfl,rfl,_,rfl,rfl⟩
section
variable(P:QZ)(w:QW)
def bv(H:Hp)(h:Re)(a:QQ):HO->Prop|.lst xs=>xs.length<=Rm/\∃(its:List QP) (n:Nat),aN xs its/\h.get? a=some {cls:=.type "list",data:=.seq its.toArray n}|.tup xs=>xs.length<=Rm/\∃its:List QP,aN xs its/\qe h a its.toArray|.dK kvs=>kvs.length<=Rm/\(a==So)=false/\∃vs,KV kvs vs/\h.DictOf (bQ P w) a vs|.dT kvs=>kvs.length<=Rm/\(a==So)=false/\∃xs:List (List dh×QQ×QP),Paired (fun(p:List dh×V) (q:List dh×QQ×QP)=>p.1=q.1/\H q.2.1=some (.tup (p.1.map kV))/\aS p.2 q.2.2) kvs xs/\∃o es ep,h.get? a=some o/\o.ExactDict/\o.data=.dict es ep/\es.toList=xs.map (entryOfKey (Ub (bQ P w)))/\(xs.map (·.1)).Nodup|.set S n=>h.SetOf (SU P w) a S n|.ins C dx fs=>H dx=some (.own a)/\fs.length<=1000/\dx≠a/\h.get? a=some (PySem.W.instObj C dx)/\∃mA,h.Ns1 dx mA/\(∀f,pE (fs.lookup f) (mA f))/\PySem.Within mA (fs.map (·.1))|.own _=>∃o,h.get? a=some o|.xd fs=>∃mA,h.Ns1 a mA/\∀f,pE (fs.lookup f) (mA f)|.rng lo hi=>∃t u v,h.get? a=some {cls:=.type "range",data:=.fields #[.int lo t,.int hi u,.int 1 v]}|.frz o u=>h.get? a=some o/\bv H h a u|.tbl ps=>h.get? a=some {cls:=.none,data:=.fields ps}|.met f x=>h.get? a=some (Wr (.ref f) (.ref x))|.ext φ=>φ h/\(∃o,h.get? a=some o)/\∀h1 h2:Re,φ h1->(∀o,h1.get? a=some o->h2.get? a=some o)->φ h2
def l7(H:Hp)(h:Re):Prop:=∀a o,H a=some o->bv P w H h a o
end
section
variable{P:QZ}{w:QW}{H H':Hp}{h h':Re}{a:QQ}{o:HO}
theorem bv.lt(x:bv P w H h a o):a<h.objs.size:=by cases o with|lst xs=>obtain⟨_,_,_,_,e⟩:=x;exact Rp e|tup xs=>obtain⟨_,_,_,p⟩:=x;exact p.tup.lt|dK kvs=>obtain⟨_,_,_,_,o,_,_,e,_⟩:=x;exact Rp e|dT kvs=>obtain⟨_,_,_,_,o,_,_,e,_⟩:=x;exact Rp e|set S n=>obtain⟨o,_,_,_,e,_⟩:=x;exact Rp e|ins C dx fs=>obtain⟨_,_,_,e,_⟩:=x;exact Rp e|own y=>obtain⟨_,e⟩:=x;exact Rp e|xd fs=>obtain⟨_,⟨_,_,_,e,_⟩,_⟩:=x;exact Rp e|rng lo hi=>obtain⟨_,_,_,e⟩:=x;exact Rp e|frz ob u=>obtain⟨e,_⟩:=x;exact Rp e|tbl ps=>exact Rp (show h.get? a=some _ from x)|met f y=>exact Rp (show h.get? a=some _ from x)|ext φ=>obtain⟨_,⟨_,e⟩,_⟩:=x;exact Rp e
theorem Paired.mapP{α β:Type}{F G:α->β->Prop}:∀{l₁:List α}{l₂:List β},Paired F l₁ l₂->(∀a b,F a b->G a b)->Paired G l₁ l₂|_,_,.nil,_=>.nil|_,_,.cons r t,f=>.cons (f _ _ r) (Paired.mapP t f)
theorem bv.stay(x:bv P w H h a o)(k:∀b u,(b=a\/H b=some (.own a))->h.get? b=some u->h'.get? b=some u)(ho:∀b,H b=some (.own a)->H' b=some (.own a))(ht:∀b xs,H b=some (.tup xs)->H' b=some (.tup xs)):bv P w H' h' a o:=by induction o with|lst xs=>obtain⟨z,its,n,r,e⟩:=x;exact⟨z,its,n,r,k _ _ (.inl rfl) e⟩|tup xs=>obtain⟨z,its,r,ob,e,c⟩:=x;exact⟨z,its,r,ob,k _ _ (.inl rfl) e,c⟩|dK kvs=>obtain⟨z,y,vs,r,ob,es,ep,e,c⟩:=x;exact⟨z,y,vs,r,ob,es,ep,k _ _ (.inl rfl) e,c⟩|dT kvs=>obtain⟨z,y,xs,r,ob,es,ep,e,c⟩:=x;exact⟨z,y,xs,Paired.mapP r λp q z=>⟨z.1,ht _ _ z.2.1,z.2.2⟩,ob,es,ep,k _ _ (.inl rfl) e,c⟩|set S n=>obtain⟨ob,es,ep,t,e,c⟩:=x;exact⟨ob,es,ep,t,k _ _ (.inl rfl) e,c⟩|ins C dx fs=>obtain⟨d,z,ne,e,mA,⟨od,es,ep,e2,c⟩,r⟩:=x;exact⟨ho _ d,z,ne,k _ _ (.inl rfl) e,mA,⟨od,es,ep,k _ _ (.inr d) e2,c⟩,r⟩|own y=>obtain⟨ob,e⟩:=x;exact⟨ob,k _ _ (.inl rfl) e⟩|xd fs=>obtain⟨mA,⟨od,es,ep,e,c⟩,r⟩:=x;exact⟨mA,⟨od,es,ep,k _ _ (.inl rfl) e,c⟩,r⟩|rng lo hi=>obtain⟨t,u,v,e⟩:=x;exact⟨t,u,v,k _ _ (.inl rfl) e⟩|frz ob u ih=>obtain⟨e,q⟩:=x;exact⟨k _ _ (.inl rfl) e,ih q⟩|tbl ps=>have e:h.get? a=some {cls:=.none,data:=.fields ps}:=x;show h'.get? a=some {cls:=.none,data:=.fields ps};exact k a _ (.inl rfl) e|met f y=>have e:h.get? a=some (Wr (.ref f) (.ref y)):=x;show h'.get? a=some (Wr (.ref f) (.ref y));exact k a _ (.inl rfl) e|ext φ=>obtain⟨p,⟨o,e⟩,st⟩:=x;exact⟨st _ _ p λo q=>k _ _ (.inl rfl) q,⟨o,k _ _ (.inl rfl) e⟩,st⟩
theorem l7.lt(x:l7 P w H h)(e:H a=some o):a<h.objs.size:=(x a o e).lt
theorem l7.fresh(x:l7 P w H h)(e:h.objs.size<=a):H a=none:=by cases q:H a with|none=>rfl|some u=>exact absurd (Sb (x.lt q) e) (Tn _)
theorem l7.kept(x:l7 P w H h)(k:∀b u,h.get? b=some u->h'.get? b=some u):l7 P w H h':=λa o e=>(x a o e).stay (λb u _ q=>k b u q) (λ_ q=>q) λ_ _ q=>q
theorem l7.laid(x:l7 P w H h)(k:∀b u,h.get? b=some u->h'.get? b=some u)(hp:h.objs.size<=a)(new:bv P w (upd H a o) h' a o):l7 P w (upd H a o) h':=λb u e=>by
 have hn:=x.fresh hp;by_cases hb:b=a;·subst hb;rw[ao]at e;cases e;exact new
 ·rw[aq hb]at e;exact(x b u e).stay (λc v _ q=>k c v q) (λc q=>by rw[aq (eV q hn)];exact q) λc xs q=>by rw[aq (eV q hn)];exact q
end
def Rd(H:Hp)(a:QQ)(u:HO):Prop:=H a=some u\/∃o,H a=some (.frz o u)
theorem Rd.ok{P:QZ}{w:QW}{H:Hp}{h:Re}{a:QQ}{u:HO}(r:Rd H a u)(x:l7 P w H h):bv P w H h a u:=by
 rcases r with r|⟨o,r⟩;·exact x a u r
 ·obtain⟨_,q⟩:=x a _ r;exact q
def KR:Option HO->Prop|some (.lst _)=>True|some (.dK _)=>True|some (.dT _)=>True|some (.set _ _)=>True|some (.ins _ _ _)=>True|some (.ext _)=>True|_=>False
section
variable{P:QZ}{w:QW}{H:Hp}{h h':Re}{x e:QQ}{o':HO}
theorem l7.write(ok:l7 P w H h)(mu:KR (H x))(he:e=x\/H e=some (.own x))(k:∀b u,b≠e->h.get? b=some u->h'.get? b=some u)(heo:∃u,h'.get? e=some u)(new:bv P w (upd H x o') h' x o'):l7 P w (upd H x o') h':=λb u q=>by
 have nown:∀c y,H c=some (.own y)->c≠x:=λc y r z=>by subst z;rw[r]at mu;exact mu
 have ntup:∀c xs,H c=some (.tup xs)->c≠x:=λc xs r z=>by subst z;rw[r]at mu;exact mu
 by_cases hb:b=x;·subst hb;rw[ao]at q;cases q;exact new
 ·rw[aq hb]at q;by_cases hbe:b=e
  ·have q':H b=some (.own x):=by
    rcases he with z|z;·exact absurd (hbe.trans z) hb
    ·rw[hbe];exact z
   rw[q]at q';cases q';obtain⟨v,hv⟩:=heo;exact⟨v,by rw[hbe];exact hv⟩
  ·refine(ok b u q).stay (λc v hc r=>k c v ?_ r) (λc r=>by rw[aq (nown c b r)];exact r) λc xs r=>by rw[aq (ntup c xs r)];exact r
   rcases hc with rfl|hc;·exact hbe
   ·rintro rfl;rcases he with z|z;·exact nown c b hc z
    ·rw[hc]at z;cases z;exact hb rfl
end
structure Un (fs ex:List QQ) (H H':Hp) (h h':Re):Prop where
 keep:∀b o,h.get? b=some o->H b=none->b∉fs->b∉ex->h'.get? b=some o
 slot:∀b o,h.get? b=some o->H b=none->b∈fs->b∉ex->∃sl,h'.get? b=some {o with slots:=sl}free:∀b o,h.get? b=some o->H b=none->b∉ex->H' b=none
 there:∀b o,h.get? b=some o->b∉ex->∃o',h'.get? b=some o'
 tups:∀b xs,H b=some (.tup xs)->H' b=some (.tup xs)frzs:∀b o u,H b=some (.frz o u)->H' b=some (.frz o u)tbls:∀b ps,H b=some (.tbl ps)->∃more,H' b=some (.tbl (ps++more))
section
variable{fs fs' ex ex':List QQ}{H H1 H2:Hp}{h h1 h2 h':Re}{a x e:QQ}{o:HO}
theorem Un.any(u:Un fs ex H H1 h h1){b:QQ}{ob:Obj}(q:h.get? b=some ob)(n:H b=none)(hx:b∉ex):∃sl,h1.get? b=some {ob with slots:=sl}:=by
 by_cases hb:b∈fs;·exact u.slot b ob q n hb hx
 ·exact⟨ob.slots,u.keep b ob q n hb hx⟩
theorem Un.kept(k:∀b u,h.get? b=some u->h'.get? b=some u):Un fs ex H H h h':=⟨λb ob q _ _ _=>k b ob q,λb ob q _ _ _=>⟨ob.slots,k b ob q⟩,λ_ _ _ n _=>n,λb ob q _=>⟨ob,k b ob q⟩,λ_ _ q=>q,λ_ _ _ q=>q,λ_ ps q=>⟨#[],by rw[q];simp⟩⟩
theorem Un.refl:Un fs ex H H h h:=Un.kept λ_ _ q=>q
theorem Un.laid(k:∀b u,h.get? b=some u->h'.get? b=some u)(hp:h.objs.size<=a)(hn:H a=none):Un fs ex H (upd H a o) h h' where
 keep:=λb u q _ _ _=>k b u q;slot:=λb u q _ _ _=>⟨u.slots,k b u q⟩;free:=λb u q n _=>by rw[aq (Sd (Sb (Rp q) hp))];exact n
 there:=λb u q _=>⟨u,k b u q⟩;tups:=λb xs q=>by rw[aq (eV q hn)];exact q
 frzs:=λb u xs q=>by rw[aq (eV q hn)];exact q
 tbls:=λb ps q=>⟨#[],by rw[aq (eV q hn),q];simp⟩
theorem Un.write(mu:KR (H x))(he:e=x\/H e=some (.own x))(k:∀b u,b≠e->h.get? b=some u->h'.get? b=some u)(heo:∃u,h'.get? e=some u):Un fs ex H (upd H x o) h h':=by
 have hx:∀b,H b=none->b≠x:=λb n z=>by subst z;rw[n]at mu;exact mu
 have hb:∀b,H b=none->b≠e:=λb n z=>by
  subst z;rcases he with r|r;·exact hx b n r
  ·rw[n]at r;cases r
 have hm:∀b u,H b=some u->¬KR (some u)->b≠x:=λb u q nm z=>by subst z;rw[q]at mu;exact nm mu
 refine⟨λb u q n _ _=>k b u (hb b n) q,λb u q n _ _=>⟨u.slots,k b u (hb b n) q⟩,λb u q n _=>by rw[aq (hx b n)];exact n,λb u q _=>?_,λb xs q=>by rw[aq (hm b _ q λz=>z)];exact q,λb u xs q=>by rw[aq (hm b _ q λz=>z)];exact q,λb ps q=>⟨#[],by rw[aq (hm b _ q λz=>z),q];simp⟩⟩;by_cases hbe:b=e;·subst hbe;exact heo
 ·exact⟨u,k b u hbe q⟩
end
def MO(h:Re)(H:Hp):List QQ:=(To h.objs.size).filter λa=>(H a).isSome
def vw(h:Re)(H:Hp):Re:=UP h (MO h H)
theorem AO(h:Re)(H:Hp):(vw h H).objs.size=h.objs.size:=PySem.W.hideAll_size _ _
theorem CL{h:Re}{H:Hp}{b:QQ}{o:Obj}(e:h.get? b=some o)(n:H b=none):(vw h H).get? b=some o:=PySem.W.hideAll_get _ e λhm=>by have q:(H b).isSome=true:=(UQ.mp hm).2;rw[n]at q;simp at q
theorem Gb{h:Re}{H:Hp}{b:QQ}{o:Obj}(e:(vw h H).get? b=some o):h.get? b=some o/\H b=none:=by have e':h.get? b=some o:=PySem.W.of_hideAll (MO h H) e;refine⟨e',?_⟩;cases q:H b with|none=>rfl|some x=>have hm:b∈MO h H:=UQ.mpr ⟨VL.mpr (Rp e'),by simp[q]⟩;have z:(vw h H).get? b=none:=PySem.W.hideAll_none (MO h H) hm;rw[z]at e;cases e
def uU(g h:Re)(L:QQ):List (QQ×Obj):=(To h.objs.size).filterMap λa=>if a=L\/(g.get? a).isSome=true then none else(h.get? a).map λo=>(a,o)
theorem rJ{g h:Re}{L:QQ}{p:QQ×Obj}(hp:p∈uU g h L):p.1≠L/\g.get? p.1=none/\h.get? p.1=some p.2:=by
 obtain⟨b,_,e⟩:=Ws.mp hp;split at e;·cases e
 ·rename_i hn;cases q:h.get? b with|none=>rw[q]at e;simp at e|some u=>rw[q]at e;simp only[Su,Ux]at e;subst e;refine⟨λz=>hn (.inl z),?_,q⟩;show g.get? b=none;cases r:g.get? b with|none=>rfl|some v=>exact(hn (.inr (by simp[r]))).elim
def dg(g h:Re)(L d:QQ):List (QQ×Obj):=(uU g h L).filter λp=>decide (p.1≠d)
theorem C7{g h:Re}{L:QQ}:News g L h (uU g h L):=λp hp=>let⟨a,b,c⟩:=rJ hp;⟨c,a,b⟩
structure Mod (K:QU) (mg:Str->Option QP) (base:Re):Prop where
 kin:K.In base
 glob:base.Ns RN mg
 blt:∃mb,base.Ns builtinsNs mb/\∀x:Str,x≠"__name__"->mb x=SC x
 nolimit:base.NoLimit
structure Cx where
 prog:QZ
 w:QW
 K:QU
 mg:Str->Option QP
 base:Re
 A:Rf
 N:List Str
 s₀:QS
 H₀:Hp
 env:Env
 outer:List Env
 stack:List Env
 ex:List QQ
 fn:Str->Bool
 calm:Bool
 pn:List (QQ×Obj)xe:QP->QS->Prop
def jo(l:List Env):List QQ:=l.filterMap (·.frame)
abbrev Cx.fs(X:Cx):List QQ:=jo X.outer
def BX(sc:Rt)(x:Str):Prop:=sc.names.lookup x=some .local\/sc.names.lookup x=some .cell\/sc.names.lookup x=some .free
def HI(sc:Rt)(x:Str):Prop:=sc.names.lookup x=some .local\/sc.names.lookup x=some .cell
def MU(env:Env)(h:Re)(m:Str->Option QP)(x:Str)(u:QP):Prop:=(env.kindOf x=some .local/\m x=some u)\/((env.kindOf x=some .cell\/env.kindOf x=some .free)/\∃c,env.cells.lookup x=some c/\h.IsCell c (some u))
structure Cx.Ok (X:Cx):Prop where
 mod:Mod X.K X.mg X.base
 kind:X.env.scope.kind=.function
 glob:X.env.globals=RN
 blt:X.env.builtins=builtinsNs
 above:X.s₀.heap.objs.size<=X.env.locals
 inj:∀x y c,X.env.cells.lookup x=some c->X.env.cells.lookup y=some c->x=y
 has:∀x,(X.env.kindOf x=some .cell\/X.env.kindOf x=some .free)->∃c,X.env.cells.lookup x=some c
 cab:∀x c,X.fn x=true->X.env.cells.lookup x=some c->X.s₀.heap.objs.size<=c
 hd:X.calm=true->X.A.handled=none
 frames:X.A.frames=some X.stack
 stk:X.stack=X.outer\/(X.stack=X.env::X.outer/\X.env.frame=some X.env.locals)exf:∀b∈X.ex,b≠X.env.locals/\∀x c,X.env.cells.lookup x=some c->c≠b
 bs:∀b o,X.base.get? b=some o->X.s₀.heap.get? b=some o/\X.H₀ b=none
 bsz:X.base.objs.size<=X.s₀.heap.objs.size
 noex:∀b o,X.base.get? b=some o->b∉X.ex
 exfs:∀b∈X.ex,b∉X.fs
 funs:X.s₀.heap.FunFrames X.base X.outer
 frf:∀b∈X.fs,X.H₀ b=none
structure av (X:Cx) (pins:List (QQ×Obj)) (σ:List (Option V)) (H:Hp) (s:QS):Prop where
 ok:X.Ok
 os:s.os=X.s₀.os
 bare:Tp s.gens
 base:Un X.fs X.ex X.H₀ H X.s₀.heap s.heap
 loc:∃m,s.heap.Ns X.env.locals m/\∀(i:Nat) (x:Str) (v:V),X.N[i]?=some x->σ[i]?=some (some v)->BX X.env.scope x->∃u,aS v u/\MU X.env s.heap m x u
 cell:∀x c,X.env.cells.lookup x=some c->∃v,s.heap.IsCell c v
 free:H X.env.locals=none
 freeC:∀x c,X.env.cells.lookup x=some c->H c=none
 pin:∀p∈X.pn++pins,s.heap.get? p.1=some p.2/\H p.1=none/\p.1≠X.env.locals/\p.1∉X.fs/\∀v,p.2.data≠.cell v
 hok:l7 X.prog X.w H s.heap
 len:σ.length=X.N.length
section
variable{X:Cx}{pins:List (QQ×Obj)}{σ:List (Option V)}{H H':Hp}{s:QS}{h':Re}
theorem Cx.Ok.nofr(ok:X.Ok){b:QQ}{o:Obj}(e:X.base.get? b=some o):b∉X.fs:=λhb=>by have:=(ok.funs.mem hb).1;rw[e]at this;cases this
theorem av.bs(I:av X pins σ H s):∀b o,X.base.get? b=some o->s.heap.get? b=some o/\H b=none:=λb o e=>⟨I.base.keep b o (I.ok.bs b o e).1 (I.ok.bs b o e).2 (I.ok.nofr e) (I.ok.noex b o e),I.base.free b o (I.ok.bs b o e).1 (I.ok.bs b o e).2 (I.ok.noex b o e)⟩
theorem av.bk(I:av X pins σ H s):∀b o,X.base.get? b=some o->s.heap.get? b=some o:=λb o e=>(I.bs b o e).1
theorem av.mod(I:av X pins σ H s):Mod X.K X.mg X.base:=I.ok.mod
theorem av.kIn(I:av X pins σ H s):X.K.In s.heap:=I.ok.mod.kin.keeps I.bk
theorem av.fr(I:av X pins σ H s):∃m,Fr X.base X.env.locals s.heap m:=let⟨m,hn,_⟩:=I.loc;⟨m,hn,I.bk,RT I.ok.bsz I.ok.above⟩
theorem av.lt(I:av X pins σ H s):X.env.locals<↑s:=let⟨_,hn,_⟩:=I.loc;hn.lt
theorem av.sz(I:av X pins σ H s):X.s₀.heap.objs.size<=↑s:=RT I.ok.above (Uy I.lt)
theorem av.nofs(I:av X pins σ H s){a:QQ}(h:↑s<=a):a∉X.fs:=λhb=>by obtain⟨_,o,ho,_⟩:=I.ok.funs.mem hb;exact absurd (Sb (Rp ho) (RT I.sz h)) (Tn _)
theorem av.cne(I:av X pins σ H s):∀x c,X.env.cells.lookup x=some c->c≠X.env.locals:=λx c e z=>by obtain⟨v,o,ho,hd⟩:=I.cell x c e;obtain⟨m,⟨o',es,ep,ho',hd',_⟩,_⟩:=I.loc;rw[z,ho']at ho;cases ho;rw[hd']at hd;cases hd
theorem av.funs(I:av X pins σ H s):s.heap.FunFrames X.base X.outer:=by
 have all:∀(l:List Env),(∀b∈jo l,b∈X.fs)->X.s₀.heap.FunFrames X.base l->s.heap.FunFrames X.base l:=by intro l;induction l with|nil=>intro _ _;trivial|cons env r ih=>intro hs hl;obtain⟨hk,⟨L,o,hf,hn,ho,hd⟩,hr⟩:=hl;have hL:L∈X.fs:=hs L (by unfold jo;rw[UR,hf];exact Tz);obtain⟨sl,e⟩:=I.base.slot L o ho (I.ok.frf L hL) hL λz=>I.ok.exfs L z hL;exact⟨hk,⟨L,_,hf,hn,e,hd⟩,ih (λb hb=>hs b (by unfold jo;rw[UR,hf];exact Td _ hb)) hr⟩
 exact all X.outer (λ_ hb=>hb) I.ok.funs
theorem av.stack(I:av X pins σ H s):s.heap.FunFrames X.base X.stack:=by
 rcases I.ok.stk with e|⟨e,hf⟩;·rw[e];exact I.funs
 ·rw[e];obtain⟨m,hn,_⟩:=I.loc;refine .cons (by rw[I.ok.kind];decide) hf hn ?_ I.funs;exact Heap.get?_none_of_le (RT I.ok.bsz I.ok.above)
theorem av.stkSub(I:av X pins σ H s):∀b∈jo X.stack,b∈X.env.locals::X.fs:=λb hb=>by
 rcases I.ok.stk with e|⟨e,hf⟩;·rw[e]at hb;exact Td _ hb
 ·rw[e]at hb;unfold jo at hb;rw[UR,hf]at hb;exact hb
theorem av.stkFree(I:av X pins σ H s):∀b∈jo X.stack,H b=none:=λb hb=>by
 rcases QN (I.stkSub b hb) with e|hb;·rw[e];exact I.free
 ·obtain⟨_,o,ho,_⟩:=I.ok.funs.mem hb;exact I.base.free b o ho (I.ok.frf b hb) λz=>I.ok.exfs b z hb
theorem av.step{g':Array GenState}{t':Nat}{d':Drawn}{ch:List QQ}(I:av X pins σ H s)(hch:∀b∈ch,(b∈X.ex\/X.s₀.heap.objs.size<=b)/\b≠X.env.locals/\(∀x c,X.env.cells.lookup x=some c->c≠b)/\∀p∈X.pn++pins,p.1≠b)(keep:∀b o,b≠X.env.locals->b∉X.fs->b∉ch->s.heap.get? b=some o->H b=none->h'.get? b=some o)(slot:∀b o,b≠X.env.locals->b∈X.fs->b∉ch->s.heap.get? b=some o->H b=none->∃sl,h'.get? b=some {o with slots:=sl})(free:∀b o,b∉ch->s.heap.get? b=some o->H b=none->H' b=none)(there:∀b o,b∉ch->s.heap.get? b=some o->∃o',h'.get? b=some o')(tups:∀b xs,H b=some (.tup xs)->H' b=some (.tup xs))(frzs:∀b o u,H b=some (.frz o u)->H' b=some (.frz o u))(tbls:∀b ps,H b=some (.tbl ps)->∃more,H' b=some (.tbl (ps++more)))(ns:∀m,s.heap.Ns X.env.locals m->h'.Ns X.env.locals m)(hok:l7 X.prog X.w H' h')(hg:Tp g'):av X pins σ H' {s with heap:=h',gens:=g',drawn:=d',toks:=t'}:=by
 have neL:∀b o,X.s₀.heap.get? b=some o->b≠X.env.locals:=λb o e=>Sd (Sb (Rp e) I.ok.above);have neC:∀b o,X.s₀.heap.get? b=some o->b∉X.ex->b∉ch:=λb o e hx hb=>by
  rcases(hch b hb).1 with z|z;·exact hx z
  ·exact absurd (Sb (Rp e) z) (Tn _)
 have cellK:∀x c,X.env.cells.lookup x=some c->∀v,s.heap.IsCell c v->h'.IsCell c v:=λx c e v⟨o,ho,hd⟩=>by
  have nch:c∉ch:=λz=>(hch c z).2.2.1 x c e rfl;by_cases hc:c∈X.fs;·obtain⟨sl,q⟩:=slot c o (I.cne x c e) hc nch ho (I.freeC x c e);exact⟨_,q,hd⟩
  ·exact⟨o,keep c o (I.cne x c e) hc nch ho (I.freeC x c e),hd⟩
 refine⟨I.ok,I.os,hg,⟨λb o e n hb hx=>?_,λb o e n hb hx=>?_,λb o e n hx=>?_,λb o e hx=>?_,λb xs e=>tups b xs (I.base.tups b xs e),λb o xs e=>frzs b o xs (I.base.frzs b o xs e),λb ps e=>?_⟩,?_,λx c e=>?_,?_,λx c e=>?_,λp hp=>?_,hok,I.len⟩;·exact keep b o (neL b o e) hb (neC b o e hx) (I.base.keep b o e n hb hx) (I.base.free b o e n hx)
 ·obtain⟨sl,e1⟩:=I.base.slot b o e n hb hx;obtain⟨sl',e2⟩:=slot b _ (neL b o e) hb (neC b o e hx) e1 (I.base.free b o e n hx);exact⟨sl',e2⟩
 ·obtain⟨o',e1⟩:=I.base.there b o e hx;exact free b o' (neC b o e hx) e1 (I.base.free b o e n hx)
 ·obtain⟨o',e1⟩:=I.base.there b o e hx;exact there b o' (neC b o e hx) e1
 ·obtain⟨m1,e1⟩:=I.base.tbls b ps e;obtain⟨m2,e2⟩:=tbls b _ e1;exact⟨m1++m2,by rw[e2,Array.append_assoc]⟩
 ·obtain⟨m,hn,hl⟩:=I.loc;refine⟨m,ns m hn,λi x v e1 e2 e3=>?_⟩;obtain⟨u,r,l⟩:=hl i x v e1 e2 e3;refine⟨u,r,?_⟩;rcases l with l|⟨k,c,e,z⟩;·exact .inl l
  ·exact .inr ⟨k,c,e,cellK x c e _ z⟩
 ·obtain⟨v,z⟩:=I.cell x c e;exact⟨v,cellK x c e v z⟩
 ·obtain⟨m,⟨o,_,_,ho,_⟩,_⟩:=I.loc;exact free _ o (λz=>(hch _ z).2.1 rfl) ho I.free
 ·obtain⟨v,o,ho,hd⟩:=I.cell x c e;exact free c o (λz=>(hch c z).2.2.1 x c e rfl) ho (I.freeC x c e)
 ·obtain⟨e,n,ne,nf,d⟩:=I.pin p hp;have nch:p.1∉ch:=λz=>(hch p.1 z).2.2.2 p hp rfl;exact⟨keep p.1 p.2 ne nf nch e n,free p.1 p.2 nch e n,ne,nf,d⟩
theorem av.un{t':Nat}(I:av X pins σ H s)(u:Un X.fs [] H H' s.heap h')(hok:l7 X.prog X.w H' h'):av X pins σ H' {s with heap:=h',toks:=t'}:=by obtain⟨m,⟨o,es,ep,ho,r⟩,_⟩:=id I.loc;obtain⟨sl,hL⟩:=u.any ho I.free ↥1;exact I.step (g':=s.gens) (d':=s.drawn) (ch:=[]) (λ_ z=>nomatch z) (λb o _ hb _ e n=>u.keep b o e n hb ↥1) (λb o _ hb _ e n=>u.slot b o e n hb ↥1) (λb o _ e n=>u.free b o e n ↥1) (λb o _ e=>u.there b o e ↥1) u.tups u.frzs u.tbls (λm' hm=>by obtain⟨o',es',ep',ho',r'⟩:=hm;rw[ho]at ho';cases ho';exact⟨_,es',ep',hL,r'⟩) hok I.bare
theorem av.call{g':Array GenState}{t':Nat}{d':Drawn}{ch:List QQ}(I:av X pins σ H s)(u:Un (jo X.stack) ch H H' s.heap h')(hok:l7 X.prog X.w H' h')(hg:Tp g')(hch:∀b∈ch,(b∈X.ex\/X.s₀.heap.objs.size<=b)/\b≠X.env.locals/\(∀x c,X.env.cells.lookup x=some c->c≠b)/\∀p∈X.pn++pins,p.1≠b):av X pins σ H' {s with heap:=h',gens:=g',drawn:=d',toks:=t'}:=by obtain⟨m,⟨o,es,ep,ho,r⟩,_⟩:=id I.loc;obtain⟨sl,hL⟩:=u.any ho I.free λz=>(hch _ z).2.1 rfl;exact I.step (ch:=ch) hch (λb o hL hb hc e n=>u.keep b o e n (λz=>(QN (I.stkSub b z)).elim hL hb) hc) (λb o _ _ hc e n=>u.any e n hc) (λb o hc e n=>u.free b o e n hc) (λb o hc e=>u.there b o e hc) u.tups u.frzs u.tbls (λm' hm=>by obtain⟨o',es',ep',ho',r'⟩:=hm;rw[ho]at ho';cases ho';exact⟨_,es',ep',hL,r'⟩) hok hg
theorem av.turned{t':Nat}{it:QQ}(I:av X pins σ H s)(k:∀b o,b≠it->s.heap.get? b=some o->h'.get? b=some o)(hn:H it=none)(hL:it≠X.env.locals)(h1:it∈X.ex\/X.s₀.heap.objs.size<=it)(h2:∀x c,X.env.cells.lookup x=some c->c≠it)(h3:∀p∈X.pn++pins,p.1≠it):av X pins σ H {s with heap:=h',toks:=t'}:=by
 have nit:∀b u,H b=some u->b≠it:=λb u e z=>by rw[z,hn]at e;cases e
 refine I.step (g':=s.gens) (d':=s.drawn) (ch:=[it]) (λb hb=>?_) (λb o _ _ hc e _=>k b o (λz=>hc (by simp[z])) e) (λb o _ _ hc e _=>⟨o.slots,k b o (λz=>hc (by simp[z])) e⟩) (λ_ _ _ _ n=>n) (λb o hc e=>⟨o,k b o (λz=>hc (by simp[z])) e⟩) (λ_ _ e=>e) (λ_ _ _ e=>e) (λb ps e=>⟨#[],by rw[e];simp⟩) (λm hm=>?_) (λb u e=>?_) I.bare
 ·have e:b=it:=by simpa using hb
  subst e;exact⟨h1,hL,h2,h3⟩
 ·obtain⟨o,es,ep,ho,r⟩:=hm;exact⟨o,es,ep,k _ o (Rz hL) ho,r⟩
 ·refine(I.hok b u e).stay (λc v hc q=>k c v ?_ q) (λ_ q=>q) λ_ _ q=>q;rcases hc with z|z;·rw[z];exact nit b u e
  ·exact nit c _ z
theorem av.tok(I:av X pins σ H s)(t:Nat):av X pins σ H {s with toks:=t}:=I.un (h':=s.heap) (t':=t) Un.refl I.hok
theorem av.kept{t':Nat}(I:av X pins σ H s)(k:∀b u,s.heap.get? b=some u->h'.get? b=some u):av X pins σ H {s with heap:=h',toks:=t'}:=I.un (Un.kept k) (I.hok.kept k)
theorem av.laid{a:QQ}{o:HO}{t':Nat}(I:av X pins σ H s)(k:∀b u,s.heap.get? b=some u->h'.get? b=some u)(hp:↑s<=a)(new:bv X.prog X.w (upd H a o) h' a o):av X pins σ (upd H a o) {s with heap:=h',toks:=t'}:=I.un (Un.laid k hp (I.hok.fresh hp)) (I.hok.laid k hp new)
theorem av.write{x e:QQ}{o:HO}{t':Nat}(I:av X pins σ H s)(mu:KR (H x))(he:e=x\/H e=some (.own x))(k:∀b u,b≠e->s.heap.get? b=some u->h'.get? b=some u)(heo:∃u,h'.get? e=some u)(new:bv X.prog X.w (upd H x o) h' x o):av X pins σ (upd H x o) {s with heap:=h',toks:=t'}:=I.un (Un.write mu he k heo) (I.hok.write mu he k heo new)
theorem av.pins_of{pins':List (QQ×Obj)}(I:av X pins σ H s)(h:∀p∈pins',s.heap.get? p.1=some p.2/\H p.1=none/\p.1≠X.env.locals/\p.1∉X.fs/\∀v,p.2.data≠.cell v):av X pins' σ H s:=⟨I.ok,I.os,I.bare,I.base,I.loc,I.cell,I.free,I.freeC,λp hp=>(QL hp).elim (λz=>I.pin p (Wu _ z)) (h p),I.hok,I.len⟩
theorem rG{N:List Str}(hN:N.Nodup){i j:Nat}{x:Str}(a:N[i]?=some x)(b:N[j]?=some x):i=j:=by obtain⟨h1,e1⟩:=QK a;obtain⟨h2,e2⟩:=QK b;exact(List.getElem_inj hN).mp (e1.trans e2.symm)
theorem uG{M:Model}{A:Rf}{E:QP->QS->Prop}{i:Nat}{x:Str}{v:V}{u:QP}{Q:Unit->QS->Prop}(I:av X pins σ H s)(hN:X.N.Nodup)(hi:X.N[i]?=some x)(hx:HI X.env.scope x)(r:aS v u)(h:∀s',av X pins (σ.set i (some v)) H s'->(∃a,TB a s.heap s'.heap/\(a=X.env.locals\/X.env.cells.lookup x=some a))->Q () s')(hf:X.fn x=true\/X.env.scope.names.lookup x=some .local:=by first|exact .inl rfl|exact .inr rfl|assumption):QX M A (storeName X.env x u) Q E s:=by
 obtain⟨m,hn,hl⟩:=id I.loc;have hcls:(X.env.scope.kind==.class||(X.env.scope.kind==.module&&X.env.locals !=X.env.globals))=false:=by rw[I.ok.kind];rfl
 have hiσ:i<σ.length:=by rw[I.len];exact(QK hi).1
 have cne:=I.cne;have tracked:∀{a:QQ}{h':Re},(∃o,s.heap.get? a=some o/\H a=none)->TB a s.heap h'->l7 X.prog X.w H h':=fun{a h'}ha hs b ob e=>by
  obtain⟨_,_,hfree⟩:=ha;refine(I.hok b ob e).stay (λc w' hc q=>(hs.2 c ?_).trans q) (λ_ q=>q) λ_ _ q=>q;rintro rfl;rcases hc with rfl|hc;·rw[hfree]at e;cases e
  ·rw[hfree]at hc;cases hc
 rcases hx with hk|hk
 ·refine wpAny_storeName_local hk hn (λh' hn' hs=>?_) hcls;obtain⟨oL,_,_,hoL,_⟩:=id hn;refine h _ ⟨I.ok,I.os,I.bare,⟨λb o e n hb hx=>?_,λb o e n hb hx=>?_,I.base.free,λb o e hx=>?_,I.base.tups,I.base.frzs,I.base.tbls⟩,⟨_,hn',λj y v' e1 e2 e3=>?_⟩,λy c e=>?_,I.free,I.freeC,λp hp=>?_,tracked ⟨oL,hoL,I.free⟩ hs,by simpa using I.len⟩ ⟨_,hs,.inl rfl⟩;·exact(hs.2 b (Sd (Sb (Rp e) I.ok.above))).trans (I.base.keep b o e n hb hx)
  ·obtain⟨sl,e1⟩:=I.base.slot b o e n hb hx;exact⟨sl,(hs.2 b (Sd (Sb (Rp e) I.ok.above))).trans e1⟩
  ·obtain⟨o',e1⟩:=I.base.there b o e hx;exact⟨o',(hs.2 b (Sd (Sb (Rp e) I.ok.above))).trans e1⟩
  ·by_cases hj:j=i;·subst hj;rw[hi]at e1;cases e1;rw[RU hiσ]at e2;cases e2;exact⟨u,r,.inl ⟨hk,by simp⟩⟩
   ·rw[Ru (Rz hj)]at e2;obtain⟨u',r',q⟩:=hl j y v' e1 e2 e3;refine⟨u',r',?_⟩;rcases q with⟨k,e⟩|⟨k,c,e,z⟩;·refine .inl ⟨k,?_⟩;have:y≠x:=λe=>hj (rG hN e1 (e▸hi));simp[this,e]
    ·exact .inr ⟨k,c,e,z.sameBut hs (cne y c e)⟩
  ·obtain⟨w',z⟩:=I.cell y c e;exact⟨w',z.sameBut hs (cne y c e)⟩
  ·obtain⟨e,n,ne,nf,d⟩:=I.pin p hp;exact⟨(hs.2 p.1 ne).trans e,n,ne,nf,d⟩
 ·have hfn:X.fn x=true:=by
   rcases hf with z|z;·exact z
   ·rw[z]at hk;cases hk
  obtain⟨c,hc⟩:=I.ok.has x (.inl hk);obtain⟨w',z⟩:=I.cell x c hc;refine wpAny_storeName_cell I.ok.kind hk hc z (λh' hc' hs=>?_);obtain⟨oc,hoc,hocd⟩:=id z;refine h {s with heap:=h'} ⟨I.ok,I.os,I.bare,⟨λb o e n hb hx=>?_,λb o e n hb hx=>?_,I.base.free,λb o e hx=>?_,I.base.tups,I.base.frzs,I.base.tbls⟩,⟨m,hn.sameBut hs (Rz (cne x c hc)),λj y v' e1 e2 e3=>?_⟩,λy c' e=>?_,I.free,I.freeC,λp hp=>?_,tracked ⟨oc,hoc,I.freeC x c hc⟩ hs,by simpa using I.len⟩ ⟨c,hs,.inr hc⟩;·exact(hs.2 b (Sd (Sb (Rp e) (I.ok.cab x c hfn hc)))).trans (I.base.keep b o e n hb hx)
  ·obtain⟨sl,e1⟩:=I.base.slot b o e n hb hx;exact⟨sl,(hs.2 b (Sd (Sb (Rp e) (I.ok.cab x c hfn hc)))).trans e1⟩
  ·obtain⟨o',e1⟩:=I.base.there b o e hx;exact⟨o',(hs.2 b (Sd (Sb (Rp e) (I.ok.cab x c hfn hc)))).trans e1⟩
  ·by_cases hj:j=i;·subst hj;rw[hi]at e1;cases e1;rw[RU hiσ]at e2;cases e2;exact⟨u,r,.inr ⟨.inl hk,c,hc,hc'⟩⟩
   ·rw[Ru (Rz hj)]at e2;obtain⟨u',r',q⟩:=hl j y v' e1 e2 e3;refine⟨u',r',?_⟩;rcases q with q|⟨k,c',e,z'⟩;·exact .inl q
    ·refine .inr ⟨k,c',e,z'.sameBut hs ?_⟩;rintro rfl;exact hj (rG hN e1 (I.ok.inj _ _ _ e hc▸hi))
  ·by_cases hcc:c'=c;·subst hcc;exact⟨_,hc'⟩
   ·obtain⟨w2,z2⟩:=I.cell y c' e;exact⟨w2,z2.sameBut hs hcc⟩
  ·obtain⟨e,n,ne,nf,d⟩:=I.pin p hp;refine⟨(hs.2 p.1 ?_).trans e,n,ne,nf,d⟩;intro q;rw[q,hoc]at e;have q':oc=p.2:=RG e;exact d w' (by rw[<-q'];exact hocd)
theorem lA{M:Model}{A:Rf}{E:QP->QS->Prop}{i:Nat}{x:Str}{v:V}{u:QP}{Q:Unit->QS->Prop}(I:av X pins σ H s)(hN:X.N.Nodup)(hi:X.N[i]?=some x)(hx:HI X.env.scope x)(r:aS v u)(h:∀s',av X pins (σ.set i (some v)) H s'->Q () s')(hf:X.fn x=true\/X.env.scope.names.lookup x=some .local:=by first|exact .inl rfl|exact .inr rfl|assumption):QX M A (storeName X.env x u) Q E s:=uG I hN hi hx r (λs' I' _=>h s' I') hf
theorem av.call'{s':QS}{ch:List QQ}(I:av X pins σ H s)(ho:s'.os=s.os)(u:Un (jo X.stack) ch H H' s.heap s'.heap)(hok:l7 X.prog X.w H' s'.heap)(hg:Tp s'.gens)(hch:∀b∈ch,(b∈X.ex\/X.s₀.heap.objs.size<=b)/\b≠X.env.locals/\(∀x c,X.env.cells.lookup x=some c->c≠b)/\∀p∈X.pn++pins,p.1≠b):av X pins σ H' s':=by obtain⟨h',g',d',t',o'⟩:=s';have e:o'=s.os:=ho;subst e;exact I.call (g':=g') (t':=t') (d':=d') u hok hg hch
end
abbrev XK:=QP->Option QQ->Hp->Prop
abbrev St:=List (Option V)
abbrev VK:=V->Hp->Prop
abbrev TE:=St->Hp->VK->Prop
abbrev TT:=St->Hp->(Bool->Hp->Prop)->Prop
abbrev TA:=St->Hp->(List V->Hp->Prop)->Prop
structure pD where
 nx:St->Hp->Prop
 rt:VK
 bk:St->Hp->Prop:=λ_ _=>False
 ct:St->Hp->Prop:=λ_ _=>False
abbrev TS:=pD->St->Hp->Prop
def EP(X:Cx)(pins:List (QQ×Obj))(σ:St)(Q:VK)(u:QP)(s':QS):Prop:=∃v H',av X pins σ H' s'/\aS v u/\Q v H'
def TP(X:Cx)(pins:List (QQ×Obj))(σ:St)(Q:Bool->Hp->Prop)(b:Bool)(s':QS):Prop:=∃H',av X pins σ H' s'/\Q b H'
def AP(X:Cx)(pins:List (QQ×Obj))(σ:St)(Q:List V->Hp->Prop)(us:List QP)(s':QS):Prop:=∃vs H',av X pins σ H' s'/\aN vs us/\Q vs H'
def SP(X:Cx)(pins:List (QQ×Obj))(D:pD)(f:Flow)(s':QS):Prop:=match f with|.next=>∃σ' H',av X pins σ' H' s'/\D.nx σ' H'|.brk=>∃σ' H',av X pins σ' H' s'/\D.bk σ' H'|.cont=>∃σ' H',av X pins σ' H' s'/\D.ct σ' H'|.ret u=>∃v σ' H',av X pins σ' H' s'/\aS v u/\D.rt v H'
def PE(X:Cx)(e:QT)(t:TE):Prop:=∀(pins:List (QQ×Obj)) (s:QS) (σ:St) (H:Hp) (Q:VK),av X pins σ H s->t σ H Q->QX (QY X.prog X.w) X.A (Rj e X.env) (EP X pins σ Q) X.xe s
def PT(X:Cx)(e:QT)(t:TT):Prop:=∀(pins:List (QQ×Obj)) (s:QS) (σ:St) (H:Hp) (Q:Bool->Hp->Prop),av X pins σ H s->t σ H Q->QX (QY X.prog X.w) X.A (isTrue e X.env (Rj e X.env)) (TP X pins σ Q) X.xe s
def PW(X:Cx)(e:QT)(t:TT):Prop:=∀(whole:Sem QP) (pins:List (QQ×Obj)) (s:QS) (σ:St) (H:Hp) (Q:Bool->Hp->Prop),av X pins σ H s->t σ H Q->QX (QY X.prog X.w) X.A (isTrue e X.env whole) (TP X pins σ Q) X.xe s
theorem PW.pt{X:Cx}{e:QT}{t:TT}(h:PW X e t):PT X e t:=h _
def PA(X:Cx)(es:List QT)(t:TA):Prop:=∀(pos:Pos) (pins:List (QQ×Obj)) (s:QS) (σ:St) (H:Hp) (Q:List V->Hp->Prop),av X pins σ H s->t σ H Q->QX (QY X.prog X.w) X.A (spliced (RF pos (Rg es X.env))) (AP X pins σ Q) X.xe s
def PS(X:Cx)(st:Rh)(t:TS):Prop:=∀(pins:List (QQ×Obj)) (s:QS) (σ:St) (H:Hp) (D:pD),av X pins σ H s->t D σ H->QX (QY X.prog X.w) X.A (exec st X.env) (SP X pins D) X.xe s
def kc(X:Cx)(st:List Rh)(t:TS):Prop:=∀(pins:List (QQ×Obj)) (s:QS) (σ:St) (H:Hp) (D:pD),av X pins σ H s->t D σ H->QX (QY X.prog X.w) X.A (execs st X.env) (SP X pins D) X.xe s
theorem bu{α:Type}{t:Sem α}{Q Q':α->QS->Prop}{M:Model}{A:Rf}{E:QP->QS->Prop}{s:QS}(h:QX M A t Q E s)(hQ:∀a s,Q a s->Q' a s):QX M A t Q' E s:=Rx h hQ λ_ _ x=>x
section
variable{X:Cx}
def vY(i:Nat):TE:=λσ H Q=>∃v,σ[i]?=some (some v)/\Q v H
def tC(v:V):TE:=λ_ H Q=>Q v H
theorem eW{i:Nat}{x:Str}{pos:Pos}(hN:X.N[i]?=some x)(hv:BX X.env.scope x)(hd:(x==("__debug__":Str))=false:=by decide)(hcd:(x==("__classdict__":Str))=false:=by decide):PE X (.Name x pos) (vY i):=by
 intro pins s σ H Q I h;obtain⟨v,e,h⟩:=h;obtain⟨m,hn,hl⟩:=I.loc;obtain⟨u,r,l⟩:=hl i x v hN e hv;have fin:EP X pins σ Q u s:=⟨v,H,I,r,h⟩;rcases l with⟨hk,hm⟩|⟨hk,c,hc,hcell⟩;·exact wpAny_Name (wpAny_loadName_local I.ok.kind hk hn hm fin) hd
 ·rcases hk with hk|hk;·exact wpAny_Name (wpAny_loadName_cell I.ok.kind hk hc hcell fin) hd
  ·exact wpAny_Name (wpAny_loadName_free I.ok.kind hk hc hcell fin hcd) hd
theorem JN{i j pos}:PE X (.Constant (.int i) j pos) (tC (.int i)):=λ_ _ _ H _ I h=>wpAny_Constant_int ⟨.int i,H,I.tok _,⟨_,rfl⟩,h⟩
theorem Ib{b j pos}:PE X (.Constant (.bool b) j pos) (tC (.bl b)):=λ_ _ _ H _ I h=>Constant_bool ⟨.bl b,H,I,rfl,h⟩
theorem JP{j pos}:PE X (.Constant .none j pos) (tC .non):=λ_ _ _ H _ I h=>Constant_none ⟨.non,H,I,rfl,h⟩
theorem JR{x j pos}:PE X (.Constant (.str x) j pos) (tC (.str x)):=λ_ _ _ H _ I h=>Calls.Constant_str ⟨.str x,H,I.tok _,⟨_,rfl⟩,h⟩
def Gl(X:Cx)(x:Str):Prop:=X.env.kindOf x=some .globalImplicit
theorem lJ{E:QP->QS->Prop}{pins:List (QQ×Obj)}{s:QS}{σ:St}{H:Hp}{x:Str}{u:QP}{pos:Pos}{Q:QP->QS->Prop}(I:av X pins σ H s)(hg:Gl X x)(hm:X.mg x=some u)(h:Q u s)(hd:(x==("__debug__":Str))=false:=by decide):QX (QY X.prog X.w) X.A (Rj (.Name x pos) X.env) Q E s:=Calls.Name_function_global I.ok.kind hg (Calls.loadGlobal_global (by rw[I.ok.glob];exact I.mod.glob.keeps I.bk) hm h) hd
theorem kZ{E:QP->QS->Prop}{pins:List (QQ×Obj)}{s:QS}{σ:St}{H:Hp}{x:Str}{u:QP}{pos:Pos}{Q:QP->QS->Prop}(I:av X pins σ H s)(hg:Gl X x)(hm:X.mg x=none)(hv:SC x=some u)(h:Q u s)(hn:x≠"__name__":=by decide)(hd:(x==("__debug__":Str))=false:=by decide):QX (QY X.prog X.w) X.A (Rj (.Name x pos) X.env) Q E s:=by obtain⟨mb,h1,h2⟩:=I.mod.blt;exact Calls.Name_function_global I.ok.kind hg (Calls.loadGlobal_builtin (by rw[I.ok.glob];exact I.mod.glob.keeps I.bk) hm (by rw[I.ok.blt];exact h1.keeps I.bk) ((h2 x hn).trans hv) h) hd
theorem lO{x:Str}{v:V}{u:QP}{pos:Pos}(hg:Gl X x)(hm:X.mg x=some u)(r:aS v u)(hd:(x==("__debug__":Str))=false:=by decide):PE X (.Name x pos) (tC v):=λ_ _ _ H _ I h=>lJ I hg hm ⟨v,H,I,r,h⟩ hd
variable{a b:QT}{ta tb:TE}{pos:Pos}
def tB(t:TE):TT:=λσ H Q=>t σ H λx H1=>∃c,x=.bl c/\Q c H1
theorem yP{e:QT}{t:TE}(h:PE X e t)(he:∀whole,isTrue e X.env whole=(do let v<-whole;TC e.pos;Ti [v] (truthy v)):=by intro _;rfl):PT X e (tB t):=by intro pins s σ H Q I hw;refine isTrue_plain (bu (h pins s σ H _ I hw) λv s1⟨x,H1,I1,r1,q1⟩=>?_) (he _);obtain⟨d,rfl,q⟩:=q1;cases r1;exact Uc ⟨H1,I1,q⟩
variable{tA tB':TT}{dg:List QT}
def Mi(t u:TT):TT:=λσ H Q=>t σ H λc H1=>if c=true then u σ H1 Q else Q false H1
def Nx(t u:TT):TT:=λσ H Q=>t σ H λc H1=>if c=true then Q true H1 else u σ H1 Q
def Kx(t:TT):TT:=λσ H Q=>t σ H λc H1=>Q (!c) H1
theorem GV(ha:PT X a tA):PW X (.BoolOp .And [a] pos) tA:=by intro wh pins s σ H Q I h;refine isTrue_and (bu (ha pins s σ H Q I h) λc s1 e=>?_);cases c with|true=>exact isTrue_and_nil e|false=>exact e
theorem DS(ha:PT X a tA):PW X (.BoolOp .Or [a] pos) tA:=by intro wh pins s σ H Q I h;refine isTrue_or (bu (ha pins s σ H Q I h) λc s1 e=>?_);cases c with|false=>exact isTrue_or_nil e|true=>exact e
theorem JY(ha:PT X a tA)(hb:PW X (.BoolOp .And (b::dg) pos) tB'):PW X (.BoolOp .And (a::b::dg) pos) (Mi tA tB'):=by intro wh pins s σ H Q I h;refine isTrue_and (bu (ha pins s σ H _ I h) λc s1⟨H1,I1,q1⟩=>?_);cases c with|true=>exact hb wh pins s1 σ H1 Q I1 q1|false=>exact⟨H1,I1,q1⟩
theorem Ie(ha:PT X a tA)(hb:PW X (.BoolOp .Or (b::dg) pos) tB'):PW X (.BoolOp .Or (a::b::dg) pos) (Nx tA tB'):=by intro wh pins s σ H Q I h;refine isTrue_or (bu (ha pins s σ H _ I h) λc s1⟨H1,I1,q1⟩=>?_);cases c with|true=>exact⟨H1,I1,q1⟩|false=>exact hb wh pins s1 σ H1 Q I1 q1
theorem DL(ha:PT X a tA):PT X (.UnaryOp .Not a pos) (Kx tA):=by intro pins s σ H Q I h;exact isTrue_not (ha pins s σ H (λc H1=>Q (!c) H1) I h)
def Ir(ta tb:TE):TE:=λσ H Q=>ta σ H λx H1=>∃c,x=.bl c/\if c=true then tb σ H1 Q else Q (.bl false) H1
def Mp(ta:TE):TE:=λσ H Q=>ta σ H λx H1=>∃c,x=.bl c/\Q (.bl (!c)) H1
theorem Dp{op}{t:TE}(h:PE X a t):PE X (.BoolOp op [a] pos) t:=λpins s σ H Q I hw=>BoolOp_one (h pins s σ H Q I hw)
theorem Dj(ha:PE X a ta)(hb:PE X (.BoolOp .And (b::dg) pos) tb):PE X (.BoolOp .And (a::b::dg) pos) (Ir ta tb):=by intro pins s σ H Q I h;refine BoolOp_and (bu (ha pins s σ H _ I h) λv s1⟨x,H1,I1,r1,q1⟩=>?_);obtain⟨c,rfl,q1⟩:=q1;cases r1;refine Uc ?_;cases c with|true=>exact hb pins s1 σ H1 Q I1 q1|false=>exact⟨.bl false,H1,I1,rfl,q1⟩
theorem JQ(ha:PE X a ta):PE X (.UnaryOp .Not a pos) (Mp ta):=by intro pins s σ H Q I h;refine UnaryOp_ (bu (ha pins s σ H _ I h) λv s1⟨x,H1,I1,r1,q1⟩=>?_);obtain⟨c,rfl,q1⟩:=q1;cases r1;exact not_of (Uc ⟨.bl (!c),H1,I1,rfl,q1⟩)
end
def i6(K:QU)(H:Hp)(a:QQ)(xs:List V):Prop:=Rd H a (.lst xs)\/∃(o:Obj) (its:Array QP) (n:Nat),K.lookup a=some o/\o.cls=.type "list"/\o.dict=none/\o.data=.seq its n/\its.size<=Rm/\aN xs its.toList
def dX(K:QU)(H:Hp)(a:QQ)(xs:List V):Prop:=Rd H a (.tup xs)\/∃(o:Obj) (its:Array QP) (n:Nat),K.lookup a=some o/\o.cls=.type "tuple"/\o.dict=none/\o.data=.seq its n/\its.size<=Rm/\aN xs its.toList
def MX:QP->Option V|.none=>some .non|.bool b=>some (.bl b)|.int i _=>some (.int i)|.str x _=>some (.str x)|.bytes b _=>some (.byt b)|.float b _=>some (.flt b)|.ref a=>some (.ref a)|.type n=>some (.ty n)|_=>none
theorem aS.abs{x:V}{u:QP}(r:aS x u):MX u=some x:=by cases x with|non=>cases r;rfl|bl _=>cases r;rfl|int _=>obtain⟨t,rfl⟩:=r;rfl|str _=>obtain⟨t,rfl⟩:=r;rfl|byt _=>obtain⟨t,rfl⟩:=r;rfl|flt _=>obtain⟨t,rfl⟩:=r;rfl|ref _=>cases r;rfl|ty _=>cases r;rfl
theorem aS.inj{x y:V}{u:QP}(r:aS x u)(q:aS y u):x=y:=RG (r.abs.symm.trans q.abs)
theorem aN.inj:∀{xs ys:List V}{us:List QP},aN xs us->aN ys us->xs=ys|_,_,_,.nil,.nil=>rfl|_,_,_,.cons r t,.cons r' t'=>by rw[r.inj r',aN.inj t t']
section
variable{X:Cx}{pins:List (QQ×Obj)}{σ:St}{H:Hp}{s:QS}{a:QQ}{xs ys:List V}
theorem i6.of{K:QU}(h:H a=some (.lst xs)):i6 K H a xs:=.inl (.inl h)
theorem dX.of{K:QU}(h:H a=some (.tup xs)):dX K H a xs:=.inl (.inl h)
theorem av.list(I:av X pins σ H s)(h:i6 X.K H a xs):∃its:List QP,aN xs its/\PlainL s.heap a its.toArray/\xs.length<=Rm:=by
 rcases h with h|⟨o,its,n,hk,hc,hd,hs,hz,r⟩;·obtain⟨z,its,n,r,e⟩:=h.ok I.hok;exact⟨its,r,⟨_,n,e,rfl,rfl,rfl⟩,z⟩
 ·refine⟨its.toList,r,⟨o,n,I.kIn a o hk,hc,hd,by simpa using hs⟩,?_⟩;have e:=r.length;simp only[VM]at e;lia
theorem av.tuple(I:av X pins σ H s)(h:dX X.K H a xs):∃its:List QP,aN xs its/\IsTup s.heap a its.toArray/\xs.length<=Rm:=by
 rcases h with h|⟨o,its,n,hk,hc,_,hs,hz,r⟩;·obtain⟨z,its,r,p⟩:=h.ok I.hok;exact⟨its,r,p.tup,z⟩
 ·refine⟨its.toList,r,⟨o,I.kIn a o hk,hc,n,by simpa using hs⟩,?_⟩;have e:=r.length;simp only[VM]at e;lia
theorem av.list_inj(I:av X pins σ H s)(h:i6 X.K H a xs)(h':i6 X.K H a ys):xs=ys:=by
 obtain⟨its,r,⟨o,n,e,_,_,d⟩,_⟩:=I.list h;obtain⟨its',r',⟨o',n',e',_,_,d'⟩,_⟩:=I.list h';rw[e]at e';cases e';rw[d]at d';injection d' with d1 _;have:its=its':=by simpa using congrArg Array.toList d1
 subst this;exact r.inj r'
theorem av.tuple_inj(I:av X pins σ H s)(h:dX X.K H a xs)(h':dX X.K H a ys):xs=ys:=by
 obtain⟨its,r,⟨o,e,_,n,d⟩,_⟩:=I.tuple h;obtain⟨its',r',⟨o',e',_,n',d'⟩,_⟩:=I.tuple h';rw[e]at e';cases e';rw[d]at d';injection d' with d1 _;have:its=its':=by simpa using congrArg Array.toList d1
 subst this;exact r.inj r'
end
abbrev Cx.wish(X:Cx)(E:QP->QS->Prop):Cx:={X with xe:=E}
abbrev Cx.nox(X:Cx):Cx:=X.wish λ_ _=>False
theorem Cx.Ok.wish{X:Cx}(ok:X.Ok)(E:QP->QS->Prop):(X.wish E).Ok:=⟨ok.mod,ok.kind,ok.glob,ok.blt,ok.above,ok.inj,ok.has,ok.cab,ok.hd,ok.frames,ok.stk,ok.exf,ok.bs,ok.bsz,ok.noex,ok.exfs,ok.funs,ok.frf⟩
theorem Cx.Ok.unwish{X:Cx}{E:QP->QS->Prop}(ok:(X.wish E).Ok):X.Ok:=⟨ok.mod,ok.kind,ok.glob,ok.blt,ok.above,ok.inj,ok.has,ok.cab,ok.hd,ok.frames,ok.stk,ok.exf,ok.bs,ok.bsz,ok.noex,ok.exfs,ok.funs,ok.frf⟩
section
variable{X:Cx}{pins:List (QQ×Obj)}{σ:St}{H:Hp}{s:QS}{E:QP->QS->Prop}
theorem av.wish(I:av X pins σ H s)(E:QP->QS->Prop):av (X.wish E) pins σ H s:=⟨I.ok.wish E,I.os,I.bare,I.base,I.loc,I.cell,I.free,I.freeC,I.pin,I.hok,I.len⟩
theorem av.unwish(I:av (X.wish E) pins σ H s):av X pins σ H s:=⟨I.ok.unwish,I.os,I.bare,I.base,I.loc,I.cell,I.free,I.freeC,I.pin,I.hok,I.len⟩
theorem SP.unwish{D:pD}{f:Flow}{s':QS}(h:SP (X.wish E) pins D f s'):SP X pins D f s':=by cases f with|next=>obtain⟨σ',H',I,q⟩:=h;exact⟨σ',H',I.unwish,q⟩|brk=>obtain⟨σ',H',I,q⟩:=h;exact⟨σ',H',I.unwish,q⟩|cont=>obtain⟨σ',H',I,q⟩:=h;exact⟨σ',H',I.unwish,q⟩|ret u=>obtain⟨v,σ',H',I,r,q⟩:=h;exact⟨v,σ',H',I.unwish,r,q⟩
theorem PT.nox{e:QT}{t:TT}(h:PT X.nox e t):PT X e t:=λpins s σ H Q I hw=>Rx (h pins s σ H Q (I.wish _) hw) (λ_ _⟨H',I',q⟩=>⟨H',I'.unwish,q⟩) λ_ _ z=>Sj z
theorem kc.nox{st:List Rh}{t:TS}(h:kc X.nox st t):kc X st t:=λpins s σ H D I hw=>Rx (h pins s σ H D (I.wish _) hw) (λ_ _ q=>q.unwish) λ_ _ z=>Sj z
end
section
variable{X:Cx}{st:Rh}{dg:List Rh}{t u:TS}{e:QT}{te:TE}{pos:Pos}
def Iu:TS:=λD σ H=>D.nx σ H
def Ms(t u:TS):TS:=λD σ H=>t {D with nx:=u D} σ H
theorem pX:kc X [] Iu:=λ_ _ σ H _ I h=>VN ⟨σ,H,I,h⟩
theorem jv(h1:PS X st t)(h2:kc X dg u):kc X (st::dg) (Ms t u):=by intro pins s σ H D I h;refine Vl (bu (h1 pins s σ H {D with nx:=u D} I h) λf s1 q=>?_);cases f with|next=>obtain⟨σ',H',I',q⟩:=q;exact h2 pins s1 σ' H' D I' q|ret v=>exact q|brk=>exact q|cont=>exact q
theorem j2(h1:PS X st t):kc X [st] t:=by intro pins s σ H D I h;refine Vl (bu (h1 pins s σ H D I h) λf s1 q=>?_);cases f with|next=>exact VN q|ret v=>exact q|brk=>exact q|cont=>exact q
theorem av.quiet{pins:List (QQ×Obj)}{σ:St}{H:Hp}{s:QS}(I:av X pins σ H s):interactive X.env=false:=by simp[interactive,I.ok.kind]
def Ml(te:TE):TS:=λD σ H=>te σ H λ_ H1=>D.nx σ H1
theorem GN(he:PE X e te)(hs:SV e none pos.line X.env=pure false:=by rfl):PS X (.Expr e pos) (Ml te):=by intro pins s σ H D I h;exact wpAny_Expr_any (bu (he pins s σ H _ I h) λv s1⟨x,H1,I1,r1,q1⟩=>⟨σ,H1,I1,q1⟩) I.quiet hs
def Hm(te:TE):TS:=λD σ H=>te σ H D.rt
theorem rO(he:PE X e te):PS X (.Return (some e) pos) (Hm te):=by intro pins s σ H D I h;exact wpAny_Return_some (bu (he pins s σ H _ I h) λv s1⟨x,H1,I1,r1,q1⟩=>⟨x,σ,H1,I1,r1,q1⟩)
def Mm(c:TT)(t u:TS):TS:=λD σ H=>c σ H λb H1=>if b=true then t D σ H1 else u D σ H1
theorem zP{c:QT}{a b:List Rh}{tc:TT}(hc:PT X c tc)(ha:kc X a t)(hb:kc X b u):PS X (.If c a b pos) (Mm tc t u):=by intro pins s σ H D I h;refine wpAny_If (bu (hc pins s σ H _ I h) λd s1⟨H1,I1,q1⟩=>?_);cases d with|true=>exact ha pins s1 σ H1 D I1 q1|false=>exact hb pins s1 σ H1 D I1 q1
end
abbrev TG:=V->St->Hp->(St->Hp->Prop)->Prop
abbrev E6:=List V->St->Hp->(St->Hp->Prop)->Prop
def PG(X:Cx)(target:QT)(t:TG):Prop:=∀(pins:List (QQ×Obj)) (s:QS) (σ:St) (H:Hp) (v:V) (u:QP) (Q:St->Hp->Prop),av X pins σ H s->aS v u->t v σ H Q->QX (QY X.prog X.w) X.A (SE target X.env u) (λ_ s'=>∃σ' H',av X pins σ' H' s'/\Q σ' H') X.xe s
def BN(X:Cx)(ts:List QT)(t:E6):Prop:=∀(pins:List (QQ×Obj)) (s:QS) (σ:St) (H:Hp) (vs:List V) (us:List QP) (Q:St->Hp->Prop),av X pins σ H s->aN vs us->t vs σ H Q->QX (QY X.prog X.w) X.A (assignInOrder ((SL ts X.env).map (·.2)) us) (λ_ s'=>∃σ' H',av X pins σ' H' s'/\Q σ' H') X.xe s
abbrev II:=V->V->V->Hp->(Hp->Prop)->Prop
def K1(X:Cx)(t:II):Prop:=∀(pins:List (QQ×Obj)) (s:QS) (σ:St) (H:Hp) (o i v:V) (ov iv u:QP) (Q:Hp->Prop),av X pins σ H s->aS o ov->aS i iv->aS v u->t o i v H Q->QX (QY X.prog X.w) X.A (setItem ov iv u) (λ_ s'=>∃H',av X pins σ H' s'/\Q H') X.xe s
section
variable{X:Cx}{pos:Pos}
def CG(i:Nat):TG:=λv σ H Q=>Q (σ.set i (some v)) H
theorem GC{i:Nat}{x:Str}(hN:X.N.Nodup)(hi:X.N[i]?=some x)(hx:HI X.env.scope x)(hf:X.fn x=true\/X.env.scope.names.lookup x=some .local:=by first|exact .inl rfl|exact .inr rfl|assumption):PG X (.Name x pos) (CG i):=by intro pins s σ H v u Q I r h;exact wpAny_assign_Name (lA I hN hi hx r (λs' I'=>⟨_,H,I',h⟩) hf)
def M6:E6:=λvs σ H Q=>vs=[]/\Q σ H
def Lb(t:TG)(u:E6):E6:=λvs σ H Q=>∃v r,vs=v::r/\t v σ H λσ' H'=>u r σ' H' Q
theorem GE:BN X [] M6:=by intro pins s σ H vs us Q I r h;obtain⟨e,h⟩:=h;subst e;cases r;exact assignInOrder_nil ⟨σ,H,I,h⟩
theorem Du{e:QT}{es:List QT}{t:TG}{u:E6}(h1:PG X e t)(h2:BN X es u)(hs:(SL (e::es) X.env).map (·.2)=SE e X.env::(SL es X.env).map (·.2):=by rfl):BN X (e::es) (Lb t u):=by intro pins s σ H vs us Q I r h;obtain⟨v,vr,e1,h⟩:=h;subst e1;cases r with|cons r rr=>rw[hs];refine assignInOrder_cons (bu (h1 pins s σ H _ _ _ I r h) λ_ s1⟨σ1,H1,I1,q1⟩=>?_);exact h2 pins s1 σ1 H1 _ _ Q I1 rr q1
def Lf(K:QU)(n:Nat)(t:E6):TG:=λv σ H Q=>∃a xs,v=.ref a/\dX K H a xs/\xs.length=n/\t xs σ H Q
theorem JS{es:List QT}{k:Nat}{t:E6}{n:Nat}(hc:X.calm=true)(h:BN X es t)(hn:(SL es X.env).length=n:=by rfl)(hst:(SL es X.env).findIdx? (·.1)=none:=by rfl):PG X (.Tuple es k pos) (Lf X.K n t):=by intro pins s σ H v u Q I r hw;obtain⟨a,xs,e1,hq,hl,hw⟩:=hw;subst e1;cases r;obtain⟨its,rv,ht,hz⟩:=I.tuple hq;refine assign_Tuple_tuple (I.ok.hd hc) ht (by simp[hn,<-hl,rv.length]) hst λh' hx=>?_;have I1:av X pins σ H {s with heap:=h'}:=I.kept (t':=s.toks) λb o e=>hx b o (Sd (Rp e)) e;exact h pins _ σ H xs _ Q I1 (by simpa using rv) hw
def M7(to ti:TE)(t:II):TG:=λv σ H Q=>to σ H λo H1=>ti σ H1 λi H2=>t o i v H2 λH3=>Q σ H3
theorem Dt{o i:QT}{to ti:TE}{t:II}(ho:PE X o to)(hi:PE X i ti)(hs:K1 X t)(ha:∀v,SE (.Subscript o i pos) X.env v=(do
 let ov<-Ti [v] (Rj o X.env)let iv<-Ti [v,ov] (Rj i X.env)TC pos
 Ti [v,ov,iv] (setItem ov iv v)release [v,ov,iv] []):=by intro _;rfl):PG X (.Subscript o i pos) (M7 to ti t):=by intro pins s σ H v u Q I r h;rw[ha];refine QV (Up (bu (ho pins s σ H _ I h) λov s1⟨x,H1,I1,r1,q1⟩=>?_));refine QV (Up (bu (hi pins s1 σ H1 _ I1 q1) λiv s2⟨y,H2,I2,r2,q2⟩=>?_));refine QV (Ud (QV (Up (bu (hs pins s2 σ H2 x y v ov iv u _ I2 r1 r2 r q2) λ_ s3⟨H3,I3,q3⟩=>?_))));exact wpAny_release ⟨σ,H3,I3,q3⟩
def Ku(te:TE)(g:TG):TS:=λD σ H=>te σ H λx H1=>g x σ H1 D.nx
theorem yO{tg e:QT}{te:TE}{g:TG}(he:PE X e te)(hg:PG X tg g)(hs:US [tg] e pos.line X.env=pure false:=by rfl)(hw:UT [tg] e X.env=pure none:=by rfl)(h1:(SL [tg] X.env).map (·.2)=[SE tg X.env]:=by rfl):PS X (.Assign [tg] e pos) (Ku te g):=by intro pins s σ H D I h;refine wpAny_Assign_stores (bu (he pins s σ H _ I h) λv s1⟨x,H1,I1,r1,q1⟩=>?_) hs hw;rw[h1];exact bu (hg pins s1 σ H1 x v _ I1 r1 q1) λ_ s2 q=>q
theorem rP{i:Nat}{x:Str}{e:QT}{te:TE}{pos':Pos}(hN:X.N.Nodup)(hi:X.N[i]?=some x)(hx:HI X.env.scope x)(he:PE X e te)(hs:SV e (some (.Name x pos')) pos.line X.env=pure false:=by rfl)(hf:X.fn x=true\/X.env.scope.names.lookup x=some .local:=by first|exact .inl rfl|exact .inr rfl|assumption):PS X (.Assign [.Name x pos'] e pos) (Ku te (CG i)):=by intro pins s σ H D I h;refine wpAny_Assign_Name (bu (he pins s σ H _ I h) λv s1⟨y,H1,I1,r1,q1⟩=>?_) hs;exact lA I1 hN hi hx r1 (λs2 I2=>⟨_,H1,I2,q1⟩) hf
def Nz(i j:Nat)(ta:TA):TS:=λD σ H=>ta σ H λvs H1=>∃v w,vs=[v,w]/\D.nx ((σ.set i (some v)).set j (some w)) H1
theorem JV{i j:Nat}{x y:Str}{a b:QT}{ta:TA}{px py pt:Pos}{kt k2 pt2}(hc:X.calm=true)(hN:X.N.Nodup)(hi:X.N[i]?=some x)(hj:X.N[j]?=some y)(hij:i≠j)(hx:X.env.scope.names.lookup x=some .local)(hy:X.env.scope.names.lookup y=some .local)(ha:PA X [a,b] ta)(hw:UT [.Tuple [.Name x px,.Name y py] kt pt] (.Tuple [a,b] k2 pt2) X.env=pure (some [x,y]))(hs:US [.Tuple [.Name x px,.Name y py] kt pt] (.Tuple [a,b] k2 pt2) pos.line X.env=pure false:=by rfl):PS X (.Assign [.Tuple [.Name x px,.Name y py] kt pt] (.Tuple [a,b] k2 pt2) pos) (Nz i j ta):=by
 intro pins s σ H D I h;rw[exec_Assign_arm];refine QV (Ud ?_);rw[hs];refine QV (Rl ?_);rw[if_neg ⋯];refine QV (Tuple_ (bu (ha _ pins s σ H _ I h) λus s1⟨vs,H1,I1,r1,q1⟩=>?_));obtain⟨v,w,e1,q1⟩:=q1;subst e1;obtain⟨u1,u2,rfl,rv,rw'⟩:∃u1 u2,us=[u1,u2]/\aS v u1/\aS w u2:=by cases r1 with|cons p q=>cases q with|cons p' q'=>cases q';exact⟨_,_,rfl,p,p'⟩
 refine TF ?_ (by show 2<=Rm;decide);have I2:av X pins σ H1 {s1 with heap:=s1.heap.push {cls:=.type "tuple",data:=.seq [u1,u2].toArray}}:=I1.kept (t':=s1.toks) λb o e=>RH _ e;rw[hw];refine QV (Rl ?_);show QX (QY X.prog X.w) X.A (do rule "assign.swapped-stores";let items<-unpackItems (.ref ↑s1) 2 none;assignInOrder [λv=>bindName X.env y v,λv=>bindName X.env x v] items.reverse;pure Flow.next) _ _ _;refine QV (Uq (QV (unpackItems_tuple (items:=#[u1,u2]) (I.ok.hd hc) (IsTup.new s1.heap _) λh' hx'=>?_)));have I3:=I2.kept (h':=h') (t':=s1.toks) λb o e=>hx' b o (Sd (Rp e)) e;show QX _ _ (assignInOrder [λv=>bindName X.env y v,λv=>bindName X.env x v] [u2,u1]>>=λ_=>pure Flow.next) _ _ _;refine QV (assignInOrder_cons (wpAny_bindName (lA I3 hN hj (.inl hy) rw' (λs2 I4=>?_) (.inr hy))));refine assignInOrder_cons (wpAny_bindName (lA I4 hN hi (.inl hx) rv (λs3 I5=>assignInOrder_nil (Rl ?_)) (.inr hx)));rw[List.set_comm _ _ (Rz hij)]at I5;exact⟨_,H1,I5,q1⟩
end
section
variable{X:Cx}{pos:Pos}
def KA(c:TT)(tb:TS):TS:=λD σ H=>∃W:Nat->St->Hp->Prop,(∃m,W m σ H)/\∀m σ H,W m σ H->c σ H λb H1=>if b=true then∃N:St->Hp->Prop,(∀σ' H',N σ' H'->∃m',m'<m/\W m' σ' H')/\tb {D with nx:=N,ct:=N,bk:=D.nx} σ H1 else D.nx σ H1
theorem DH{c:QT}{body:List Rh}{tc:TT}{tb:TS}(hp:PassesOwn (QY X.prog X.w) X.A X.env X.xe)(hc:PT X c tc)(hb:kc X body tb):PS X (.While c body [] pos) (KA tc tb):=by intro pins s σ H D I h;obtain⟨W,⟨m0,w0⟩,turn⟩:=h;refine wpAny_While (codeAny_whileLoop (λn s'=>∃σ' H',av X pins σ' H' s'/\W n σ' H') ?_ m0 ⟨σ,H,I,w0⟩);rintro n s1⟨σ1,H1,I1,w1⟩;refine Uz hp (bu (hc pins s1 σ1 H1 _ I1 (turn n σ1 H1 w1)) λb s2⟨H2,I2,q2⟩=>?_);cases b with
 |true=>obtain⟨N,hN,q2⟩:=q2;rw[if_pos rfl];refine Uz hp (bu (hb pins s2 σ1 H2 _ I2 q2) λf s3 q3=>?_);cases f with|next=>obtain⟨σ3,H3,I3,n3⟩:=q3;obtain⟨m',hm,w3⟩:=hN σ3 H3 n3;exact⟨m',hm,σ3,H3,I3,w3⟩|cont=>obtain⟨σ3,H3,I3,n3⟩:=q3;obtain⟨m',hm,w3⟩:=hN σ3 H3 n3;exact⟨m',hm,σ3,H3,I3,w3⟩|brk=>exact q3|ret v=>exact q3
 |false=>rw[if_neg Te];exact VN ⟨σ1,H2,I2,q2⟩
end
structure It where
 go:Nat->Hp->Prop
 yld:Nat->Hp->V->Hp->Prop
 stop:Nat->Hp->Prop
def iG(X:Cx)(pins:List (QQ×Obj))(H:Hp)(b:QQ):Prop:=H b=none/\b≠X.env.locals/\b∉X.fs/\(b∈X.ex\/X.s₀.heap.objs.size<=b)/\(∀x c,X.env.cells.lookup x=some c->c≠b)/\∀p∈X.pn++pins,p.1≠b
theorem av.fpOk{X:Cx}{pins:List (QQ×Obj)}{σ:St}{H H':Hp}{s:QS}{b:QQ}(I:av X pins σ H s)(hb:↑s<=b)(hn:H' b=none):iG X pins H' b:=by
 refine⟨hn,Nat.ne_of_gt (Sb I.lt hb),I.nofs hb,.inr (RT I.sz hb),λx c e z=>?_,λp hp z=>?_⟩;·obtain⟨v,q⟩:=I.cell x c e;exact absurd (Sb q.lt (by rw[z];exact hb)) (Tn _)
 ·exact absurd (Sb (Rp (I.pin p hp).1) (by rw[z];exact hb)) (Tn _)
structure Ar (P:QZ) (w:QW) (K:QU) (tg:QT) (J:It) (fp:List QQ) (it:QQ) (tn:Nat->Re->Prop):Prop where
 mem:it∈fp
 obj:∀i h,tn i h->∀b∈fp,∃o,h.get? b=some o/\∀v,o.data≠.cell v
 keep:∀i h h',tn i h->(∀b∈fp,∀o,h.get? b=some o->h'.get? b=some o)->tn i h'
 item:∀(X:Cx),X.prog=P->X.w=w->X.K=K->X.calm=true->∀(i:Nat) (pins:List (QQ×Obj)) (s:QS) (σ:St) (H:Hp) (E:QP->QS->Prop),av X pins σ H s->(∀b∈fp,iG X pins H b)->tn i s.heap->J.go i H->QX (QY P w) X.A (Tf (.ref it)) (λr s1=>∃u,r=some u/\QX (QY P w) X.A (UA tg (.ref it) u) (λ_ s2=>∃x H',av X pins σ H' s2/\aS x u/\J.yld i H x H'/\tn (i+1) s2.heap/\∀b∈fp,H' b=none) E s1) E s
 done:∀(X:Cx),X.prog=P->X.w=w->X.K=K->X.calm=true->∀(i:Nat) (pins:List (QQ×Obj)) (s:QS) (σ:St) (H:Hp) (E:QP->QS->Prop),av X pins σ H s->(∀b∈fp,iG X pins H b)->tn i s.heap->J.stop i H->QX (QY P w) X.A (Tf (.ref it)) (λr s1=>r=none/\av X pins σ H s1) E s
 self:∀(A:Rf) (i:Nat) (s:QS) (Q:QP->QS->Prop) (E:QP->QS->Prop),tn i s.heap->Q (.ref it) s->QX (QY P w) A (pyIter (.ref it)) Q E s
abbrev TI:=St->Hp->(It->Hp->Prop)->Prop
def NE(X:Cx)(pins:List (QQ×Obj))(σ:St)(tg:QT)(R:It->Hp->Prop)(itv:QP)(s2:QS):Prop:=∃(it:QQ) (fp:List QQ) (tn:Nat->Re->Prop) (J:It) (H':Hp),itv=.ref it/\av X pins σ H' s2/\Ar X.prog X.w X.K tg J fp it tn/\tn 0 s2.heap/\(∀b∈fp,iG X pins H' b)/\R J H'
def PI(X:Cx)(tg iter:QT)(wi:TI):Prop:=∀(pins:List (QQ×Obj)) (s:QS) (σ:St) (H:Hp) (R:It->Hp->Prop),av X pins σ H s->wi σ H R->QX (QY X.prog X.w) X.A (Rj iter X.env) (λv s1=>QX (QY X.prog X.w) X.A (pyIter v) (NE X pins σ tg R) X.xe s1) X.xe s
theorem CK{M:Model}{A:Rf}{E:QP->QS->Prop}{s:QS}{tg:QT}{it:QQ}{u:QP}{o:Obj}{n:String}{vs:Array QP}{Q:Unit->QS->Prop}(ho:s.heap.get? it=some o)(hc:o.cls=.type n)(hd:o.data=.fields vs)(hn:["enumerate","zip","dict_itemiterator","dict_reverseitemiterator","odict_iterator","itertools.zip_longest","itertools.pairwise"].contains n=false)(hQ:Q () s):QX M A (UA tg (.ref it) u) Q E s:=by unfold UA;cases tg<;>first|exact Rl hQ|(cases u<;>first|exact Rl hQ| (refine QV (wpAny_load ho ?_);rw[hc,hd];show QX M A (if (["enumerate","zip","dict_itemiterator","dict_reverseitemiterator","odict_iterator","itertools.zip_longest","itertools.pairwise"].contains n&&vs[0]?==some (rawInt _))=true then _ else _) Q E s;rw[if_neg (by intro h;rw[hn,Bool.false_and]at h;cases h)];exact Rl hQ))
def MS(K:QU)(a:QQ):It:=⟨λi H=>∃xs x,i6 K H a xs/\xs[i]?=some x,λi H x H'=>H'=H/\∀xs,i6 K H a xs->xs[i]?=some x,λi H=>∃xs,i6 K H a xs/\xs.length<=i⟩
def MT(K:QU)(a:QQ):It:=⟨λi H=>∃xs x,dX K H a xs/\xs[i]?=some x,λi H x H'=>H'=H/\∀xs,dX K H a xs->xs[i]?=some x,λi H=>∃xs,dX K H a xs/\xs.length<=i⟩
def MB(lo:Int)(n:Nat):It:=⟨λi _=>i<n,λi H x H'=>H'=H/\x=.int (lo+i),λi _=>n<=i⟩
theorem BG{P:QZ}{w:QW}{K:QU}{tg:QT}(a it:QQ):Ar P w K tg (MS K a) [it] it (λi h=>h.IsListIter it a i) where
 mem:=by simp
 obj:=λi h st b hb=>by
  have e:b=it:=by simpa using hb
  subst e;obtain⟨o,e,c,d⟩:=st;exact⟨o,e,λv z=>by rw[d]at z;cases z⟩
 keep:=λi h h' st k=>st.at λo e=>k it ↥1 o e;item:=by intro X hP hw hK hc i pins s σ H E I hf st hg;subst hP hw hK;obtain⟨xs,x,hq,hx⟩:=hg;obtain⟨its,rv,p,hz⟩:=I.list hq;obtain⟨u,hu,ru⟩:=rv.get hx;obtain⟨f0,f1,f2,f3,f4,f5⟩:=hf it ↥1;refine wpAny_pyNext_list_item st p.isList (x:=u) (by simpa using hu) λh' st' sb=>?_;have I1:av X pins σ H {s with heap:=h'}:=I.turned (t':=s.toks) (λb o hb e=>(sb.2 b hb).trans e) f0 f1 f3 f4 f5;obtain⟨o,e,c,d⟩:=id st';exact⟨u,rfl,CK (s:={s with heap:=h'}) e c d ⋯ ⟨x,H,I1,ru,⟨rfl,λys hy=>by rw[I.list_inj hy hq];exact hx⟩,st',λb hb=>(hf b hb).1⟩⟩
 done:=by intro X hP hw hK hc i pins s σ H E I hf st hg;subst hP hw hK;obtain⟨xs,hq,hx⟩:=hg;obtain⟨its,rv,p,hz⟩:=I.list hq;obtain⟨f0,f1,f2,f3,f4,f5⟩:=hf it ↥1;have hl:=rv.length;exact wpAny_pyNext_list_end (I.ok.hd hc) st p.isList ↥7 λh' eb=>⟨rfl,I.turned (t':=s.toks) (λb o hb e=>eb b o hb e) f0 f1 f3 f4 f5⟩
 self:=λ_ _ _ _ _ st h=>wpAny_pyIter_listiter st h
theorem y8{P:QZ}{w:QW}{K:QU}{tg:QT}(a it:QQ):Ar P w K tg (MT K a) [it] it (λi h=>h.IsTupleIter it a i) where
 mem:=by simp
 obj:=λi h st b hb=>by
  have e:b=it:=by simpa using hb
  subst e;obtain⟨o,e,c,d⟩:=st;exact⟨o,e,λv z=>by rw[d]at z;cases z⟩
 keep:=λi h h' st k=>st.at λo e=>k it ↥1 o e;item:=by intro X hP hw hK hc i pins s σ H E I hf st hg;subst hP hw hK;obtain⟨xs,x,hq,hx⟩:=hg;obtain⟨its,rv,p,hz⟩:=I.tuple hq;obtain⟨u,hu,ru⟩:=rv.get hx;obtain⟨f0,f1,f2,f3,f4,f5⟩:=hf it ↥1;refine wpAny_pyNext_tuple_item st (show s.heap.IsTuple a its.toArray from p) (x:=u) (by simpa using hu) λh' st' sb=>?_;have I1:av X pins σ H {s with heap:=h'}:=I.turned (t':=s.toks) (λb o hb e=>(sb.2 b hb).trans e) f0 f1 f3 f4 f5;obtain⟨o,e,c,d⟩:=id st';exact⟨u,rfl,CK (s:={s with heap:=h'}) e c d ⋯ ⟨x,H,I1,ru,⟨rfl,λys hy=>by rw[I.tuple_inj hy hq];exact hx⟩,st',λb hb=>(hf b hb).1⟩⟩
 done:=by intro X hP hw hK hc i pins s σ H E I hf st hg;subst hP hw hK;obtain⟨xs,hq,hx⟩:=hg;obtain⟨its,rv,p,hz⟩:=I.tuple hq;obtain⟨f0,f1,f2,f3,f4,f5⟩:=hf it ↥1;have hl:=rv.length;exact wpAny_pyNext_tuple_end (I.ok.hd hc) st (show s.heap.IsTuple a its.toArray from p) ↥7 λh' eb=>⟨rfl,I.turned (t':=s.toks) (λb o hb e=>eb b o hb e) f0 f1 f3 f4 f5⟩
 self:=λ_ _ _ _ _ st h=>wpAny_pyIter_tupleiter st h
theorem y6{P:QZ}{w:QW}{K:QU}{tg:QT}(it:QQ)(lo:Int)(n:Nat):Ar P w K tg (MB lo n) [it] it (λi h=>IsRangeIter h it (lo+(i:Nat)*1) ((n:Int)-(i:Nat)) 1) where
 mem:=by simp
 obj:=λi h st b hb=>by
  have e:b=it:=by simpa using hb
  subst e;exact⟨_,st,λv z=>by have z':Data.fields _=Data.cell v:=z;cases z'⟩
 keep:=λi h h' st k=>k it ↥1 _ st;item:=by intro X hP hw hK hc i pins s σ H E I hf st hg;subst hP hw hK;obtain⟨f0,f1,f2,f3,f4,f5⟩:=hf it ↥1;have W:=Walks.range (prog:=X.prog) (w:=X.w) (I.ok.hd hc) it lo 1 n;refine W.item i s _ _ hg st λv h' tk hv st' kk=>?_;obtain⟨t,rfl⟩:=hv;have I1:av X pins σ H {s with heap:=h',toks:=tk}:=I.turned (λb o hb e=>kk b o (by simpa using hb) e) f0 f1 f3 f4 f5;refine⟨_,rfl,CK (s:={s with heap:=h',toks:=tk}) (n:="range_iterator") st' rfl rfl ⋯ ⟨.int (lo+i),H,I1,⟨t,?_⟩,⟨rfl,rfl⟩,st',λb hb=>(hf b hb).1⟩⟩;rw[Int.mul_one]
 done:=by intro X hP hw hK hc i pins s σ H E I hf st hg;subst hP hw hK;obtain⟨f0,f1,f2,f3,f4,f5⟩:=hf it ↥1;exact wpAny_pyNext_range_end (I.ok.hd hc) st (by have:n<=i:=hg;lia) λh' eb=>⟨rfl,I.turned (t':=s.toks) (λb o hb e=>eb b o hb e) f0 f1 f3 f4 f5⟩
 self:=λ_ _ _ _ _ st h=>wpAny_pyIter_rangeiter st h
section
variable{X:Cx}{tg:QT}
def HY(K:QU)(tl:TE):TI:=λσ H R=>tl σ H λx H1=>∃a,x=.ref a/\(∃xs,i6 K H1 a xs)/\R (MS K a) H1
def Lh(K:QU)(tl:TE):TI:=λσ H R=>tl σ H λx H1=>∃a,x=.ref a/\(∃xs,dX K H1 a xs)/\R (MT K a) H1
theorem GF{l:QT}{tl:TE}(hl:PE X l tl):PI X tg l (HY X.K tl):=by
 intro pins s σ H R I h;refine bu (hl pins s σ H _ I h) λv s1⟨x,H1,I1,r1,q1⟩=>?_;obtain⟨a,e,⟨xs,hq⟩,q⟩:=q1;subst e;cases r1;obtain⟨its,rv,p,hz⟩:=I1.list hq;refine wpAny_pyIter_list p.isList ?_;refine⟨↑s1,[↑s1],_,_,H1,rfl,I1.kept (t':=s1.toks) λb o e=>RH _ e,BG a _,⟨_,Sn _ rfl,rfl,rfl⟩,λb hb=>?_,q⟩;have e:b=↑s1:=by simpa using hb
 subst e;exact I1.fpOk (Ro _) (I1.hok.fresh (Ro _))
theorem JT{l:QT}{tl:TE}(hl:PE X l tl):PI X tg l (Lh X.K tl):=by
 intro pins s σ H R I h;refine bu (hl pins s σ H _ I h) λv s1⟨x,H1,I1,r1,q1⟩=>?_;obtain⟨a,e,⟨xs,hq⟩,q⟩:=q1;subst e;cases r1;obtain⟨its,rv,p,hz⟩:=I1.tuple hq;refine Vm (show s1.heap.IsTuple a its.toArray from p) ?_;refine⟨↑s1,[↑s1],_,_,H1,rfl,I1.kept (t':=s1.toks) λb o e=>RH _ e,y8 a _,⟨_,Sn _ rfl,rfl,rfl⟩,λb hb=>?_,q⟩;have e:b=↑s1:=by simpa using hb
 subst e;exact I1.fpOk (Ro _) (I1.hok.fresh (Ro _))
theorem Ef{pins:List (QQ×Obj)}{σ:St}{H:Hp}{s:QS}{R:It->Hp->Prop}{E:QP->QS->Prop}{lo hi:Int}{t u v:Tok}{tk:Nat}(I:av X pins σ H s)(h1:-(2^62)<=lo)(h2:lo<2^62)(h3:-(2^62)<=hi)(h4:hi<2^62)(q:R (MB lo (hi-lo).toNat) H):QX (QY X.prog X.w) X.A (pyIter (.ref ↑s)) (NE X pins σ tg R) E {s with heap:=s.heap.push {cls:=.type "range",data:=.fields #[.int lo t,.int hi u,.int 1 v]},toks:=tk}:=by
 refine wpAny_pyIter_range (IsRange.new ..) (small_one h1 h2 h3 h4) ?_;have I1:av X pins σ H {s with heap:=s.heap.push {cls:=.type "range",data:=.fields #[.int lo t,.int hi u,.int 1 v]},toks:=tk}:=I.kept λb o e=>RH _ e;refine⟨(s.heap.push {cls:=.type "range",data:=.fields #[.int lo t,.int hi u,.int 1 v]}).objs.size,[(s.heap.push {cls:=.type "range",data:=.fields #[.int lo t,.int hi u,.int 1 v]}).objs.size],_,_,H,rfl,I1.kept (t':=tk) λb o e=>RH _ e,y6 _ lo (hi-lo).toNat,?_,λb hb=>?_,q⟩
 ·have e1:lo+((0:Nat):Int)*1=lo:=by simp
  have e2:(((hi-lo).toNat:Nat):Int)-((0:Nat):Int)=Builtin.Range.rangeSize lo hi 1:=by rw[rangeSize_one];split<;>lia
  show IsRangeIter _ _ (lo+((0:Nat):Int)*1) ((((hi-lo).toNat:Nat):Int)-((0:Nat):Int)) 1;rw[e1,e2];exact Sn _ rfl
 ·have e:b=(s.heap.push {cls:=.type "range",data:=.fields #[.int lo t,.int hi u,.int 1 v]}).objs.size:=by simpa using hb
  subst e;exact I1.fpOk (Ro _) (I1.hok.fresh (Ro _))
def Lg(ta:TA):TI:=λσ H R=>ta σ H λvs H1=>∃j:Int,vs=[.int j]/\-(2^62)<=j/\j<2^62/\R (MB 0 j.toNat) H1
theorem Bm{a:QT}{ta:TA}{p pos:Pos}(hg:Gl X "range")(hm:X.mg "range"=none)(ha:PA X [a] ta)(hs:Rg [a] X.env=[(false,Rj a X.env)]:=by rfl):PI X tg (.Call (.Name "range" p) [a] [] pos) (Lg ta):=by intro pins s σ H R I h;refine Call_ (kZ I hg hm boot_range (UU (bu (ha pos pins s σ H _ I h) λus s1⟨vs,H1,I1,r1,q1⟩=>?_) hs rfl));obtain⟨j,e,q1,q2,q⟩:=q1;subst e;cases r1 with|cons r rr=>cases rr;obtain⟨t,rfl⟩:=r;exact call_range_1 (Ef I1 ↥0 ↥0 q1 q2 (by simpa using q))
def Nw(wi:TI)(g:TG)(tb:TS):TS:=λD σ H=>wi σ H λJ H1=>∃W:Nat->Nat->St->Hp->Prop,(∃m,W 0 m σ H1)/\∀i m σ H,W i m σ H->(J.stop i H/\D.nx σ H)\/(J.go i H/\∃N:St->Hp->Prop,(∀σ' H',N σ' H'->∃m',m'<m/\W (i+1) m' σ' H')/\∀x H',J.yld i H x H'->g x σ H' λσ2 H2=>tb {D with nx:=N,ct:=N,bk:=D.nx} σ2 H2)
def mx(fp:List QQ)(h:Re):List (QQ×Obj):=fp.filterMap λb=>(h.get? b).map λo=>(b,o)
theorem cW{fp:List QQ}{h:Re}{b:QQ}{o:Obj}(hb:b∈fp)(e:h.get? b=some o):(b,o)∈mx fp h:=Ws.mpr ⟨b,hb,by rw[e];rfl⟩
theorem Be{fp:List QQ}{h:Re}{p:QQ×Obj}(hp:p∈mx fp h):p.1∈fp/\h.get? p.1=some p.2:=by obtain⟨b,hb,e⟩:=Ws.mp hp;cases q:h.get? b with|none=>rw[q]at e;cases e|some o=>rw[q]at e;have e':(b,o)=p:=RG e;subst e';exact⟨hb,q⟩
theorem av.pinned{pins:List (QQ×Obj)}{σ:St}{H:Hp}{s:QS}{fp:List QQ}(I:av X pins σ H s)(hf:∀b∈fp,iG X pins H b)(ho:∀b∈fp,∃o,s.heap.get? b=some o/\∀v,o.data≠.cell v):av X (pins++mx fp s.heap) σ H s:=I.pins_of λp hp=>(QL hp).elim (λz=>I.pin p (Sk _ z)) λz=>by obtain⟨hb,e⟩:=Be z;obtain⟨f0,f1,f2,_⟩:=hf p.1 hb;obtain⟨o,e',d⟩:=ho p.1 hb;rw[e]at e';cases e';exact⟨e,f0,f1,f2,d⟩
theorem av.unpinned{pins pl:List (QQ×Obj)}{σ:St}{H:Hp}{s:QS}(I:av X (pins++pl) σ H s):av X pins σ H s:=I.pins_of λp hp=>I.pin p (Sk _ (Wu _ hp))
theorem DE{iter:QT}{body:List Rh}{wi:TI}{g:TG}{tb:TS}{pos:Pos}(hp:PassesOwn (QY X.prog X.w) X.A X.env X.xe)(hc:X.calm=true)(hi:PI X tg iter wi)(hg:PG X tg g)(hb:kc X body tb)(hs:∀x,SF iter X.env x=pure x:=by intro _;rfl):PS X (.For tg iter body [] pos) (Nw wi g tb):=by
 intro pins s σ H D I h;refine wpAny_For (bu (hi pins s σ H _ I h) λv s1 h1=>bu h1 λitv s2 h2=>?_) hs;obtain⟨it,fp,tn,J,H2,e,I2,T,st2,f2,W,⟨m0,w0⟩,turn⟩:=h2;subst e;have stat:∀{H':Hp},(∀b∈fp,H' b=none)->∀b∈fp,iG X pins H' b:=λhn b hb=>⟨hn b hb,(f2 b hb).2⟩;refine codeAny_forLoop_any (λn s'=>∃i σ' H',av X pins σ' H' s'/\tn i s'.heap/\(∀b∈fp,H' b=none)/\W i n σ' H') ?_ m0 ⟨0,σ,H2,I2,st2,λb hb=>(f2 b hb).1,w0⟩;rintro n s3⟨i,σ3,H3,I3,st3,fr3,w3⟩;rcases turn i n σ3 H3 w3 with⟨stop,qn⟩|⟨go,N,hN,step⟩;·refine Uz hp (bu (T.done X rfl rfl rfl hc i pins s3 σ3 H3 X.xe I3 (stat fr3) st3 stop) λr s4⟨hr,I4⟩=>?_);subst hr;exact VN ⟨σ3,H3,I4,qn⟩
 ·refine Uz hp (bu (T.item X rfl rfl rfl hc i pins s3 σ3 H3 X.xe I3 (stat fr3) st3 go) λr s4⟨u,hr,h4⟩=>?_);subst hr;refine Uz hp (bu h4 λ_ s5⟨x,H5,I5,r5,y5,st5,fr5⟩=>?_);have I5':=I5.pinned (stat fr5) (T.obj _ _ st5);refine Uz hp (bu (hg _ s5 σ3 H5 x u _ I5' r5 (step x H5 y5)) λ_ s6⟨σ6,H6,I6,q6⟩=>?_);refine Uz hp (bu (hb _ s6 σ6 H6 _ I6 q6) λf s7 q7=>?_);have again:∀{σ7:St}{H7:Hp},av X (pins++mx fp s5.heap) σ7 H7 s7->N σ7 H7->∃m,m<n/\∃i σ' H',av X pins σ' H' s7/\tn i s7.heap/\(∀b∈fp,H' b=none)/\W i m σ' H':=fun{σ7 H7}I7 n7=>by obtain⟨m',hm,w7⟩:=hN σ7 H7 n7;refine⟨m',hm,i+1,σ7,H7,I7.unpinned,T.keep _ _ _ st5 λb hb o e=>(I7.pin (b,o) (Sk _ (Sk _ (cW hb e)))).1,λb hb=>?_,w7⟩;obtain⟨o,e,d⟩:=T.obj _ _ st5 b hb;exact(I7.pin (b,o) (Sk _ (Sk _ (cW hb e)))).2.1
  cases f with|next=>obtain⟨σ7,H7,I7,n7⟩:=q7;exact again I7 n7|cont=>obtain⟨σ7,H7,I7,n7⟩:=q7;exact again I7 n7|brk=>obtain⟨σ7,H7,I7,q7⟩:=q7;exact⟨σ7,H7,I7.unpinned,q7⟩|ret v=>obtain⟨x7,σ7,H7,I7,r7,q7⟩:=q7;exact⟨x7,σ7,H7,I7.unpinned,r7,q7⟩
end
abbrev R2:=V->V->Hp->VK->Prop
def eG(X:Cx)(f:QP->QP->Sem QP)(r:R2):Prop:=∀(pins:List (QQ×Obj)) (s:QS) (σ:St) (H:Hp) (x y:V) (v u:QP) (Q:VK),av X pins σ H s->aS x v->aS y u->r x y H Q->QX (QY X.prog X.w) X.A (f v u) (EP X pins σ Q) X.xe s
def MG(X:Cx)(f:QP->Sem QP)(r:V->Hp->VK->Prop):Prop:=∀(pins:List (QQ×Obj)) (s:QS) (σ:St) (H:Hp) (x:V) (v:QP) (Q:VK),av X pins σ H s->aS x v->r x H Q->QX (QY X.prog X.w) X.A (f v) (EP X pins σ Q) X.xe s
def du(X:Cx)(f:QP)(r:List V->Hp->VK->Prop):Prop:=∀(pins:List (QQ×Obj)) (s:QS) (σ:St) (H:Hp) (xs:List V) (us:List QP) (Q:VK),av X pins σ H s->aN xs us->r xs H Q->QX (QY X.prog X.w) X.A (call f us) (EP X pins σ Q) X.xe s
def Mq(r:R2)(ta tb:TE):TE:=λσ H Q=>ta σ H λx H1=>tb σ H1 λy H2=>r x y H2 Q
def NQ(r:V->Hp->VK->Prop)(ta:TE):TE:=λσ H Q=>ta σ H λx H1=>r x H1 Q
def rI(C:Int->Int->Prop)(g:Int->Int->V):R2:=λx y H Q=>∃i j,x=.int i/\y=.int j/\C i j/\Q (g i j) H
def xu(g:Int->Int->V):R2:=λx y H Q=>∃i j,x=.int i/\y=.int j/\Q (g i j) H
def rU(g:Int->V):V->Hp->VK->Prop:=λx H Q=>∃i,x=.int i/\Q (g i) H
section
variable{X:Cx}{a b c:QT}{ta tb tc:TE}{pos:Pos}
theorem IL(ha:PE X a ta)(hb:PE X b tb){pins:List (QQ×Obj)}{s:QS}{σ:St}{H:Hp}{R:V->V->Hp->Prop}(I:av X pins σ H s)(h:ta σ H λx H1=>tb σ H1 λy H2=>R x y H2){Q:QP->QS->Prop}{f:QP->QP->Sem QP}(hf:∀v u s2 x y H2,av X pins σ H2 s2->aS x v->aS y u->R x y H2->QX (QY X.prog X.w) X.A (f v u) Q X.xe s2):QX (QY X.prog X.w) X.A (Rj a X.env) (λv s₁=>QX (QY X.prog X.w) X.A (Rj b X.env) (λu s₂=>QX (QY X.prog X.w) X.A (f v u) Q X.xe s₂) X.xe s₁) X.xe s:=by refine bu (ha pins s σ H _ I h) λv s1⟨x,H1,I1,r1,q1⟩=>?_;refine bu (hb pins s1 σ H1 _ I1 q1) λu s2⟨y,H2,I2,r2,q2⟩=>?_;exact hf v u s2 x y H2 I2 r1 r2 q2
theorem LK{op:Operator}{r:R2}(ho:eG X (RZ op) r)(ha:PE X a ta)(hb:PE X b tb):PE X (.BinOp a op b pos) (Mq r ta tb):=by intro pins s σ H Q I h;exact wpAny_BinOp (IL ha hb I h λv u s2 x y H2 I2 rx ry q=>ho pins s2 σ H2 x y v u Q I2 rx ry q)
theorem LM{op:UnaryOp}{r:V->Hp->VK->Prop}(ho:MG X (unaryOp op) r)(ha:PE X a ta):PE X (.UnaryOp op a pos) (NQ r ta):=by intro pins s σ H Q I h;exact UnaryOp_ (bu (ha pins s σ H _ I h) λv s1⟨x,H1,I1,r1,q1⟩=>ho pins s1 σ H1 x v Q I1 r1 q1)
theorem Jw{f:QP->QP->Sem QP}{C:Int->Int->Prop}{g:Int->Int->Int}(rule:∀(i j:Int) (t u:Tok) (s:QS) (Q:QP->QS->Prop) (E:QP->QS->Prop),C i j->Q (.int (g i j) s.toks) {s with toks:=s.toks+1}->QX (QY X.prog X.w) X.A (f (.int i t) (.int j u)) Q E s):eG X f (rI C λi j=>.int (g i j)):=by intro pins s σ H x y v u Q I rx ry h;obtain⟨i,j,rfl,rfl,hc,q⟩:=h;obtain⟨t,rfl⟩:=rx;obtain⟨t',rfl⟩:=ry;exact rule i j t t' s _ _ hc ⟨.int (g i j),H,I.tok _,⟨_,rfl⟩,q⟩
theorem Jx{f:QP->QP->Sem QP}{g:Int->Int->Int}(rule:∀(i j:Int) (t u:Tok) (s:QS) (Q:QP->QS->Prop) (E:QP->QS->Prop),Q (.int (g i j) s.toks) {s with toks:=s.toks+1}->QX (QY X.prog X.w) X.A (f (.int i t) (.int j u)) Q E s):eG X f (xu λi j=>.int (g i j)):=by intro pins s σ H x y v u Q I rx ry h;obtain⟨i,j,rfl,rfl,q⟩:=h;obtain⟨t,rfl⟩:=rx;obtain⟨t',rfl⟩:=ry;exact rule i j t t' s _ _ ⟨.int (g i j),H,I.tok _,⟨_,rfl⟩,q⟩
theorem Gi{f:QP->QP->Sem QP}{g:Int->Int->Bool}(rule:∀(i j:Int) (t u:Tok) (s:QS) (Q:QP->QS->Prop) (E:QP->QS->Prop),Q (.bool (g i j)) s->QX (QY X.prog X.w) X.A (f (.int i t) (.int j u)) Q E s):eG X f (xu λi j=>.bl (g i j)):=by intro pins s σ H x y v u Q I rx ry h;obtain⟨i,j,rfl,rfl,q⟩:=h;obtain⟨t,rfl⟩:=rx;obtain⟨t',rfl⟩:=ry;exact rule i j t t' s _ _ ⟨.bl (g i j),H,I,rfl,q⟩
def BS(i j:Int):Prop:=0<=j/\j<=1000000/\i.natAbs<2^64
def Ff(i j:Int):Prop:=(-(2^64)<i/\i<2^64)\/(-(2^64)<j/\j<2^64)
theorem Ff.ok{i j:Int}(h:Ff i j):IntMulOk i j:=by
 rcases h with⟨h1,h2⟩|⟨h1,h2⟩;·exact .of_left (intBits_le_64 h1 h2)
 ·exact .of_right (intBits_le_64 h1 h2)
theorem y9(k:Nat):(0:Int)<=2^k:=by rw[two_pow_cast];exact Int.natCast_nonneg _
theorem Jy:eG X (RZ .Add) (xu λi j=>.int (i+j)):=Jx λ_ _ _ _ _ _ _ q=>add_int q
theorem JK:eG X (RZ .Sub) (xu λi j=>.int (i-j)):=Jx λ_ _ _ _ _ _ _ q=>sub_int q
theorem JE:eG X (RZ .Mult) (rI Ff λi j=>.int (i*j)):=Jw λ_ _ _ _ _ _ _ hc q=>mul_int q hc.ok
theorem Gp:eG X (RZ .Mod) (rI (λ_ j=>j≠0) λi j=>.int (i.fmod j)):=Jw λ_ _ _ _ _ _ _ hc q=>mod_int' hc q
theorem JG:eG X (RZ .Pow) (rI BS λi j=>.int (i^j.toNat)):=Jw λ_ _ _ _ _ _ _ hc q=>pow_int_small hc.1 hc.2.1 hc.2.2 q
theorem JI:eG X (RZ .LShift) (rI BS λi j=>.int (i*2^j.toNat)):=Jw λ_ _ _ _ _ _ _ hc q=>lshift_int_small hc.1 hc.2.1 hc.2.2 q
theorem JJ:eG X (RZ .RShift) (rI (λ_ j=>0<=j) λi j=>.int (i/2^j.toNat)):=Jw λi j _ _ _ _ _ hc q=>rshift_int hc (by rw[Int.fdiv_eq_ediv_of_nonneg i (y9 _)];exact q)
theorem Jz:eG X (RZ .BitAnd) (xu λi j=>.int (UV i j)):=Jx λ_ _ _ _ _ _ _ q=>and_int q
theorem N8{f:QP->Sem QP}{g:Int->Int}(rule:∀(i:Int) (t:Tok) (s:QS) (Q:QP->QS->Prop) (E:QP->QS->Prop),Q (.int (g i) s.toks) {s with toks:=s.toks+1}->QX (QY X.prog X.w) X.A (f (.int i t)) Q E s):MG X f (rU λi=>.int (g i)):=by intro pins s σ H x v Q I rx h;obtain⟨i,rfl,q⟩:=h;obtain⟨t,rfl⟩:=rx;exact rule i t s _ _ ⟨.int (g i),H,I.tok _,⟨_,rfl⟩,q⟩
theorem KH:MG X (unaryOp .USub) (rU λi=>.int (-i)):=N8 λ_ _ _ _ _ q=>neg_int q
end
section
variable{X:Cx}{a b c:QT}{ta tb tc:TE}{pos:Pos}
theorem LI:eG X (RI .Lt) (xu λi j=>.bl (decide (i<j))):=Gi λ_ _ _ _ _ _ _ q=>lt_int q
theorem LH:eG X (RI .LtE) (xu λi j=>.bl (decide (i<=j))):=Gi λ_ _ _ _ _ _ _ q=>le_int q
theorem LG:eG X (RI .Gt) (xu λi j=>.bl (decide (j<i))):=Gi λ_ _ _ _ _ _ _ q=>gt_int q
theorem LF:eG X (RI .GtE) (xu λi j=>.bl (decide (j<=i))):=Gi λ_ _ _ _ _ _ _ q=>ge_int q
theorem eG.or{f:QP->QP->Sem QP}{r r':R2}(h:eG X f r)(h':eG X f r'):eG X f (λx y H Q=>r x y H Q\/r' x y H Q):=by
 intro pins s σ H x y v u Q I rx ry q;rcases q with q|q;·exact h pins s σ H x y v u Q I rx ry q
 ·exact h' pins s σ H x y v u Q I rx ry q
theorem aZ(b:QT){op:CmpOp}(h:op≠.In:=by decide)(h2:op≠.NotIn:=by decide):Ur op b=false:=by
 have e1:(op==CmpOp.In)=false:=by cases op<;>first|rfl|exact absurd rfl h
 have e2:(op==CmpOp.NotIn)=false:=by cases op<;>first|rfl|exact absurd rfl h2
 cases b<;>simp[Ur,e1,e2]
theorem Gz{op:CmpOp}{r:R2}(ho:eG X (RI op) r)(ha:PE X a ta)(hb:PE X b tb)(hm:Ur op b=false):PE X (.Compare a [op] [b] pos) (Mq r ta tb):=by intro pins s σ H Q I h;exact wpAny_Compare1 (IL ha hb I h λv u s2 x y H2 I2 rx ry q=>ho pins s2 σ H2 x y v u Q I2 rx ry q) hm
def Iw(t:TE):TT:=λσ H Q=>t σ H λx H'=>∃k,x=.bl k/\Q k H'
theorem GO{op:CmpOp}{r:R2}(ho:eG X (RI op) r)(ha:PE X a ta)(hb:PE X b tb)(hm:Ur op b=false):PT X (.Compare a [op] [b] pos) (Iw (Mq r ta tb)):=by intro pins s σ H Q I h;refine wpAny_isTrue_Compare1 (bu (ha pins s σ H _ I h) λv s1⟨x,H1,I1,r1,q1⟩=>bu (hb pins s1 σ H1 _ I1 q1) λu s2⟨y,H2,I2,r2,q2⟩=>bu (ho pins s2 σ H2 x y v u _ I2 r1 r2 q2) λc s3⟨z,H3,I3,r3,k,e,q3⟩=>?_) hm;subst e;cases r3;exact Uc ⟨H3,I3,q3⟩
def yY(r r':R2)(ta tb tc:TE):TE:=λσ H Q=>ta σ H λx H1=>tb σ H1 λy H2=>r x y H2 λz H3=>∃k,z=.bl k/\(if k=true then tc σ H3 λw' H4=>r' y w' H4 Q else Q (.bl false) H3)
theorem Dl{op op':CmpOp}{r r':R2}(ho:eG X (RI op) r)(ho':eG X (RI op') r')(ha:PE X a ta)(hb:PE X b tb)(hc:PE X c tc)(hm:lastMarks [op,op'] [b,c]=false:=by with_unfolding_all rfl):PE X (.Compare a [op,op'] [b,c] pos) (yY r r' ta tb tc):=by intro pins s σ H Q I h;refine Compare_chain (bu (ha pins s σ H _ I h) λv s1⟨x,H1,I1,r1,q1⟩=>chain_link (bu (hb pins s1 σ H1 _ I1 q1) λu s2⟨y,H2,I2,r2,q2⟩=>bu (ho pins s2 σ H2 x y v u _ I2 r1 r2 q2) λd s3⟨z,H3,I3,r3,k,e,q3⟩=>?_)) hm;subst e;cases r3;refine Uc ?_;cases k with|false=>exact ite_ff ⟨.bl false,H3,I3,rfl,q3⟩|true=>exact ite_tt (chain_last (bu (hc pins s3 σ H3 _ I3 q3) λw' s4⟨z',H4,I4,r4,q4⟩=>ho' pins s4 σ H4 y z' u w' Q I4 r2 r4 q4))
theorem DK{op op':CmpOp}{r r':R2}(ho:eG X (RI op) r)(ho':eG X (RI op') r')(ha:PE X a ta)(hb:PE X b tb)(hc:PE X c tc)(hm:lastMarks [op,op'] [b,c]=false:=by with_unfolding_all rfl):PT X (.Compare a [op,op'] [b,c] pos) (Iw (yY r r' ta tb tc)):=by intro pins s σ H Q I h;refine isTrue_chain (bu (ha pins s σ H _ I h) λv s1⟨x,H1,I1,r1,q1⟩=>test_link (bu (hb pins s1 σ H1 _ I1 q1) λu s2⟨y,H2,I2,r2,q2⟩=>bu (ho pins s2 σ H2 x y v u _ I2 r1 r2 q2) λd s3⟨z,H3,I3,r3,k,e,q3⟩=>?_)) hm;subst e;cases r3;refine Uc ?_;cases k with|false=>obtain⟨k',e',q'⟩:=q3;cases e';exact ite_ff ⟨H3,I3,q'⟩|true=>refine ite_tt (test_last (bu (hc pins s3 σ H3 _ I3 q3) λw' s4⟨z',H4,I4,r4,q4⟩=>bu (ho' pins s4 σ H4 y z' u w' _ I4 r2 r4 q4) λd' s5⟨z2,H5,I5,r5,k2,e2,q5⟩=>?_));subst e2;cases r5;exact Uc ⟨H5,I5,q5⟩
theorem vD:(Rm:Nat)<2^63:=by rw[Se];decide
theorem uQ{x:V}{us:List QP}(r:aN [x] us):∃u,us=[u]/\aS x u:=by cases r with|cons r1 r2=>cases r2;exact⟨_,rfl,r1⟩
theorem IA{x y:V}{us:List QP}(r:aN [x,y] us):∃u w',us=[u,w']/\aS x u/\aS y w':=by cases r with|cons r1 r2=>cases r2 with|cons r3 r4=>cases r4;exact⟨_,_,rfl,r1,r3⟩
theorem Cd:du X (.builtin "abs") (λxs H Q=>∃i,xs=[.int i]/\Q (.int (if i<0 then-i else i)) H):=by intro pins s σ H xs us Q I r h;obtain⟨i,rfl,q⟩:=h;obtain⟨u,rfl,t,rfl⟩:=uQ r;exact call_abs_int λu tk=>⟨.int (if i<0 then-i else i),H,I.tok _,⟨_,rfl⟩,q⟩
theorem Az(hc:X.calm=true):du X (.builtin "max") (λxs H Q=>∃i j,xs=[.int i,.int j]/\Q (.int (if j>i then j else i)) H):=by
 intro pins s σ H xs us Q I r h;obtain⟨i,j,rfl,q⟩:=h;obtain⟨u,w',rfl,⟨t,rfl⟩,⟨t',rfl⟩⟩:=IA r;refine max_two_ints (I.ok.hd hc) λh' tk k=>⟨_,H,I.kept k,?_,q⟩;by_cases hj:j>i;·rw[if_pos hj,if_pos hj];exact⟨_,rfl⟩
 ·rw[if_neg hj,if_neg hj];exact⟨_,rfl⟩
theorem AB(hc:X.calm=true):du X (.builtin "min") (λxs H Q=>∃i j,xs=[.int i,.int j]/\Q (.int (if j<i then j else i)) H):=by
 intro pins s σ H xs us Q I r h;obtain⟨i,j,rfl,q⟩:=h;obtain⟨u,w',rfl,⟨t,rfl⟩,⟨t',rfl⟩⟩:=IA r;refine min_two_ints (I.ok.hd hc) λh' tk k=>⟨_,H,I.kept k,?_,q⟩;by_cases hj:j<i;·rw[if_pos hj,if_pos hj];exact⟨_,rfl⟩
 ·rw[if_neg hj,if_neg hj];exact⟨_,rfl⟩
theorem Ax:du X (.type "int") (λxs H Q=>(∃i,xs=[.int i]/\Q (.int i) H)\/∃k,xs=[.bl k]/\Q (.int (if k then 1 else 0)) H):=by
 intro pins s σ H xs us Q I r h;rcases h with⟨i,rfl,q⟩|⟨k,rfl,q⟩;·obtain⟨u,rfl,t,rfl⟩:=uQ r;exact call_int_int ⟨.int i,H,I,⟨_,rfl⟩,q⟩
 ·obtain⟨u,rfl,r1⟩:=uQ r;cases r1;exact call_int_bool ⟨.int (if k then 1 else 0),H,I.tok _,⟨_,rfl⟩,q⟩
end
section
variable{prog:QZ}{w:QW}{A:Rf}{E:QP->QS->Prop}{s:QS}{K:QU}{x dx C f:QQ}{mA:Str->Option QP}{name:Str}{v:QP}
end
theorem pE.some_of{v:V}{o:Option QP}(r:pE (some v) o):∃u,o=some u/\aS v u:=by cases o with|none=>exact(show False from r).elim|some u=>exact⟨u,rfl,r⟩
section
variable{P:QZ}{w:QW}{H H':Hp}{h h':Re}{a C dx:QQ}{fs fs':List (Str×V)}
end
section
variable{X:Cx}{pins:List (QQ×Obj)}{σ:St}{H:Hp}{s:QS}{a C dx:QQ}{fs:List (Str×V)}{f:Str}{v:V}{A:Rf}{E:QP->QS->Prop}
end
section
variable{X:Cx}{o e value:QT}{f:Str}{pos pos' tpos:Pos}{ta tv:TE}
end
section
variable{X:Cx}{pins:List (QQ×Obj)}{σ:St}{H:Hp}{s:QS}{A:Rf}{E:QP->QS->Prop}{Q:QP->QS->Prop}{c:QP}{b:Bool}
end
structure bE (k:Nat) (A:Rf):Prop where
 hd:A.handled=none
 dp:A.depth+3*k+5<recursionLimit
 un:A.units+16*k+200<Sa
 gd:A.guards=some []
theorem bE.mono{j k:Nat}{A:Rf}(r:bE k A)(h:j<=k):bE j A:=⟨r.hd,by have:=r.dp;lia,by have:=r.un;lia,r.gd⟩
theorem bE.deeper{k:Nat}{A:Rf}(r:bE (k+1) A)(env:Env):bE k (A.deeper env):=⟨r.hd,by have:=r.dp;show A.depth+1+3*k+5<_;lia,by have:=r.un;show A.units+3+16*k+200<_;lia,r.gd⟩
theorem bE.depth{k:Nat}{A:Rf}(r:bE k A):A.depth<recursionLimit:=by have:=r.dp;lia
theorem bE.units{k:Nat}{A:Rf}(r:bE k A):A.units+64<Sa:=by have:=r.un;lia
def EL:TA:=λ_ H Q=>Q [] H
def nX(ta:TE)(tr:TA):TA:=λσ H Q=>ta σ H λx H1=>tr σ H1 λxs H2=>Q (x::xs) H2
section
variable{X:Cx}{e:QT}{es:List QT}{te:TE}{t:TA}{pos:Pos}
theorem io:PA X [] EL:=λ_ _ _ _ H Q I h=>Calls.spliced_nil ⟨[],H,I,.nil,h⟩
theorem c_(ha:PE X e te)(hr:PA X es t)(hs:Rg (e::es) X.env=(false,Rj e X.env)::Rg es X.env:=by rfl):PA X (e::es) (nX te t):=by intro pos pins s σ H Q I h;rw[hs];show QX _ _ (spliced ((false,Rj e X.env)::RF pos (Rg es X.env))) _ _ s;refine Calls.spliced_cons (bu (ha pins s σ H _ I h) λu s1⟨x,H1,I1,r1,q1⟩=>?_);exact bu (hr pos pins s1 σ H1 _ I1 q1) λus s2⟨xs,H2,I2,r2,q2⟩=>⟨x::xs,H2,I2,.cons r1 r2,q2⟩
def Mt(t:TA):TE:=λσ H Q=>t σ H λxs H1=>xs.length<=Rm/\∀p,H1 p=none->Q (.ref p) (upd H1 p (.tup xs))
def Mo(t:TA):TE:=λσ H Q=>t σ H λxs H1=>xs.length<=Rm/\∀p,H1 p=none->Q (.ref p) (upd H1 p (.lst xs))
theorem Ds{x1}(h:PA X es t):PE X (.Tuple es x1 pos) (Mt t):=by intro pins s σ H Q I hq;refine wpAny_Tuple_spliced (bu (h pos pins s σ H _ I hq) λus s1⟨xs,H1,I1,r,z,q⟩=>⟨by rw[<-r.length];exact z,?_⟩);have hf:H1 ↑s1=none:=I1.hok.fresh (Ro _);refine⟨.ref ↑s1,upd H1 ↑s1 (.tup xs),I1.laid (t':=s1.toks) (λb u e=>RH _ e) (Ro _) ?_,rfl,q _ hf⟩;exact⟨z,us,r,⟨_,Sn _ rfl,rfl,_,rfl,rfl⟩⟩
theorem Do(h:PA X es t):PE X (.List es pos) (Mo t):=by intro pins s σ H Q I hq;refine wpAny_List_spliced (bu (h pos pins s σ H _ I hq) λus s1⟨xs,H1,I1,r,z,q⟩=>⟨by rw[<-r.length];exact z,?_⟩);have hf:H1 ↑s1=none:=I1.hok.fresh (Ro _);refine⟨.ref ↑s1,upd H1 ↑s1 (.lst xs),I1.laid (t':=s1.toks) (λb u e=>RH _ e) (Ro _) ?_,rfl,q _ hf⟩;exact⟨z,us,0,r,Sn _ rfl⟩
end
abbrev Sp:=List V->Hp->VK->XK->Prop
abbrev sO:=List Env->Hp->QS->XK->QP->QS->Prop
structure Fg (P:QZ) (w:QW) (K:QU) (mg:Str->Option QP) (base:Re) (A:Rf) (outer:List Env) (s:QS) (H:Hp):Prop where
 frames:A.frames=some outer
 mod:Mod K mg base
 bs:∀b o,base.get? b=some o->s.heap.get? b=some o/\H b=none
 bsz:base.objs.size<=↑s
 funs:s.heap.FunFrames base outer
 frf:∀b∈jo outer,H b=none
 hok:l7 P w H s.heap
 bare:Tp s.gens
def CE(outer:List Env)(P:QZ)(w:QW)(H:Hp)(s:QS)(Q:VK)(u:QP)(s':QS):Prop:=∃v H',s'.os=s.os/\Tp s'.gens/\Un (jo outer) [] H H' s.heap s'.heap/\l7 P w H' s'.heap/\aS v u/\Q v H'
def CR(CX:sO)(outer:List Env)(P:QZ)(w:QW)(H:Hp)(s:QS)(Q:VK)(E:XK)(r:Result)(s':QS):Prop:=match r with|.ok (.ret u)=>CE outer P w H s Q u s'|.ok _=>False|.error e=>CX outer H s E e s'
structure bg (P:QZ) (w:QW) (K:QU) (mg:Str->Option QP) (base:Re) (CX:sO) (k:Nat) (f:QQ) (fd:RJ) (ps:List Str) (sp:Sp):Prop where
 len:∀vs H Q E,sp vs H Q E->vs.length=ps.length
 run:∀(A:Rf) (outer:List Env) (s:QS) (H:Hp) (args:Args) (us:List QP) (vs:List V) (Q:VK) (E:XK),bE k A->Fg P w K mg base A outer s H->BindsTo s fd args (ps.zip us)->aN vs us->sp vs H Q E->SW (QY P w) A (.call (.ref f) args) (CR CX outer P w H s Q E) s
section
variable{X:Cx}{pins:List (QQ×Obj)}{σ:St}{H:Hp}{s s':QS}
theorem av.env0(I:av X pins σ H s):Fg X.prog X.w X.K X.mg X.base X.A X.stack s H:=⟨I.ok.frames,I.ok.mod,I.bs,RT I.ok.bsz I.sz,I.stack,I.stkFree,I.hok,I.bare⟩
theorem av.after{Q:VK}{u:QP}(I:av X pins σ H s)(h:CE X.stack X.prog X.w H s Q u s'):EP X pins σ Q u s':=by obtain⟨v,H',os,bare,un,hok,r,q⟩:=h;obtain⟨hh,g,d,t,os'⟩:=s';obtain rfl:os'=s.os:=os;exact⟨v,H',I.call (h':=hh) (g':=g) (d':=d) (t':=t) (ch:=[]) un hok bare (λb z=>absurd z ↥1),r,q⟩
end
def Ac(sp:Sp)(dvs:List V)(E:XK)(t:TA):TE:=λσ H Q=>t σ H λvs H1=>sp (vs++dvs) H1 Q E
def qa(K:QU)(fd:RJ)(ps:List Str)(ds:List QP):Prop:=∀(s:QS) (us:List QP),K.In s.heap->(us++ds).length=ps.length->BindsTo s fd ⟨us,[]⟩ (ps.zip (us++ds))
theorem qa.all{K:QU}{fd:RJ}{ps:List Str}(h:∀us:List QP,us.length=ps.length->bindArgs fd ⟨us,[]⟩=pure (ps.zip us)):qa K fd ps []:=λs us _ hl=>by rw[Sl]at hl⊢;exact .of_eq (h us hl)
def x5(CX:sO)(X:Cx)(E:XK):Prop:=∀(pins:List (QQ×Obj)) (σ:St) (H:Hp) (s:QS) (e:QP) (s':QS),av X pins σ H s->CX X.stack H s E e s'->X.xe e s'
section
variable{X:Cx}{CX:sO}{k:Nat}{f C:QQ}{fd:RJ}{ps:List Str}{sp:Sp}{dvs:List V}{ds:List QP}{E:XK}{x m:Str}{p pos apos:Pos}{e o:QT}{es:List QT}{ta:TE}{t:TA}
theorem Kk{pins:List (QQ×Obj)}{σ:St}{H:Hp}{s:QS}{Q:VK}{us:List QP}{vs:List V}(F:bg X.prog X.w X.K X.mg X.base CX k f fd ps sp)(hr:bE k X.A)(hb:qa X.K fd ps ds)(hd:aN dvs ds)(hx:x5 CX X E)(I:av X pins σ H s)(r:aN vs us)(h:sp (vs++dvs) H Q E):QX (QY X.prog X.w) X.A (call (.ref f) us) (EP X pins σ Q) X.xe s:=by
 have r2:aN (vs++dvs) (us++ds):=r.append hd;have hl:(us++ds).length=ps.length:=by rw[<-r2.length];exact F.len _ _ _ _ h
 refine wpAny_call (Vn (F.run X.A X.stack s H ⟨us,[]⟩ (us++ds) (vs++dvs) Q E hr I.env0 (hb s us I.kIn hl) r2 h) λr s' hq=>?_);cases r with|error e=>exact hx pins σ H s e s' I hq|ok fl=>cases fl with|ret u=>exact I.after hq|next=>exact Sj hq|brk=>exact Sj hq|cont=>exact Sj hq
theorem zM(F:bg X.prog X.w X.K X.mg X.base CX k f fd ps sp)(hr:bE k X.A)(hg:Gl X x)(hm:X.mg x=some (.ref f))(hk:UW X.K (.ref f)=true)(hb:qa X.K fd ps ds)(hd:aN dvs ds)(hx:x5 CX X E)(ha:PA X (e::es) t)(hdb:(x==("__debug__":Str))=false:=by decide)(he:Rg (e::es) X.env=(false,Rj e X.env)::Rg es X.env:=by rfl)(hpl:(RF pos (Rg es X.env)).any (·.1)=false:=by rfl):PE X (.Call (.Name x p) (e::es) [] pos) (Ac sp dvs E t):=by intro pins s σ H Q I h;refine UX (lJ I hg hm ?_ hdb);refine Wv (h₀:=X.base) I.ok.mod.kin hk (bu (ha pos pins s σ H _ I h) λus s1⟨vs,H1,I1,r,q⟩=>⟨I1.kIn,?_⟩) he hpl;exact Kk F hr hb hd hx I1 r q
end
section
variable{X:Cx}{CX:sO}{k:Nat}{f C:QQ}{fd:RJ}{ps ks:List Str}{sp:Sp}{E:XK}{x m:Str}{p pos apos kpos:Pos}{e o:QT}{es:List QT}{kws:List Sw}{te ta:TE}{t tk:TA}{nm:Option Str}
variable{g:List QP->List QP->List QP}{gV:List V->List V->List V}
end
structure aC (N P:List Str) (sc:Rt):Prop where
 kind:sc.kind=.function
 co:sc.isCoroutine=false
 gen:sc.isGenerator=false
 nd:N.Nodup
 pre:N.take P.length=P
 par:∀x∈P,sc.names.lookup x=some .local\/sc.names.lookup x=some .cell
 nofree:∀y∈sc.names,y.2≠.free
theorem tO{SX:Str->Option Sx}{x:Str}:∀{binds:List (Str×QP)}{m:Str->Option QP},(∀v,(x,v)∉binds)->bindL SX binds m x=m x
 |[],_,_=>rfl|(n,v)::r,m,h=>by
  unfold bindL;rw[tO λw hw=>h w (Td _ hw)];split
  ·have:x≠n:=by rintro rfl;exact h v Tz
   simp[this]
  ·rfl
theorem tM{SX:Str->Option Sx}{x:Str}:∀{binds:List (Str×QP)}{m:Str->Option QP},(∀v,(x,v)∉binds)->bindC SX binds m x=m x
 |[],_,_=>rfl|(n,v)::r,m,h=>by
  unfold bindC;rw[tM λw hw=>h w (Td _ hw)];split;·rfl
  ·have:x≠n:=by rintro rfl;exact h v Tz
   simp[this]
theorem tN{SX:Str->Option Sx}{x:Str}{v:QP}:∀{P:List Str}{vs:List QP}{i:Nat}{m:Str->Option QP},P.Nodup->P[i]?=some x->vs[i]?=some v->SX x=some .local->bindL SX (P.zip vs) m x=some v|[],_,_,_,_,h,_,_=>by simp at h|_::_,[],_,_,_,_,h,_=>by simp at h|p::P,w::vs,0,m,nd,h1,h2,hk=>by simp at h1 h2;subst h1;subst h2;show bindL SX ((p,w)::P.zip vs) m p=_;unfold bindL;rw[tO λv hv=>(Ue.mp nd).1 (VO hv).1,if_pos hk];simp|p::P,w::vs,i+1,m,nd,h1,h2,hk=>by show bindL SX ((p,w)::P.zip vs) m x=_;unfold bindL;exact tN (i:=i) (Ue.mp nd).2 (by simpa using h1) (by simpa using h2) hk
theorem tL{SX:Str->Option Sx}{x:Str}{v:QP}:∀{P:List Str}{vs:List QP}{i:Nat}{m:Str->Option QP},P.Nodup->P[i]?=some x->vs[i]?=some v->SX x≠some .local->bindC SX (P.zip vs) m x=some v|[],_,_,_,_,h,_,_=>by simp at h|_::_,[],_,_,_,_,h,_=>by simp at h|p::P,w::vs,0,m,nd,h1,h2,hk=>by simp at h1 h2;subst h1;subst h2;show bindC SX ((p,w)::P.zip vs) m p=_;unfold bindC;rw[tM λv hv=>(Ue.mp nd).1 (VO hv).1,if_neg hk];simp|p::P,w::vs,i+1,m,nd,h1,h2,hk=>by show bindC SX ((p,w)::P.zip vs) m x=_;unfold bindC;exact tL (i:=i) (Ue.mp nd).2 (by simpa using h1) (by simpa using h2) hk
def eA(N:List Str)(vs:List V):St:=vs.map some++Rk (N.length-vs.length) none
def eL(CX:sO)(P:QZ)(w:QW)(K:QU)(mg:Str->Option QP)(base:Re)(N:List Str)(qual:Str)(scope:Rt)(f:QQ)(cd:QP)(A:Rf)(outer:List Env)(s:QS)(H:Hp)(E:XK):Cx where prog:=P;w:=w;K:=K;mg:=mg;base:=base;A:=A.deeper (RB qual scope ↑s f cd);N:=N;s₀:=s;H₀:=H;env:=RB qual scope ↑s f cd;outer:=outer;stack:=RB qual scope ↑s f cd::outer;ex:=[];calm:=true;fn:=λ_=>true;pn:=[];xe:=λe s'=>QX (QY P w) (A.deeper (RB qual scope ↑s f cd)) (leaving (RB qual scope ↑s f cd) e) (λ_ s''=>CX outer H s E e s'') (λe' s''=>CX outer H s E e' s'') s'
theorem wx{sc:Rt}{n:Nat}{x:Str}(h:sc.names.lookup x=some .cell):∃c,(RO n sc.names []).lookup x=some c:=by have q:=PySem.W.cellsFrom_some sc.names n [] (.inl h);exact Ww.mp q
theorem AQ{CX:sO}{P:QZ}{w:QW}{K:QU}{mg:Str->Option QP}{base:Re}{N ps:List Str}{qual:Str}{scope:Rt}{f:QQ}{cd:QP}{A:Rf}{outer:List Env}{s s1:QS}{H:Hp}{E:XK}{us:List QP}{vs:List V}(S:aC N ps scope)(hd:A.handled=none)(e0:Fg P w K mg base A outer s H)(hl:vs.length=ps.length)(r:aN vs us)(x:InCallC s ↑s (bindL (RB qual scope ↑s f cd).kindOf (ps.zip us) λ_=>none) (RO (↑s+1) scope.names []) (bindC (RB qual scope ↑s f cd).kindOf (ps.zip us) λ_=>none) s1):av (eL CX P w K mg base N qual scope f cd A outer s H E) [] (eA N vs) H s1:=by
 have hpl:ps.length<=N.length:=by have:=congrArg List.length S.pre;rw[UY]at this;lia
 obtain⟨h1,tk,rfl,hk⟩:=x.done;have noA:∀b:QQ,b∉(eL CX P w K mg base N qual scope f cd A outer s H E).ex:=λb z=>absurd (show b∈([]:List QQ) from z) ↥1;refine⟨⟨e0.mod,S.kind,rfl,rfl,Ro _,λy z c h1 h2=>?_,λy hy=>?_,λy c _ h=>?_,λ_=>hd,Around.frames_deeper e0.frames,.inr ⟨rfl,rfl⟩,λb z=>absurd z (noA b),e0.bs,e0.bsz,λb _ _=>noA b,λb z=>absurd z (noA b),e0.funs,e0.frf⟩,rfl,e0.bare,Un.kept hk,⟨_,x.toInCall.ns,λi y v h1 h2 h3=>?_⟩,λy c h=>⟨_,x.cell y c h⟩,e0.hok.fresh (Ro _),λy c h=>?_,λp hp=>absurd (show p∈([]:List (QQ×Obj)) from hp) ↥1,e0.hok.kept hk,?_⟩;·exact name_of_addr x.apart (Vo h1) (Vo h2)
 ·have hy:scope.names.lookup y=some .cell\/scope.names.lookup y=some .free:=hy;rcases hy with hy|hy;·exact wx hy
  ·exact absurd rfl (S.nofree _ (Vo hy))
 ·exact Uy (x.above y c (Vo h))
 ·have hi:i<vs.length:=by
   unfold eA at h2;by_cases hi:i<vs.length;·exact hi
   ·rw[UZ (by simpa using hi)]at h2;rw[Wx]at h2;split at h2<;>cases h2
  have ha:vs[i]?=some v:=by unfold eA at h2;rw[SM (by simpa using hi),RK]at h2;cases e:vs[i]? with|none=>rw[e]at h2;cases h2|some a=>rw[e]at h2;cases h2;rfl
  obtain⟨u,hu,rv⟩:=r.get ha;have hp:ps[i]?=some y:=by rw[<-S.pre,List.getElem?_take_of_lt ↥0];exact h1
  have ndP:ps.Nodup:=by rw[<-S.pre];exact S.nd.sublist (List.take_sublist _ _)
  refine⟨u,rv,?_⟩;rcases S.par y (QO hp) with k|k;·exact .inl ⟨k,tN ndP hp hu k⟩
  ·obtain⟨c,e⟩:=wx (n:=↑s+1) k;refine .inr ⟨.inl k,c,e,?_⟩;have q:=x.cell y c e;rw[tL ndP hp hu (by show scope.names.lookup y≠_;rw[k];decide)]at q;exact q
 ·exact e0.hok.fresh (Uy (x.above y c (Vo h)))
 ·unfold eA;show _=N.length;rw[RW,Rq,Va];lia
theorem HU{CX:sO}{P:QZ}{w:QW}{K:QU}{mg:Str->Option QP}{base:Re}{k:Nat}{f:QQ}{name qual:Str}{params:Arguments}{body:List Rh}{scope:Rt}{dV kV doc pm cdv ct oc:QP}{an od:Option QQ}{osl:Array (Option QP)}{N ps:List Str}{sp:Sp}(lk:K.lookup f=some ⟨oc,od,.func (Tc name qual params body scope dV kV doc pm an cdv ct),osl⟩)(hcd:Vp K cdv qual=true)(S:aC N ps scope)(len:∀vs H Q E,sp vs H Q E->vs.length=ps.length)(hbody:∀(A:Rf) (outer:List Env) (s:QS) (H:Hp) (vs:List V) (Q:VK) (E:XK),bE k (A.deeper (RB qual scope ↑s f cdv))->sp vs H Q E->∃t,kc (eL CX P w K mg base N qual scope f cdv A outer s H E) body t/\t {nx:=λ_ H'=>Q .non H',rt:=Q} (eA N vs) H):bg P w K mg base CX (k+1) f (Tc name qual params body scope dV kV doc pm an cdv ct) ps sp:=by
 refine⟨len,λA outer s H args us vs Q E hr e0 hb r hsp=>?_⟩;have hl:=len _ _ _ _ hsp;have KX:K.In s.heap:=e0.mod.kin.keeps λb o e=>(e0.bs b o e).1;have lim:s.heap.NoLimit:=e0.mod.nolimit.keeps λb o e=>(e0.bs b o e).1;have hkind:∀y∈ps.zip us,scope.names.lookup y.1=some .local\/(scope.names.lookup y.1=some .cell/\((RO (↑s+1) scope.names []).lookup y.1).isSome=true):=λ⟨n,v⟩hy=>by
  rcases S.par n (VO hy).1 with q|q;·exact .inl q
  ·exact .inr ⟨q,PySem.W.cellsFrom_some _ _ _ (.inl q)⟩
 refine codeAny_call_function hr.depth (KX _ _ lk) rfl S.co S.gen rfl (PySem.W.codeRec_of KX hcd) (hb _ _ _ _ ?_);refine wpAny_newFunctionEnv_cells S.kind hkind λenv he s1 x=>?_;subst he;refine⟨lim.keeps x.toInCall.keep,codeAny_func ?_⟩;obtain⟨t,ht,hq⟩:=hbody A outer s H vs Q E (hr.deeper _) hsp;have I:av (eL CX P w K mg base N qual scope f cdv A outer s H E) [] (eA N vs) H s1:=AQ S hr.hd e0 hl r x;refine Rx (ht [] s1 (eA N vs) H _ I hq) (λfl s' hs=>?_) λe s' hs=>hs;have fin:∀{σ':St}{H':Hp}{v:V}{u:QP},av (eL CX P w K mg base N qual scope f cdv A outer s H E) [] σ' H' s'->aS v u->Q v H'->CE outer P w H s Q u s':=fun{σ' H' v u}J rv q=>⟨v,H',J.os,J.bare,J.base,J.hok,rv,q⟩;cases fl with|ret u=>obtain⟨v,σ',H',J,rv,q⟩:=hs;exact fin J rv q|next=>obtain⟨σ',H',J,q⟩:=hs;exact fin (v:=V.non) (u:=Value.none) J rfl q|brk=>obtain⟨_,_,_,q⟩:=hs;exact Sj q|cont=>obtain⟨_,_,_,q⟩:=hs;exact Sj q
section
variable{X:Cx}{x:Str}{p pos:Pos}{e:QT}{es:List QT}{t:TA}{id T:String}{r:List V->Hp->VK->Prop}
def Nv(r:List V->Hp->VK->Prop)(t:TA):TE:=λσ H Q=>t σ H λvs H1=>r vs H1 Q
theorem lb(hc:du X (.builtin id) r)(hg:Gl X x)(hm:X.mg x=none)(hv:SC x=some (.builtin id))(ha:PA X (e::es) t)(hn:x≠"__name__":=by decide)(hdb:(x==("__debug__":Str))=false:=by decide)(he:Rg (e::es) X.env=(false,Rj e X.env)::Rg es X.env:=by rfl)(hpl:(RF pos (Rg es X.env)).any (·.1)=false:=by rfl):PE X (.Call (.Name x p) (e::es) [] pos) (Nv r t):=by intro pins s σ H Q I h;refine UX (kZ I hg hm hv ?_ hn hdb);exact PyProof.Rows.callWith_builtin1 (bu (ha pos pins s σ H _ I h) λus s1⟨vs,H1,I1,r1,q1⟩=>hc pins s1 σ H1 vs us Q I1 r1 q1) he hpl
theorem Bk(hc:du X (.type T) r)(hg:Gl X x)(hm:X.mg x=none)(hv:SC x=some (.type T))(ha:PA X (e::es) t)(hn:x≠"__name__":=by decide)(hdb:(x==("__debug__":Str))=false:=by decide)(he:Rg (e::es) X.env=(false,Rj e X.env)::Rg es X.env:=by rfl)(hpl:(RF pos (Rg es X.env)).any (·.1)=false:=by rfl):PE X (.Call (.Name x p) (e::es) [] pos) (Nv r t):=by intro pins s σ H Q I h;refine UX (kZ I hg hm hv ?_ hn hdb);exact UU (bu (ha pos pins s σ H _ I h) λus s1⟨vs,H1,I1,r1,q1⟩=>hc pins s1 σ H1 vs us Q I1 r1 q1) he hpl
end
end L2
namespace HT
open PySem PyProof.Rows
section
open PySem.SeqAt
open PySem.AutoSeq1 (wpAny_loadPart')
open PySem.MeetsSeq PySem.MeetsSeq2 PySem.MeetsSeq3
end
section
variable{prog:QZ}{w:QW}{A:Rf}{E:QP->QS->Prop}{s:QS}
theorem cat_tup{t b:QQ}{vs ws:List QP}{Q:QP->QS->Prop}(ht:IsTup s.heap t vs.toArray)(hb:IsTup s.heap b ws.toArray)(hv:vs≠[])(h1:ws=[]->Q (.ref t) s)(h2:ws≠[]->Q (.ref ↑s) {s with heap:=s.heap.push {cls:=.type "tuple",data:=.seq (vs++ws).toArray}})(hsz:vs.length+ws.length<=Rm):QX (QY prog w) A (RZ .Add (.ref t) (.ref b)) Q E s:=by
 obtain⟨⟨cls,dd,data,sl⟩,ho,hc,n,hd⟩:=id ht;obtain⟨⟨cls2,dd2,data2,sl2⟩,ho2,hc2,n2,hd2⟩:=id hb;simp only at hc hd hc2 hd2;subst hc hd hc2 hd2;have e:vs.toArray++ws.toArray=(vs++ws).toArray:=by simp
 by_cases hw:ws=[];·exact concat_meets ⟨_,ho,rfl⟩ ⟨_,ho2,rfl⟩ noFill_tuple_add seq_tuple_add PySem.F.slot_tuple_add PySem.F.entry_tuple_add (PySem.F.args_tuple_add_2 _ _) (tuple_addW1 t b vs.toArray ws.toArray n n2 dd dd2 sl sl2 (by simpa using hv) (by simp[hw])) ⟨ho,ho2,h1 hw⟩
 ·refine concat_meets ⟨_,ho,rfl⟩ ⟨_,ho2,rfl⟩ noFill_tuple_add seq_tuple_add PySem.F.slot_tuple_add PySem.F.entry_tuple_add (PySem.F.args_tuple_add_2 _ _) (tuple_addW2 t b vs.toArray ws.toArray n n2 dd dd2 sl sl2 (by simpa using hv) (by simpa using hw) (by rw[Ry,Ry];exact hsz)) ⟨ho,ho2,?_⟩;rw[e];exact h2 hw
def sIx(n d:Nat):Option Int->Nat|none=>d|some v=>if v<0 then(v+(n:Int)).toNat else min v.toNat n
theorem sIx_none(n d:Nat):sIx n d none=d:=rfl
theorem sIx_nat(n d k:Nat):sIx n d (some (k:Int))=min k n:=by show(if (k:Int)<0 then((k:Int)+(n:Int)).toNat else min (k:Int).toNat n)=min k n;rw[if_neg ↥0,Ug]
theorem Kl(n d:Nat)(hd:d<=n)(o:Option Int):sIx n d o<=n:=by cases o with|none=>exact hd|some v=>
 show(if v<0 then(v+(n:Int)).toNat else min v.toNat n)<=n;by_cases hv:v<0;·rw[if_pos hv];lia
 ·rw[if_neg hv];exact Nat.min_le_right _ _
theorem zt(v:Int)(n d:Nat):(if v<0 then max (v+(n:Int)) 0 else min v (n:Int))=((sIx n d (some v):Nat):Int):=by
 show(if v<0 then max (v+(n:Int)) 0 else min v (n:Int))=(((if v<0 then(v+(n:Int)).toNat else min v.toNat n):Nat):Int);by_cases hv:v<0;·simp only[if_pos hv];lia
 ·simp only[if_neg hv];lia
theorem x8(lo hi:Option Int)(n:Nat):Wy lo hi 1 (n:Int)=(((sIx n 0 lo:Nat):Int),((sIx n n hi:Nat):Int)):=by
 have h1:¬((1:Int)<0):=by lia
 unfold Wy;simp only[h1,if_false];refine Prod.ext ?_ ?_;·cases lo with|none=>rfl|some v=>exact zt v n 0
 ·cases hi with|none=>rfl|some v=>exact zt v n n
theorem yM(i j:Nat):VP (i:Int) (j:Int) 1=j-i:=by
 unfold VP;have h1:(1:Int)>0:=by lia
 simp only[h1,if_true,Int.ediv_one];split<;>lia
theorem sC{v:QP}{o:Option Int}{Q:Option Int->QS->Prop}(p:IsPart v o)(h:Q o s):QX (QY prog w) A (Builtin.Slice.slicePartIndex v) Q E s:=by cases p with|none=>exact slicePart_none h|int i t=>exact slicePart_int h
theorem jG{sl:QQ}{vl vu:QP}{lo hi:Option Int}{n:Nat}{Q:Int×Int×Nat->QS->Prop}(hs:s.heap.IsSliceOf sl vl vu .none)(pl:IsPart vl lo)(pu:IsPart vu hi)(h:Q (((sIx n 0 lo:Nat):Int),1,sIx n n hi-sIx n 0 lo) s):QX (QY prog w) A (WL (.ref sl) (pure (n:Int))) Q E s:=by obtain⟨os,hos,hcs,hds⟩:=id hs;unfold WL Builtin.Slice.sliceFields;refine QV (QV (SG hos hds (x:=vl) rfl (QV (SG hos hds (x:=vu) rfl (QV (SG hos hds (x:=.none) rfl (Rl ?_)))))));refine QV (slicePart_none ?_);show QX _ _ (if ((1:Int)==0)=true then _ else _) _ _ s;rw[if_neg ⋯];refine QV (sC pl (QV (sC pu (QV (Rl ?_)))));show QX _ _ (match Wy lo hi 1 (n:Int) with|(lo,hi)=>pure (lo,(1:Int),VP lo hi 1)) _ _ s;rw[x8 lo hi n];show QX _ _ (pure (((sIx n 0 lo:Nat):Int),(1:Int),VP ((sIx n 0 lo:Nat):Int) ((sIx n n hi:Nat):Int) 1)) _ _ s;rw[yM];exact Rl h
theorem Dw(xs:Array QP)(i k:Nat):((To k).filterMap fun(m:Nat)=>xs[((i:Int)+(m:Int)*1).toNat]?).toArray=((xs.toList.drop i).take k).toArray:=by
 have e:(fun(m:Nat)=>xs[((i:Int)+(m:Int)*1).toNat]?)=λm=>xs[i+m]?:=by
  funext m;have:((i:Int)+(m:Int)*1).toNat=i+m:=by lia
  rw[this]
 rw[e];have:=pick_run xs i k;rw[List.filterMap_map]at this;have e2:((λx=>xs[x]?)∘λx=>i+x)=λm=>xs[i+m]?:=rfl;rw[e2]at this;rw[this]
theorem getItem_tuple_cut{t sl:QQ}{items:Array QP}{vl vu:QP}{lo hi:Option Int}{Q:QP->QS->Prop}(ht:IsTup s.heap t items)(hs:s.heap.IsSliceOf sl vl vu .none)(pl:IsPart vl lo)(pu:IsPart vu hi)(hw:¬(sIx items.size 0 lo=0/\sIx items.size items.size hi=items.size))(h:Q (.ref ↑s) {s with heap:=s.heap.push {cls:=.type "tuple",data:=.seq ((items.toList.drop (sIx items.size 0 lo)).take (sIx items.size items.size hi-sIx items.size 0 lo)).toArray}})(hsz:items.size<=Rm):QX (QY prog w) A (Tq (.ref t) (.ref sl)) Q E s:=by
 have htake:sizeOk (.seq ((items.toList.drop (sIx items.size 0 lo)).take (sIx items.size items.size hi-sIx items.size 0 lo)).toArray):=by show((items.toList.drop (sIx items.size 0 lo)).take (sIx items.size items.size hi-sIx items.size 0 lo)).toArray.size<=Rm;rw[Ry,UY,List.length_drop,VM];lia
 have hj:sIx items.size items.size hi<=items.size:=Kl _ _ (Ro _) hi;obtain⟨os,hos,hcs,hds⟩:=id hs;have hTs:s.TypeIs (.ref sl) "slice":=⟨os,hos,hcs⟩;unfold Tq;try with_reducible refine Up ?_
 first|refine QV (Rl ?_)|skip
 refine QV (wpAny_sequenceKey ht.typeIs ⋯ ?_);refine QV (UB (name:=RY "__getitem__") ht.typeIs UC (Uh UC ht.typeIs entry_tuple_getitem ?_ (args_tuple_getitem _ _)));show QX _ _ (WM (.ref t)>>=_) _ _ s;refine QV (tupleItemsOf_ ht ?_);refine QV (wpAny_typeOf hTs ?_);rw[if_pos ⋯];refine QV (jG hs pl pu ?_);have hno:¬((((sIx items.size 0 lo:Nat):Int)==0&&(1:Int)==1&&(sIx items.size items.size hi-sIx items.size 0 lo)==items.size)=true):=by intro q;rw[RE,RE]at q;have q1:((sIx items.size 0 lo:Nat):Int)=0:=eq_of_beq q.1.1;have q2:sIx items.size items.size hi-sIx items.size 0 lo=items.size:=eq_of_beq q.2;exact hw ⟨by lia,by lia⟩
 show QX _ _ (if (((sIx items.size 0 lo:Nat):Int)==0&&(1:Int)==1&&(sIx items.size items.size hi-sIx items.size 0 lo)==items.size)=true then _ else _) _ _ s;rw[if_neg hno,Dw];first|exact QV (m:=Vb _) (TF (Rl ⟨_,rfl,Rl h⟩) htake)|exact QV (m:=Vb _) (TF (QV (Rl (Rl ⟨_,rfl,Rl h⟩))) htake)|exact QV (QV (m:=Vb _) (TF (Rl (Rl ⟨_,rfl,Rl h⟩)) htake))|exact QV (QV (m:=Vb _) (TF (Rl ⟨_,rfl,Rl h⟩) htake))
end
end HT
namespace L2
open PySem PySem.Spec PyProof.Rows
abbrev TO:=St->Hp->(Option Int->Hp->Prop)->Prop
def PO(X:Cx)(e:Option QT)(t:TO):Prop:=∀(pins:List (QQ×Obj)) (s:QS) (σ:St) (H:Hp) (Q:Option Int->Hp->Prop),av X pins σ H s->t σ H Q->QX (QY X.prog X.w) X.A (evalPart e X.env) (λu s'=>∃o H',av X pins σ H' s'/\IsPart u o/\Q o H') X.xe s
def Hl:TO:=λ_ H Q=>Q none H
def Mr(t:TE):TO:=λσ H Q=>t σ H λx H1=>∃i,x=.int i/\Q (some i) H1
theorem yh{ns:List Int}:∀{us:List QP},aN (ns.map V.int) us->IntsAre us ns:=by induction ns with|nil=>intro us r;rw[RQ]at r;cases r;exact .nil|cons n ns ih=>intro us r;rw[Rn]at r;cases r with|cons r1 r2=>obtain⟨t,e⟩:=r1;subst e;exact .cons n t (ih r2)
section
variable{X:Cx}{e:QT}{te:TE}{lo hi:Option QT}{tl th:TO}{pos p2:Pos}
theorem GI:PO X none Hl:=by intro pins s σ H Q I h;rw[evalPart_none];exact Rl ⟨none,H,I,.none,h⟩
theorem GJ(h:PE X e te):PO X (some e) (Mr te):=by intro pins s σ H Q I hw;rw[evalPart_some];refine bu (h pins s σ H _ I hw) λu s1⟨x,H1,I1,r1,q1⟩=>?_;obtain⟨i,rfl,q⟩:=q1;obtain⟨t,rfl⟩:=r1;exact⟨some i,H1,I1,.int i t,q⟩
def Fj(X:Cx)(r:V->Option Int->Option Int->Hp->VK->Prop):Prop:=∀(pins:List (QQ×Obj)) (s:QS) (σ:St) (H:Hp) (x:V) (v vl vu:QP) (lo hi:Option Int) (sl:QQ) (Q:VK),av X pins σ H s->aS x v->s.heap.IsSliceOf sl vl vu .none->IsPart vl lo->IsPart vu hi->r x lo hi H Q->∃T id,typeLookup (.type T) "__getitem__"=pure (some (.builtin id))/\s.TypeIs v T/\QX (QY X.prog X.w) X.A (Tq v (.ref sl)) (EP X pins σ Q) X.xe s
theorem Fj.or{r r':V->Option Int->Option Int->Hp->VK->Prop}(h:Fj X r)(h':Fj X r'):Fj X (λx lo hi H Q=>r x lo hi H Q\/r' x lo hi H Q):=by
 intro pins s σ H x v vl vu lo hi sl Q I rx hs pl pu q;rcases q with q|q;·exact h pins s σ H x v vl vu lo hi sl Q I rx hs pl pu q
 ·exact h' pins s σ H x v vl vu lo hi sl Q I rx hs pl pu q
def N7(r:V->Option Int->Option Int->Hp->VK->Prop)(te:TE)(tl th:TO):TE:=λσ H Q=>te σ H λx H1=>tl σ H1 λl H2=>th σ H2 λu H3=>r x l u H3 Q
theorem Dr{r:V->Option Int->Option Int->Hp->VK->Prop}(hr:Fj X r)(he:PE X e te)(hl:PO X lo tl)(hu:PO X hi th):PE X (.Subscript e (.Slice lo hi none p2) pos) (N7 r te tl th):=by intro pins s σ H Q I h;refine Subscript_ (bu (he pins s σ H _ I h) λv s1⟨x,H1,I1,r1,q1⟩=>?_);refine wpAny_Slice (bu (hl pins s1 σ H1 _ I1 q1) λvl s2⟨l,H2,I2,pl,q2⟩=>bu (hu pins s2 σ H2 _ I2 q2) λvu s3⟨u,H3,I3,pu,q3⟩=>?_);rw[evalPart_none];refine Rl ?_;have I4:av X pins σ H3 {s3 with heap:=s3.heap.push {cls:=.type "slice",data:=.fields #[vl,vu,.none]}}:=I3.kept (t':=s3.toks) λb ob q=>RH _ q;obtain⟨T,id,hT,ht,hg⟩:=hr pins {s3 with heap:=s3.heap.push {cls:=.type "slice",data:=.fields #[vl,vu,.none]}} σ H3 x v vl vu l u ↑s3 Q I4 r1 (Heap.IsSliceOf.new ..) pl pu q3;show QX (QY X.prog X.w) X.A (subscriptTail e (.Slice lo hi none p2) v (.ref ↑s3)) (EP X pins σ Q) X.xe {s3 with heap:=s3.heap.push {cls:=.type "slice",data:=.fields #[vl,vu,.none]}};exact tail_any (ops:=[.ref ↑s3,v]) ht hT hg (by with_unfolding_all rfl)
def sS(xs:List V)(lo hi:Option Int):List V:=(xs.drop (HT.sIx xs.length 0 lo)).take (HT.sIx xs.length xs.length hi-HT.sIx xs.length 0 lo)
theorem oV(xs:List V)(lo hi:Option Int):(sS xs lo hi).length<=xs.length:=by unfold sS;rw[UY,List.length_drop];lia
def L8(K:QU):V->Option Int->Option Int->Hp->VK->Prop:=λx lo hi H Q=>∃a xs,x=.ref a/\dX K H a xs/\¬(HT.sIx xs.length 0 lo=0/\HT.sIx xs.length xs.length hi=xs.length)/\∀p,H p=none->Q (.ref p) (upd H p (.tup (sS xs lo hi)))
theorem Ks:Fj X (L8 X.K):=by
 intro pins s σ H x v vl vu lo hi sl Q I rx hs pl pu h;obtain⟨a,xs,rfl,hx,hw,q⟩:=h;cases rx;obtain⟨its,r,ht,hz⟩:=I.tuple hx;have hlen:its.toArray.size=xs.length:=by rw[Ry];exact r.length.symm
 refine⟨"tuple",_,UC.lookup,ht.typeIs,?_⟩;refine HT.getItem_tuple_cut ht hs pl pu (by rw[hlen];exact hw) ?_ (by rw[hlen];exact hz);rw[hlen];refine⟨.ref ↑s,_,I.laid (t':=s.toks) (o:=.tup (sS xs lo hi)) (λb ob q=>RH _ q) (Ro _) ?_,rfl,q _ (I.hok.fresh (Ro _))⟩;exact⟨RT (oV xs lo hi) hz,_,(r.drop (HT.sIx xs.length 0 lo)).take (HT.sIx xs.length xs.length hi-HT.sIx xs.length 0 lo),qe.new _ _⟩
def LY(K:QU):R2:=λx y H Q=>∃a b xs ys,x=.ref a/\y=.ref b/\dX K H a xs/\dX K H b ys/\xs≠[]/\xs.length+ys.length<=Rm/\(ys=[]->Q (.ref a) H)/\(ys≠[]->∀p,H p=none->Q (.ref p) (upd H p (.tup (xs++ys))))
theorem aN.nil_iff{xs:List V}{us:List QP}(r:aN xs us):us=[]↔xs=[]:=by cases r with|nil=>simp|cons _ _=>simp
theorem Gm:eG X (RZ .Add) (LY X.K):=by intro pins s σ H x y v u Q I rx ry h;obtain⟨a,b,xs,ys,rfl,rfl,ha,hb,hx,hz,q1,q2⟩:=h;cases rx;cases ry;obtain⟨its,r1,p1,_⟩:=I.tuple ha;obtain⟨its2,r2,p2,_⟩:=I.tuple hb;refine HT.cat_tup p1 p2 (λz=>hx (r1.nil_iff.mp z)) (λz=>⟨.ref a,H,I,rfl,q1 (r2.nil_iff.mp z)⟩) (λz=>?_) (by rw[<-r1.length,<-r2.length];exact hz);refine⟨.ref ↑s,_,I.laid (t':=s.toks) (o:=.tup (xs++ys)) (λb ob q=>RH _ q) (Ro _) ?_,rfl,q2 (λw=>z (r2.nil_iff.mpr w)) _ (I.hok.fresh (Ro _))⟩;exact⟨by rw[RW];exact hz,_,r1.append r2,qe.new _ _⟩
end
def yk(n:Nat)(i:Int):Option Nat:=if 0<=i then(if i<n then some i.toNat else none) else if-(n:Int)<=i then some (i+n).toNat else none
def atI{α:Type}(xs:List α)(i:Int):Option α:=(yk xs.length i).bind λj=>xs[j]?
theorem zG{n:Nat}{i:Int}{j:Nat}(h:yk n i=some j):seqIndex? i n=some j/\j<n/\-(n:Int)<=i/\i<n:=by
 unfold yk at h;by_cases h0:0<=i
 ·rw[if_pos h0]at h;by_cases h1:i<n;·rw[if_pos h1]at h;have e:i.toNat=j:=RG h;exact⟨by rw[seqIndex_of h0 h1,e],by lia,by lia,h1⟩
  ·rw[if_neg h1]at h;cases h
 ·rw[if_neg h0]at h;by_cases h1:-(n:Int)<=i;·rw[if_pos h1]at h;have e:(i+n).toNat=j:=RG h;exact⟨by rw[seqIndex_neg ↥0 h1,e],by lia,h1,by lia⟩
  ·rw[if_neg h1]at h;cases h
theorem zi{α:Type}{xs:List α}{i:Int}{v:α}(h:atI xs i=some v):∃j,seqIndex? i xs.length=some j/\xs[j]?=some v/\j<xs.length/\-(xs.length:Int)<=i/\i<xs.length:=by unfold atI at h;cases e:yk xs.length i with|none=>rw[e]at h;cases h|some j=>rw[e]at h;obtain⟨h1,h2,h3,h4⟩:=zG e;exact⟨j,h1,h,h2,h3,h4⟩
def pN(b:QT):Prop:=∀o i,subscripted b false o i=operate [o,i] (Tq o i)
def E2(X:Cx)(r:R2):Prop:=∀(value slice:QT) (pins:List (QQ×Obj)) (s:QS) (σ:St) (H:Hp) (x y:V) (v u:QP) (Q:VK),av X pins σ H s->aS x v->aS y u->r x y H Q->subscripted slice false v u=operate [v,u] (Tq v u)->QX (QY X.prog X.w) X.A (subscriptTail value slice v u) (EP X pins σ Q) X.xe s
def ME(X:Cx)(id:String)(r:V->List V->Hp->VK->Prop):Prop:=∀(pins:List (QQ×Obj)) (s:QS) (σ:St) (H:Hp) (x:V) (xs:List V) (v:QP) (us:List QP) (Q:VK),av X pins σ H s->aS x v->aN xs us->r x xs H Q->QX (QY X.prog X.w) X.A (call (.builtin id) (v::us)) (EP X pins σ Q) X.xe s
section
variable{X:Cx}{a b:QT}{ta tb:TE}{pos:Pos}
theorem E2.or{r r':R2}(h:E2 X r)(h':E2 X r'):E2 X (λx y H Q=>r x y H Q\/r' x y H Q):=by
 intro value slice pins s σ H x y v u Q I rx ry q hs;rcases q with q|q;·exact h value slice pins s σ H x y v u Q I rx ry q hs
 ·exact h' value slice pins s σ H x y v u Q I rx ry q hs
theorem Ic{r:R2}(hr:E2 X r)(ha:PE X a ta)(hb:PE X b tb)(hs:pN b):PE X (.Subscript a b pos) (Mq r ta tb):=by intro pins s σ H Q I h;exact Subscript_ (IL ha hb I h λv u s2 x y H2 I2 rx ry q=>hr a b pins s2 σ H2 x y v u Q I2 rx ry q (hs _ _))
def Kc(K:QU):R2:=λx y H Q=>∃p xs i v,x=.ref p/\y=.int i/\i6 K H p xs/\atI xs i=some v/\Q v H
def L4(K:QU):R2:=λx y H Q=>∃p xs i v,x=.ref p/\y=.int i/\dX K H p xs/\atI xs i=some v/\Q v H
theorem zH:E2 X (Kc X.K):=by
 intro value slice pins s σ H x y v u Q I rx ry h hs;obtain⟨p,xs,i,z,rfl,rfl,hq,he,q⟩:=h;cases rx;obtain⟨t,rfl⟩:=ry;obtain⟨its,r,pl,hz⟩:=I.list hq;obtain⟨j,h1,h2,h3,h4,h5⟩:=zi he;obtain⟨w,ew,rw'⟩:=r.get h2;have hl:=r.length;have hn:=vD;have fin:EP X pins σ Q w s:=⟨z,H,I,rw',q⟩;by_cases h0:0<=i
 ·have hj:i.toNat=j:=by rw[seqIndex_of h0 h5]at h1;exact RG h1
  exact item_listR pl.isList h0 ↥0 (by rw[hj];simpa using ew) fin hs
 ·have hj:(i+(its.toArray.size:Int)).toNat=j:=by rw[seqIndex_neg ↥0 h4]at h1;rw[Ry,<-hl];exact RG h1
  exact subscriptTail_builtinR (x:=w) pl.isList.typeIs slot_list_getitem.lookup (wpAny_getItem_list_neg (Q:=λr s'=>r=w/\EP X pins σ Q r s') pl.isList ↥0 (by rw[Ry]<;>lia) ↥0 (by rw[hj];simpa using ew) ⟨rfl,fin⟩) hs
theorem I0:E2 X (L4 X.K):=by intro value slice pins s σ H x y v u Q I rx ry h hs;obtain⟨p,xs,i,z,rfl,rfl,hq,he,q⟩:=h;cases rx;obtain⟨t,rfl⟩:=ry;obtain⟨its,r,pl,hz⟩:=I.tuple hq;obtain⟨j,h1,h2,h3,h4,h5⟩:=zi he;obtain⟨w,ew,rw'⟩:=r.get h2;have hl:=r.length;have hn:=vD;have fin:EP X pins σ Q w s:=⟨z,H,I,rw',q⟩;exact subscriptTail_builtinR (x:=w) pl.typeIs UC.lookup (getItem_tuple (j:=j) (Q:=λr s'=>r=w/\EP X pins σ Q r s') pl ↥0 ↥0 (by rw[Ry,<-hl];exact h1) (by simpa using ew) ⟨rfl,fin⟩) hs
theorem yz(its:List QP)(n j:Nat)(u:QP):TH (·.setIfInBounds j u) {cls:=.type "list",data:=.seq its.toArray n}={cls:=.type "list",data:=.seq (its.set j u).toArray n}:=by simp[TH]
theorem av.lst{pins:List (QQ×Obj)}{σ:St}{H:Hp}{s:QS}{p:QQ}{xs:List V}(I:av X pins σ H s)(h:H p=some (.lst xs)):∃(its:List QP) (n:Nat),aN xs its/\s.heap.get? p=some {cls:=.type "list",data:=.seq its.toArray n}/\xs.length<=Rm:=by obtain⟨z,its,n,r,e⟩:=I.hok p _ h;exact⟨its,n,r,e,z⟩
theorem av.lstUpd{pins:List (QQ×Obj)}{σ:St}{H:Hp}{s:QS}{p:QQ}{xs ys:List V}{its its':List QP}{n n':Nat}{f:Obj->Obj}(I:av X pins σ H s)(h:H p=some (.lst xs))(ho:s.heap.get? p=some {cls:=.type "list",data:=.seq its.toArray n})(hf:f {cls:=.type "list",data:=.seq its.toArray n}={cls:=.type "list",data:=.seq its'.toArray n'})(r:aN ys its')(hz:ys.length<=Rm)(t:Nat):av X pins σ (upd H p (.lst ys)) {s with heap:=s.heap.update p f,toks:=t}:=by
 have e:(s.heap.update p f).get? p=some {cls:=.type "list",data:=.seq its'.toArray n'}:=by rw[Heap.get?_update_self f ho (by rw[hf]<;>rfl),hf]
 refine I.write (x:=p) (e:=p) (by rw[h];trivial) (.inl rfl) (λb u hb q=>(Heap.get?_update_other _ _ (Rz hb)).trans q) ⟨_,e⟩ ?_;exact⟨hz,its',n',r,e⟩
def L6:V->V->V->Hp->(Hp->Prop)->Prop:=λo i v H Q=>∃p xs k j,o=.ref p/\i=.int k/\H p=some (.lst xs)/\yk xs.length k=some j/\Q (upd H p (.lst (xs.set j v)))
theorem xH:K1 X L6:=by
 intro pins s σ H o i v ov iv u Q I ro ri rv h;obtain⟨p,xs,k,j,rfl,rfl,hp,hj,q⟩:=h;cases ro;obtain⟨t,rfl⟩:=ri;obtain⟨its,n,r,ho,hz⟩:=I.lst hp;obtain⟨h1,h2,h3,h4⟩:=zG hj;have hl:=r.length;have hn:=vD;have I':av X pins σ (upd H p (.lst (xs.set j v))) {s with heap:=s.heap.update p (TH (·.setIfInBounds j u))}:=I.lstUpd hp ho (yz its n j u) (r.set rv j) (by rw[Sy];exact hz) s.toks;by_cases h0:0<=k
 ·have hk:k.toNat=j:=by rw[seqIndex_of h0 h4]at h1;exact RG h1
  exact PySem.W.ki_setAt ho h0 ↥0 (by rw[Ry,<-hl];exact h4) (by rw[hk];exact⟨_,I',q⟩)
 ·have hk:(k+(its.toArray.size:Int)).toNat=j:=by rw[seqIndex_neg ↥0 h3]at h1;rw[Ry,<-hl];exact RG h1
  exact PySem.W.ki_setBack ho ↥0 (by rw[Ry,<-hl];exact h3) ↥0 (by rw[hk];exact⟨_,I',q⟩)
theorem vS(lo hi:Option Int)(n:Nat):(UD lo hi none n).1=((HT.sIx n 0 lo:Nat):Int)/\(UD lo hi none n).2.1=((HT.sIx n n hi:Nat):Int)/\(UD lo hi none n).2.2=1:=by
 refine⟨?_,?_,rfl⟩;·cases lo with|none=>simp[UD,HT.sIx]|some i=>
  simp only[UD,HT.sIx,Option.getD_none,show(1:Int)>0 by decide,if_true];by_cases h:i<0;·simp only[h,if_true]<;>lia
  ·simp only[h,if_false]<;>lia
 ·cases hi with|none=>simp[UD,HT.sIx]|some i=>
  simp only[UD,HT.sIx,Option.getD_none,show(1:Int)>0 by decide,if_true];by_cases h:i<0;·simp only[h,if_true]<;>lia
  ·simp only[h,if_false]<;>lia
theorem sZ(its:List QP)(lo hi:Option Int):slicePick its.toArray lo hi none=((its.drop (HT.sIx its.length 0 lo)).take (HT.sIx its.length its.length hi-HT.sIx its.length 0 lo)).toArray:=by obtain⟨h1,h2,h3⟩:=vS lo hi its.toArray.size;unfold slicePick;rw[h1,h2,h3];simp only[sliceRange_one,pick_run,Ry]<;>rfl
def L7(K:QU):V->Option Int->Option Int->Hp->VK->Prop:=λx lo hi H Q=>∃a xs,x=.ref a/\i6 K H a xs/\∀p,H p=none->Q (.ref p) (upd H p (.lst (sS xs lo hi)))
theorem Hd:Fj X (L7 X.K):=by intro pins s σ H x v vl vu lo hi sl Q I rx hs pl pu h;obtain⟨a,xs,rfl,hx,q⟩:=h;cases rx;obtain⟨its,r,ht,hz⟩:=I.list hx;have hlen:=r.length;refine⟨"list",_,slot_list_getitem.lookup,ht.isList.typeIs,?_⟩;refine wpAny_getItem_list_slice ht.isList hs pl pu .none ↥1 ?_ (by rw[Ry]<;>lia);rw[sZ,<-hlen];refine⟨.ref ↑s,_,I.laid (t':=s.toks) (o:=.lst (sS xs lo hi)) (λb ob q=>RH _ q) (Ro _) ?_,rfl,q _ (I.hok.fresh (Ro _))⟩;exact⟨RT (oV xs lo hi) hz,_,0,(r.drop (HT.sIx xs.length 0 lo)).take (HT.sIx xs.length xs.length hi-HT.sIx xs.length 0 lo),Sn _ rfl⟩
theorem mR:du X (.builtin "len") (λxs H Q=>∃p ys,xs=[.ref p]/\(i6 X.K H p ys\/dX X.K H p ys)/\Q (.int ys.length) H):=by
 intro pins s σ H xs us Q I r h;obtain⟨p,ys,rfl,hq,q⟩:=h;obtain⟨u,rfl,rx⟩:=uQ r;cases rx;have hn:=vD;rcases hq with hq|hq;·obtain⟨its,r',pl,hz⟩:=I.list hq;have hlen:=r'.length;exact Calls.call_len_list pl.isList (by simp only[Ry]<;>lia) ⟨.int ys.length,H,I.tok _,⟨s.toks+1,by rw[Ry,hlen]⟩,q⟩
 ·obtain⟨its,r',pl,hz⟩:=I.tuple hq;have hlen:=r'.length;exact len_tuple pl (by simp only[Ry]<;>lia) ⟨.int ys.length,H,I.tok _,⟨s.toks+1,by rw[Ry,hlen]⟩,q⟩
theorem uW:du X (.type "list") (λxs H Q=>∃p ys,xs=[.ref p]/\(i6 X.K H p ys\/dX X.K H p ys)/\∀l,H l=none->Q (.ref l) (upd H l (.lst ys))):=by
 intro pins s σ H xs us Q I r h;obtain⟨p,ys,rfl,hq,q⟩:=h;obtain⟨u,rfl,rx⟩:=uQ r;cases rx;have fin:∀(its:List QP),aN ys its->ys.length<=Rm->∀(h':Re) (c':Nat),(∀b o',s.heap.get? b=some o'->h'.get? b=some o')->h'.get? ↑s=some {cls:=.type "list",dict:=none,data:=.seq its.toArray c',slots:=#[]}->EP X pins σ Q (.ref ↑s) {s with heap:=h'}:=λits r' hz h' c' kp e=>⟨.ref ↑s,_,I.laid (t':=s.toks) kp (Ro _) (show bv X.prog X.w _ h' _ (.lst ys) from⟨hz,its,c',r',e⟩),rfl,q _ (I.hok.fresh (Ro _))⟩;rcases hq with hq|hq;·obtain⟨its,r',pl,hz⟩:=I.list hq;have hlen:=r'.length;obtain⟨o,ho,hc,n,hd⟩:=pl.isList;exact call_list_seq p (.inl rfl) ho hc hd (λh' c' kp e=>fin its r' hz h' c' kp e) (by simp only[Ry]<;>lia)
 ·obtain⟨its,r',pl,hz⟩:=I.tuple hq;have hlen:=r'.length;obtain⟨o,ho,hc,n,hd⟩:=pl;exact call_list_seq p (.inr rfl) ho hc hd (λh' c' kp e=>fin its r' hz h' c' kp e) (by simp only[Ry]<;>lia)
theorem sR:du X (.type "tuple") (λxs H Q=>∃p ys,xs=[.ref p]/\((i6 X.K H p ys/\∀l,H l=none->Q (.ref l) (upd H l (.tup ys)))\/(dX X.K H p ys/\Q (.ref p) H))):=by
 intro pins s σ H xs us Q I r h;obtain⟨p,ys,rfl,h⟩:=h;obtain⟨u,rfl,rx⟩:=uQ r;cases rx;rcases h with⟨hq,q⟩|⟨hq,q⟩;·obtain⟨its,r',pl,hz⟩:=I.list hq;have hlen:=r'.length;refine call_tuple_list pl.isList (λh' kp=>?_) (by simp only[Ry]<;>lia);have I1:av X pins σ H {s with heap:=h'}:=I.kept (t':=s.toks) kp;have I2:av X pins σ (upd H h'.objs.size (.tup ys)) {s with heap:=h'.push {cls:=.type "tuple",data:=.seq its.toArray}}:=I1.laid (t':=s.toks) (λb o e=>RH _ e) (Ro _) (show bv X.prog X.w _ _ _ (.tup ys) from⟨hz,its,r',qe.new _ _⟩);exact⟨.ref h'.objs.size,_,I2,rfl,q _ (I1.hok.fresh (Ro _))⟩
 ·obtain⟨its,r',pl,hz⟩:=I.tuple hq;exact call_tuple_same pl ⟨.ref p,H,I,rfl,q⟩
def NA(K:QU)(T:String)(x:V)(H:Hp):Prop:=match x with|.str _=>T="str"|.int _=>T="int"|.ref p=>(T="list"/\∃xs,i6 K H p xs)\/(T="tuple"/\∃o,K.lookup p=some o/\o.cls=.type "tuple"/\o.dict=none)\/(T="dict"/\((∃kvs,H p=some (.dK kvs))\/∃kvs,H p=some (.dT kvs)))\/(T="set"/\∃S n,H p=some (.set S n))|_=>False
theorem EU{pins:List (QQ×Obj)}{σ:St}{H:Hp}{s:QS}{T:String}{x:V}{v:QP}(I:av X pins σ H s)(r:aS x v)(ty:NA X.K T x H):
 s.TypeIs v T/\∀a,v=.ref a->∃ob,s.heap.get? a=some ob/\ob.dict=none:=by cases x with|str z=>obtain⟨t,rfl⟩:=r;cases (show T="str"from ty);exact⟨typeIs_str s z t,λ_ e=>nomatch e⟩|int i=>obtain⟨t,rfl⟩:=r;cases (show T="int"from ty);exact⟨Vq s i t,λ_ e=>nomatch e⟩|ref p=>
  cases r;rcases ty with⟨rfl,xs,hq⟩|⟨rfl,o,hk,hc,hd⟩|⟨rfl,hk⟩|⟨rfl,S,n,hk⟩;·obtain⟨its,_,pl,_⟩:=I.list hq;refine⟨pl.isList.typeIs,λa e=>?_⟩;cases e;obtain⟨o,n,e,c,hd,_⟩:=pl;exact⟨o,e,hd⟩
  ·refine⟨⟨o,I.kIn p o hk,hc⟩,λa e=>?_⟩;cases e;exact⟨o,I.kIn _ o hk,hd⟩
  ·have z:∃o,s.heap.get? p=some o/\o.ExactDict:=by
    rcases hk with⟨kvs,hk⟩|⟨kvs,hk⟩;·obtain⟨_,_,_,_,o,_,_,e,ex,_⟩:=I.hok p _ hk;exact⟨o,e,ex⟩
    ·obtain⟨_,_,_,_,o,_,_,e,ex,_⟩:=I.hok p _ hk;exact⟨o,e,ex⟩
   obtain⟨o,e,ex⟩:=z;refine⟨⟨o,e,ex.1⟩,λa e2=>?_⟩;cases e2;exact⟨o,e,ex.2.1⟩
  ·obtain⟨o,_,_,_,e,ex,_⟩:=I.hok p _ hk;refine⟨⟨o,e,ex.1⟩,λa e2=>?_⟩;cases e2;exact⟨o,e,ex.2.1⟩|_=>exact Sj ty
def Nu(K:QU)(T:String)(r:V->List V->Hp->VK->Prop)(to:TE):TE:=λσ H Q=>to σ H λx H1=>NA K T x H1/\r x [] H1 Q
def NP(K:QU)(T:String)(r:V->List V->Hp->VK->Prop)(to:TE)(t:TA):TE:=λσ H Q=>to σ H λx H1=>NA K T x H1/\t σ H1 λxs H2=>r x xs H2 Q
variable{o e:QT}{es:List QT}{to:TE}{t:TA}{name:Str}{apos cpos:Pos}{T id:String}{r:V->List V->Hp->VK->Prop}
theorem JM(pa:PlainAttrs T)(slot:Slot T name id)(hty:typeOf (.builtin id)=pure (.type "method_descriptor"))(hm:ME X id r)(ho:PE X o to)(hbase:TJ o name X.env (Rj o X.env)=Rj o X.env:=by rfl)(hline:(apos.endLine==cpos.line)=true:=by rfl):PE X (.Call (.Attribute o name apos) [] [] cpos) (Nu X.K T r to):=by intro pins s σ H Q I h;refine wpAny_Call_method0_late hbase hline (bu (ho pins s σ H _ I h) λv s1⟨x,H1,I1,r1,ty,q1⟩=>?_);obtain⟨h1,h2⟩:=EU I1 r1 ty;exact⟨T,id,pa,slot,hty,h1,h2,Calls.callWith_builtin rfl (PySem.evalArgs_none (hm pins s1 σ H1 x [] v [] Q I1 r1 .nil q1))⟩
theorem Dk(pa:PlainAttrs T)(slot:Slot T name id)(hty:typeOf (.builtin id)=pure (.type "method_descriptor"))(hm:ME X id r)(ho:PE X o to)(ha:PA X (e::es) t)(hbase:TJ o name X.env (Rj o X.env)=Rj o X.env:=by rfl)(hfew:((RF cpos (Rg (e::es) X.env)).all (λx=>!x.1)&&(backToKw cpos (UE [] X.env)).all (λx=>x.1.isSome)&&decide ((e::es).length+([]:List Sw).length+(if ([]:List Sw).isEmpty then 0 else 1)<30))=true:=by rfl)(hline:(apos.endLine==cpos.line)=true:=by rfl)(hs:Rg (e::es) X.env=(false,Rj e X.env)::Rg es X.env:=by rfl)(hplain:(RF cpos (Rg es X.env)).any (·.1)=false:=by rfl):PE X (.Call (.Attribute o name apos) (e::es) [] cpos) (NP X.K T r to t):=by intro pins s σ H Q I h;refine wpAny_Call_method_late hbase hfew hline rfl (bu (ho pins s σ H _ I h) λv s1⟨x,H1,I1,r1,ty,q1⟩=>?_);obtain⟨h1,h2⟩:=EU I1 r1 ty;refine⟨T,id,pa,slot,hty,h1,h2,?_⟩;have hA:=ha cpos pins s1 σ H1 _ I1 q1;rw[hs]at hA⊢;refine Calls.callWith_builtin (by show(false||(RF cpos (Rg es X.env)).any (·.1))=false;rw[hplain]<;>rfl) (Calls.evalArgs_plain ?_);exact bu hA λus s2⟨vs,H2,I2,r2,q2⟩=>hm pins s2 σ H2 x vs v us Q I2 r1 r2 q2
end
def MD(X:Cx)(id:String)(r:V->List V->Hp->VK->Prop):Prop:=∀(pins:List (QQ×Obj)) (s:QS) (σ:St) (H:Hp) (x:V) (xs:List V) (v:QP) (us:List QP) (Q:VK),av X pins σ H s->aS x v->aN xs us->r x xs H Q->QX (QY X.prog X.w) X.A (call (.builtin id) (v::us)) (EP X pins σ Q) X.xe s
theorem aN.one:∀{x:V}{us:List QP},aN [x] us->∃u,us=[u]/\aS x u|_,_,.cons r .nil=>⟨_,rfl,r⟩
theorem aN.zero:∀{us:List QP},aN [] us->us=[]|_,.nil=>rfl
theorem aN.dropLast{xs:List V}{us:List QP}(h:aN xs us):aN xs.dropLast us.dropLast:=by induction h with|nil=>exact .nil|cons r t ih=>cases t with|nil=>exact .nil|cons q t'=>exact .cons r ih
theorem aN.eraseIdx:∀{xs:List V}{us:List QP}(i:Nat),aN xs us->aN (xs.eraseIdx i) (us.eraseIdx i)|_,_,_,.nil=>.nil|_,_,0,.cons _ t=>t|_,_,i+1,.cons r t=>.cons r (aN.eraseIdx i t)
theorem aN.rep{xs:List V}{us:List QP}(h:aN xs us):∀k:Nat,aN (Rk k xs).flatten (Rk k us).flatten|0=>.nil|k+1=>by rw[Ui,Ui,Vr,Vr];exact aN.append h (aN.rep h k)
theorem yg{α:Type}(l:List α):l.eraseIdx (l.length-1)=l.dropLast:=by induction l with|nil=>rfl|cons a r ih=>cases r with|nil=>rfl|cons b r=>
 have e:(a::b::r).length-1=((b::r).length-1)+1:=by have h1:(a::b::r).length=r.length+2:=rfl;have h2:(b::r).length=r.length+1:=rfl;lia
 rw[e,List.eraseIdx_cons_succ,ih];all_goals rfl
theorem uf{α:Type}:∀(l:List α) (i:Nat),(l.eraseIdx i).length<=l.length|[],_=>Ro _|_::_,0=>Nat.le_succ _|_::r,i+1=>Nat.succ_le_succ (uf r i)
theorem tY(its:List QP):∀(k:Nat) (acc:List QP),Vc (λx1 x2=>x1++x2) acc.toArray (Rk k its.toArray)=(acc++(Rk k its).flatten).toArray
 |0,acc=>by simp|k+1,acc=>by
  have e:acc.toArray++its.toArray=(acc++its).toArray:=by simp
  have e2:(acc++its)++(Rk k its).flatten=acc++(Rk (k+1) its).flatten:=by rw[Ui,Vr,UF]
  rw[<-e2,<-tY its k (acc++its),<-e,Ui,List.foldl_cons]
section
variable{X:Cx}{pins:List (QQ×Obj)}{σ:St}{H:Hp}{s:QS}{l b:QQ}{xs ys zs:List V}
theorem av.lset{its its':List QP}{n:Nat}{f:Array QP->Array QP}{t':Nat}(I:av X pins σ H s)(hH:H l=some (.lst xs))(e:s.heap.get? l=some {cls:=.type "list",data:=.seq its.toArray n})(hf:f its.toArray=its'.toArray)(hv:aN ys its')(hz:ys.length<=Rm):av X pins σ (upd H l (.lst ys)) {s with heap:=s.heap.update l (TH f),toks:=t'}:=by have q:=PySem.IsL.update e f;rw[hf]at q;refine I.write (x:=l) (e:=l) (by rw[hH];exact trivial) (.inl rfl) (λb' u hb hu=>(Heap.get?_update_other s.heap (TH f) (Rz hb)).trans hu) ⟨_,q⟩ ?_;exact⟨hz,its',_,hv,q⟩
theorem av.lnew{its:List QP}{t':Nat}(I:av X pins σ H s)(hv:aN ys its)(hz:ys.length<=Rm):av X pins σ (upd H ↑s (.lst ys)) {s with heap:=s.heap.push {cls:=.type "list",data:=.seq its.toArray},toks:=t'}:=I.laid (λ_ _ q=>RH _ q) (Ro _) ⟨hz,its,0,hv,Sn _ rfl⟩
theorem av.fresh(I:av X pins σ H s):H ↑s=none:=I.hok.fresh (Ro _)
theorem av.lstM(I:av X pins σ H s)(hH:H l=some (.lst xs)):xs.length<=Rm/\∃(its:List QP) (n:Nat),aN xs its/\xs.length=its.length/\s.heap.get? l=some {cls:=.type "list",data:=.seq its.toArray n}:=by obtain⟨z,its,n,r,e⟩:=I.hok l _ hH;exact⟨z,its,n,r,r.length,e⟩
theorem xh{n:Nat}(h:n<=Rm):VQ n=false:=by unfold VQ;exact decide_eq_false ↥0
end
section
variable{X:Cx}
def zT:V->List V->Hp->VK->Prop:=λx vs H Q=>∃l xs y,x=.ref l/\vs=[y]/\H l=some (.lst xs)/\xs.length<Rm/\Q .non (upd H l (.lst (xs++[y])))
theorem lL:MD X "list.append" zT:=by intro pins s σ H x vs v us Q I rx rv h;obtain⟨l,xs,y,rfl,rfl,hH,hz,q⟩:=h;cases rx;obtain⟨u,rfl,ru⟩:=rv.one;obtain⟨z,its,n,r,hl,e⟩:=I.lstM hH;refine TK Wz ⟨_,e,rfl⟩ F.entry_list_append (F.args_list_append_2 _ _) (PySem.list_append l its.toArray n u (by rw[Ry];lia)) ⟨e,?_⟩;refine⟨.non,_,I.lset (its':=its++[u]) hH e ↥1 (r.append (.cons ru .nil)) ?_,rfl,q⟩;rw[RW,List.length_singleton];lia
def G4:V->List V->Hp->VK->Prop:=λx vs H Q=>∃l b xs zs,x=.ref l/\vs=[.ref b]/\H l=some (.lst xs)/\H b=some (.lst zs)/\xs.length+zs.length<=Rm/\Q .non (upd H l (.lst (xs++zs)))
theorem A9:MD X "list.extend" G4:=by
 intro pins s σ H x vs v us Q I rx rv h;obtain⟨l,b,xs,zs,rfl,rfl,hH,hB,hz,q⟩:=h;cases rx;obtain⟨u,rfl,ru⟩:=rv.one;cases ru;obtain⟨z,its,n,r,hl,e⟩:=I.lstM hH;obtain⟨z2,its2,n2,r2,hl2,e2⟩:=I.lstM hB;have hsz:its.toArray.size+its2.toArray.size<=Rm:=by rw[Ry,Ry];lia
 have hlong:¬(!its.toArray.isEmpty&&VQ (its.toArray.size+its2.toArray.size))=true:=by rw[xh hsz,Bool.and_false];exact Te
 refine TK F.slot_list_extend ⟨_,e,rfl⟩ F.entry_list_extend (F.args_list_extend_2 _ _) (AutoSeq1.list_extend_list_list_0 l its.toArray n b its2.toArray n2 hlong (by rw[Ry];lia) ↥0) ⟨e,e2,?_⟩;refine⟨.non,_,I.lset (its':=its++its2) hH e ↥1 (r.append r2) ?_,rfl,q⟩;rw[RW];lia
def L5:V->List V->Hp->VK->Prop:=λx vs H Q=>∃l xs y,x=.ref l/\vs=[]/\H l=some (.lst xs)/\xs[xs.length-1]?=some y/\Q y (upd H l (.lst xs.dropLast))
theorem Jo:MD X "list.pop" L5:=by
 intro pins s σ H x vs v us Q I rx rv h;obtain⟨l,xs,y,rfl,rfl,hH,hy,q⟩:=h;cases rx;have hus:=rv.zero;subst hus;obtain⟨z,its,n,r,hl,e⟩:=I.lstM hH;obtain⟨u,hu,ru⟩:=r.get hy;have hy':its.toArray[its.toArray.size-1]?=some u:=by show its.toArray[its.length-1]?=some u;rw[<-Array.getElem?_toList,<-hl];exact hu
 refine TK VR ⟨_,e,rfl⟩ F.entry_list_pop (F.args_list_pop_1 _) (MeetsSeq.list_pop_last l its.toArray n u hy' (by rw[Ry];lia)) ⟨e,?_⟩;refine⟨y,_,I.lset (its':=its.dropLast) hH e ?_ r.dropLast ?_,ru,q⟩;·show its.toArray.eraseIdxIfInBounds (its.toArray.size-1)=its.dropLast.toArray;rw[Ry,List.eraseIdxIfInBounds_toArray,yg]
 ·rw[List.length_dropLast];lia
def Ea:V->List V->Hp->VK->Prop:=λx vs H Q=>∃l xs i k y,x=.ref l/\vs=[.int i]/\H l=some (.lst xs)/\-(2^63)<=i/\i<2^63/\seqIndex? i xs.length=some k/\xs[k]?=some y/\Q y (upd H l (.lst (xs.eraseIdx k)))
theorem C4:MD X "list.pop" Ea:=by
 intro pins s σ H x vs v us Q I rx rv h;obtain⟨l,xs,i,k,y,rfl,rfl,hH,h1,h2,hk,hy,q⟩:=h;cases rx;obtain⟨u,rfl,ru⟩:=rv.one;obtain⟨t,rfl⟩:=ru;obtain⟨z,its,n,r,hl,e⟩:=I.lstM hH;obtain⟨w,hw,rw'⟩:=r.get hy;refine TK VR ⟨_,e,rfl⟩ F.entry_list_pop (F.args_list_pop_2 _ _) (MeetsSeq.list_pop_at l its.toArray n i t k w (fitsIndex_both h1 h2) (by rw[Ry,<-hl];exact hk) (by rw[<-Array.getElem?_toList];exact hw) (by rw[Ry];lia)) ⟨e,?_⟩;refine⟨y,_,I.lset (its':=its.eraseIdx k) hH e ?_ (r.eraseIdx k) ?_,rw',q⟩;·show its.toArray.eraseIdxIfInBounds k=(its.eraseIdx k).toArray;rw[List.eraseIdxIfInBounds_toArray]
 ·have:=uf xs k;lia
def J':R2:=λx y H Q=>∃l b xs zs,x=.ref l/\y=.ref b/\H l=some (.lst xs)/\H b=some (.lst zs)/\xs.length+zs.length<=Rm/\∀p,H p=none->Q (.ref p) (upd H p (.lst (xs++zs)))
theorem JA:eG X (RZ .Add) J':=by
 intro pins s σ H x y v u Q I rx ry h;obtain⟨l,b,xs,zs,rfl,rfl,hH,hB,hz,q⟩:=h;cases rx;cases ry;obtain⟨z,its,n,r,hl,e⟩:=I.lstM hH;obtain⟨z2,its2,n2,r2,hl2,e2⟩:=I.lstM hB;refine PySem.P.add_list e e2 ?_ (by rw[Ry,Ry];lia);have ea:its.toArray++its2.toArray=(its++its2).toArray:=by simp
 rw[ea];exact⟨.ref _,_,I.lnew (t':=s.toks) (r.append r2) (by rw[RW];lia),rfl,q _ I.fresh⟩
def Kd:R2:=λx y H Q=>∃l k xs,x=.ref l/\y=.int k/\H l=some (.lst xs)/\-(2^63)<=k/\k<2^63/\xs.length*k.toNat<=Rm/\∀p,H p=none->Q (.ref p) (upd H p (.lst (Rk k.toNat xs).flatten))
theorem FW{α:Type}(xs:List α)(k:Nat):(Rk k xs).flatten.length=k*xs.length:=by induction k with|zero=>simp|succ k ih=>rw[Ui,Vr,RW,ih,Nat.succ_mul,Nat.add_comm]
theorem JH:eG X (RZ .Mult) Kd:=by
 intro pins s σ H x y v u Q I rx ry h;obtain⟨l,k,xs,rfl,rfl,hH,h1,h2,hz,q⟩:=h;cases rx;obtain⟨t,rfl⟩:=ry;obtain⟨z,its,n,r,hl,e⟩:=I.lstM hH;have hlen:its.toArray.size*k.toNat<=Rm:=by rw[Ry,<-hl];exact hz
 have hcap:¬its.toArray.size*k.toNat>(2^63-1)/8:=by
  have:(Rm:Nat)<=(2^63-1)/8:=by decide
  lia
 have hfit:¬(!Builtin.List.listFitsIndex k)=true:=by rw[fitsIndex_both h1 h2];exact Te
 have hlong:¬VQ (its.toArray.size*k.toNat)=true:=by rw[xh hlen];exact Te
 have hnew:Vc (λx1 x2=>x1++x2) #[] (Rk (if its.toArray.isEmpty=true then 0 else k.toNat) its.toArray)=(Rk k.toNat its).flatten.toArray:=by
  have f0:∀m:Nat,Vc (λx1 x2=>x1++x2) #[] (Rk m its.toArray)=(Rk m its).flatten.toArray:=λm=>by have:=tY its m [];rw[SN]at this;exact this
  rw[f0];cases its with|nil=>simp|cons a r'=>rw[if_neg ↥1]
 refine wpAny_binaryOp_repeat_ref (T:="list") (U:="int") ⋯ ⟨_,e,rfl⟩ (λs'=>Vq s' k t) noFill_list_mul F.fills_int_mul VS repeat_list F.slot_int_index.lookup (TK VS (Vq s k t) F.entry_int_rmul (F.args_int_rmul_2 _ _) (int___rmul___int_list k t l its.toArray n) ⟨e,rfl,⟨_,e,rfl⟩,TK F.slot_list_mul ⟨_,e,rfl⟩ F.entry_list_mul (F.args_list_mul_2 _ _) (AutoListH.list___mul___list_int_3 l its.toArray n k t hfit hcap hlong) ⟨e,?_⟩⟩);rw[hnew];exact⟨.ref _,_,I.lnew (t':=s.toks) (r.rep k.toNat) (by rw[FW,Nat.mul_comm];exact hz),rfl,q _ I.fresh⟩
end
section
variable{prog:QZ}{w:QW}{A:Rf}{E:QP->QS->Prop}{s:QS}
end
section
variable{X:Cx}
end
end L2
namespace Att
open PySem PySem.W PySem.Calls PyProof.Rows
theorem pF{P:Params}{h:Re}:∀(ns:List Int) (vs:List QP),WellAll P h vs (ns.map WData.int)->IntsAre vs ns:=by intro ns;induction ns with|nil=>intro vs w;rw[RQ]at w;cases w;exact .nil|cons n ns ih=>intro vs w;rw[Rn]at w;cases w with|cons a b=>cases a;exact .cons _ _ (ih _ b)
theorem Bu{l:OpenLaw}{n:Nat}(hn:l.most=some n){P:Params}{h:Re}{args:List WData}{vals:List QP}(hpre:l.row.toRowW.claim.pre args=true)(hwl:WellAll P h vals args):∃a vs ns,vals=[Value.ref a]/\args=[WData.list (ns.map WData.int)]/\h.get? a=some {cls:=.type "list",data:=.seq vs.toArray}/\IntsAre vs ns/\ns.length<=n:=by
 have hsh:WShape.hasAll [] args [.list .int]=true:=(pre_splitW hpre).1;have hc:l.pre.holds [] {args:=args}=true:=(pre_splitW hpre).2;obtain⟨d,r,rfl,h1,h2⟩:=hasAllW_cons hsh;obtain rfl:=hasAllW_nil h2;obtain⟨xs,rfl,h3⟩:=hasW_list h1;obtain⟨ns,rfl⟩:=items_int h3;have hlen:ns.length<=n:=by
  unfold OpenLaw.pre at hc;have h4:(WTm.not (.lt (.lit (.int (n:Int))) (.len (.arg 0)))).holds [] {args:=[.list (ns.map .int)]}=true:=by have h4:=(holds_andW hc).1;rw[hn]at h4;exact h4
  have h5:=condW_of h4 (w_not (w_lt w_lit (w_len_list (w_arg rfl))));rw[Rq]at h5;refine Nat.le_of_not_lt λq=>?_;have q':(n:Int)<((ns.length:Nat):Int):=by lia
  first|(rw[decide_eq_true q']at h5;exact absurd h5 ⋯)|(simp at h5;lia)
 cases hwl with|cons w1 w2=>cases w2;cases w1 with|list ho hall=>exact⟨_,_,ns,rfl,rfl,ho,pF ns _ hall,hlen⟩
theorem Bn(l:OpenLaw)(args:List WData):l.row.toRowW.claim.post args (.bool true) args=true:=postW_of (r:=l.row.toRowW) (X:=(true==true)) (show WShape.has [] (.bool true) .bool=true by first|rfl|decide|simp[WShape.has,WShape.arms,WShape.armsAll]) (show(WTm.eq .res (.lit (.bool true))).value [] {args:=args,res:=some (.bool true),after:=args}=some (.bool (true==true)) from w_eq_bool (w_res rfl) w_lit) rfl
theorem attach_call{l:OpenLaw}{n:Nat}{q:QZ}{loose:List Str}{XP:(Str->Option QP)->Re->Prop}{YP:QW->Re->Prop}{d:DefRec}(hn:l.most=some n)(hdf:d.params.defaults=[])(call:∀(w:QW) (s₀ s₁:QS) (mg mb:Str->Option QP) (fa:QQ) (o:Obj) (pm cd doc:QP) (a:QQ) (vs:List QP) (ns:List Int),Ground q loose [] XP w s₀ mg mb s₁.heap->YP w s₁.heap->s₁.heap.get? fa=some o->o.data=.func (docDef d.name d.params d.body d.scope pm cd doc)->s₁.heap.CodeRec cd d.name->mg d.name=some (.ref fa)->s₁.heap.get? a=some {cls:=.type "list",data:=.seq vs.toArray}->IntsAre vs ns->ns.length<=n->s₁.gens=#[]->SW (QY l.prog w) callerA (.call (.ref fa) ⟨[.ref a],[]⟩) (λr s'=>r=.ok (.ret (.bool true))/\OldK s₁.heap s'.heap/\s'.os=s₁.os/\Tp s'.gens) s₁):WalkO q loose XP YP l.row.toRowW d [] (λf vs=>PySem.call f vs):=by intro w s₀ s₁ mg mb G Y fa o pm cd doc dV kV ho hd hcd hD hmg hg args vals as hpre hlay hrd hwl hlo;obtain rfl:dV=.none:=Dflts.none hD hdf;obtain rfl:kV=.none:=Dflts.noKw hD;obtain⟨a,vs,ns,rfl,rfl,hobj,hints,hlen⟩:=Bu hn hpre hwl;refine enter_call (Vn (call w s₀ s₁ mg mb fa o pm cd doc a vs ns G Y ho (fd_plain hd) hcd hmg hobj hints hlen hg) λr s' hq=>?_);obtain⟨rfl,h2,h3,h4⟩:=hq;exact⟨.inl ⟨.bool true,.bool true,[],rfl,λ_=>rfl,.bool true,Bn l _,λ_=>⟨List.Pairwise.nil,λ_ hm=>(nomatch hm)⟩⟩,h2,h3,h4⟩
section
variable{prog:QZ}{w:QW}{A:Rf}{E:QP->QS->Prop}{s:QS}{K:Frag}
end
end Att
namespace L2
open PySem PySem.Spec PyProof.Rows
theorem oQ:∀{vs:List QP}{ns:List Int},IntsAre vs ns->aN (ns.map V.int) vs|_,_,.nil=>.nil|_,_,.cons n t h=>.cons ⟨t,rfl⟩ (oQ h)
def IG(H:Hp):Prop:=∀b,H b=none\/∃o xs,H b=some (.frz o (.lst xs))
theorem CY{P:QZ}{w:QW}{K:QU}{mg mb:Str->Option QP}{CX:sO}{k:Nat}{fa a:QQ}{fd:RJ}{x:Str}{sp:Sp}{s₁:QS}{vs:List QP}{ns:List Int}(KX:K.In s₁.heap)(hns:s₁.heap.Ns RN mg)(hb:s₁.heap.Ns builtinsNs mb)(hbb:∀x:Str,x≠"__name__"->mb x=SC x)(hlim:s₁.heap.NoLimit)(hg:s₁.gens=#[])(ha:s₁.heap.get? a=some {cls:=.type "list",data:=.seq vs.toArray})(hi:IntsAre vs ns)(hl:ns.length<=Rm)(hr:bE k callerA)(F:∀base:Re,K.In base->base.Ns RN mg->bg P w K mg base CX k fa fd [x] sp)(hbind:∀(s:QS) (u:QP),BindsTo s fd ⟨[u],[]⟩ [(x,u)])(hsp:∀H:Hp,IG H->i6 K H a (ns.map V.int)->sp [.ref a] H (λv _=>v=.bl true) λ_ _ _=>False)(hCX:∀H e s',CX [] H s₁ (λ_ _ _=>False) e s'->False):SW (QY P w) callerA (.call (.ref fa) ⟨[.ref a],[]⟩) (λr s'=>r=.ok (.ret (.bool true))/\OldK s₁.heap s'.heap/\s'.os=s₁.os/\Tp s'.gens) s₁:=by
 have rv:=oQ hi;have lenV:=hi.length;have core:∀H:Hp,IG H->i6 K H a (ns.map V.int)->l7 P w H s₁.heap->(∀b,H b≠none->b=a)->(H a≠none->K.lookup a=none)->SW (QY P w) callerA (.call (.ref fa) ⟨[.ref a],[]⟩) (λr s'=>r=.ok (.ret (.bool true))/\OldK s₁.heap s'.heap/\s'.os=s₁.os/\Tp s'.gens) s₁:=by
  intro H hO hS hok hA hK;have base_of:∀{b:QQ}{o:Obj},s₁.heap.get? b=some o->H b=none->(vw s₁.heap H).get? b=some o:=λe n=>CL e n;have noA:∀{b:QQ}{o:Obj}{es:Array DictEntry}{ep:Nat},s₁.heap.get? b=some o->o.data=.dict es ep->H b=none:=fun{b o es ep}e d=>by cases q:H b with|none=>rfl|some u=>have e':b=a:=hA b (by rw[q];simp);subst e';rw[ha]at e;cases e;have d':Data.seq vs.toArray _=Data.dict es ep:=d;cases d'
  have nsK:∀{b:QQ}{m:Str->Option QP},s₁.heap.Ns b m->(vw s₁.heap H).Ns b m:=fun{b m}⟨o,es,ep,e,d,r⟩=>⟨o,es,ep,base_of e (noA e d),d,r⟩;have hKb:K.In (vw s₁.heap H):=λb o e=>base_of (KX b o e) (by cases q:H b with|none=>rfl|some u=>have e':b=a:=hA b (by rw[q];simp);subst e';rw[hK (by rw[q];simp)]at e;cases e);have hM:Mod K mg (vw s₁.heap H):=⟨hKb,nsK hns,⟨mb,nsK hb,hbb⟩,let⟨mc,h1,h2⟩:=hlim;⟨mc,nsK h1,h2⟩⟩;have e0:Fg P w K mg (vw s₁.heap H) callerA [] s₁ H:=⟨rfl,hM,λb o e=>Gb e,Nat.le_of_eq (AO _ _),trivial,λb hb=>absurd (show b∈([]:List QQ) from hb) ↥1,hok,.of_eq hg⟩;refine Vn ((F _ hKb (nsK hns)).run callerA [] s₁ H ⟨[.ref a],[]⟩ [.ref a] [.ref a] _ _ hr e0 (hbind s₁ (.ref a)) (.cons rfl .nil) (hsp H hO hS)) λr s' h=>?_;cases r with|error e=>exact(hCX H e s' h).elim|ok fl=>cases fl with|next=>exact Sj h|brk=>exact Sj h|cont=>exact Sj h|ret u=>obtain⟨v,H',os,bare,un,hok',r',q⟩:=h;have q':v=.bl true:=q;subst q';obtain rfl:u=Value.bool true:=r';refine⟨rfl,OldK.of_keep λb o e=>?_,os,bare⟩;cases q:H b with|none=>exact un.keep b o e q (by intro z;exact absurd (show b∈([]:List QQ) from z) ↥1) ↥1|some u=>
   rcases hO b with z|⟨ob,xs,z⟩;·rw[q]at z;cases z
   ·have z2:=un.frzs b ob _ z;obtain⟨e1,_⟩:=hok b _ z;obtain⟨e2,_⟩:=hok' b _ z2;rw[e]at e1;cases e1;exact e2
 cases hk:K.lookup a with|some o=>have e:=KX a o hk;rw[ha]at e;cases e;refine core (λ_=>none) (λ_=>.inl rfl) (.inr ⟨_,vs.toArray,_,hk,rfl,rfl,rfl,by rw[Ry,lenV];exact hl,by simpa using rv⟩) (λb u z=>by have z':(none:Option HO)=some u:=z;cases z') (λb z=>absurd rfl z) λz=>absurd rfl z|none=>
  refine core (λb=>if b=a then some (.frz {cls:=.type "list",data:=.seq vs.toArray} (.lst (ns.map V.int))) else none) (λb=>?_) (.inl (.inr ⟨{cls:=.type "list",data:=.seq vs.toArray},if_pos rfl⟩)) (λb u z=>?_) (λb z=>?_) λ_=>hk
  ·by_cases hb:b=a;·exact .inr ⟨_,_,if_pos hb⟩
   ·exact .inl (if_neg hb)
  ·by_cases hb:b=a;·have z':=(if_pos hb).symm.trans z;cases z';subst hb;exact⟨ha,by rw[Rq];exact hl,vs,_,rv,ha⟩
   ·have z':=(if_neg hb).symm.trans z;cases z'
  ·by_cases hb:b=a;·exact hb
   ·exact absurd (if_neg hb) z
theorem walk_of{l:PySem.W.OpenLaw}{n k:Nat}{q:QZ}{loose:List Str}{XP:(Str->Option QP)->Re->Prop}{YP:QW->Re->Prop}{d:DefRec}{K:Params->QU}{CX:QW->sO}{sp:QW->Sp}{x:Str}(hn:l.most=some n)(hn2:n<=Rm)(hdf:d.params.defaults=[])(hr:bE k callerA)(hY:∀(w:QW) (h:Re),YP w h->(K w.params).In h)(F:∀(w:QW) (mg:Str->Option QP) (fa:QQ) (h:Re),(K w.params).In h->h.Ns RN mg->mg d.name=some (.ref fa)->∃fd:RJ,(∀(s:QS) (u:QP),BindsTo s fd ⟨[u],[]⟩ [(x,u)])/\∀base:Re,(K w.params).In base->base.Ns RN mg->bg l.prog w (K w.params) mg base (CX w) k fa fd [x] (sp w))(hsp:∀(w:QW) (H:Hp) (a:QQ) (ns:List Int),ns.length<=n->IG H->i6 (K w.params) H a (ns.map V.int)->sp w [.ref a] H (λv _=>v=.bl true) λ_ _ _=>False)(hCX:∀(w:QW) (H:Hp) (s:QS) (e:QP) (s':QS),CX w [] H s (λ_ _ _=>False) e s'->False):PySem.W.WalkO q loose XP YP l.row.toRowW d [] (λf vs=>PySem.call f vs):=by refine Att.attach_call hn hdf λw s₀ s₁ mg mb fa o pm cd doc a vs ns G Y ho hd hcd hmg hobj hints hlen hg=>?_;have KX:=hY w _ Y;obtain⟨fd,hb,hF⟩:=F w mg fa _ KX G.T.g hmg;exact CY KX G.T.g G.T.b G.T.builtins G.T.nolimit hg hobj hints (RT hlen hn2) hr hF hb (λH hO hS=>hsp w H a ns hlen hO hS) λH e s'=>hCX w H s₁ e s'
abbrev gy:sO:=λ_ _ _ _ _ _=>False
abbrev E0:XK:=λ_ _ _=>False
theorem Ia{X:Cx}:x5 gy X E0:=λ_ _ _ _ _ _ _ h=>h.elim
structure HH (K:QU) (x qual:Str) (st:Rh) (f:QQ) (fd:RJ):Prop where
 ex:∃(oc:QP) (od:Option QQ) (kV doc pm:QP) (an:Option QQ) (cdv ct:QP) (osl:Array (Option QP)),fd=Tc x qual (d_ st) (cn st) (am st) .none kV doc pm an cdv ct/\K.lookup f=some ⟨oc,od,.func fd,osl⟩/\Vp K cdv qual=true
 kp:UW K (.ref f)=true
section
variable{P:QZ}{w:QW}{K:QU}{mg:Str->Option QP}{base:Re}
theorem HH.ok{x qual:Str}{st:Rh}{f:QQ}{fd:RJ}{N ps:List Str}{k:Nat}{sp:Sp}(F:HH K x qual st f fd)(S:aC N ps (am st))(len:∀vs H Q E,sp vs H Q E->vs.length=ps.length)(hbody:∀(cdv:QP) (A:Rf) (outer:List Env) (s:QS) (H:Hp) (vs:List V) (Q:VK) (E:XK),bE k (A.deeper (RB qual (am st) ↑s f cdv))->sp vs H Q E->∃t,kc (eL gy P w K mg base N qual (am st) f cdv A outer s H E).nox (cn st) t/\t {nx:=λ_ H'=>Q .non H',rt:=Q} (eA N vs) H):bg P w K mg base gy (k+1) f fd ps sp:=by obtain⟨oc,od,kV,doc,pm,an,cdv,ct,osl,rfl,lk,hcd⟩:=F.ex;refine HU lk hcd S len λA outer s H vs Q E hr hsp=>?_;obtain⟨t,h,q⟩:=hbody cdv A outer s H vs Q E hr hsp;exact⟨t,h.nox,q⟩
theorem HH.binds{x qual:Str}{st:Rh}{f:QQ}{fd:RJ}{ps:List Str}(F:HH K x qual st f fd)(h:∀(kV doc pm:QP) (an:Option QQ) (cdv ct:QP) (us:List QP),us.length=ps.length->bindArgs (Tc x qual (d_ st) (cn st) (am st) .none kV doc pm an cdv ct) ⟨us,[]⟩=pure (ps.zip us)):qa K fd ps []:=by obtain⟨oc,od,kV,doc,pm,an,cdv,ct,osl,rfl,lk,hcd⟩:=F.ex;exact .all (h kV doc pm an cdv ct)
theorem Cw{x qual:Str}{st:Rh}{f:QQ}{oc:QP}{od an:Option QQ}{osl:Array (Option QP)}{kV doc pm cdv ct:QP}(l:K.lookup f=some ⟨oc,od,.func (Tc x qual (d_ st) (cn st) (am st) .none kV doc pm an cdv ct),osl⟩)(c:Vp K cdv qual=true)(k:UW K (.ref f)=true):HH K x qual st f (Tc x qual (d_ st) (cn st) (am st) .none kV doc pm an cdv ct):=⟨⟨oc,od,kV,doc,pm,an,cdv,ct,osl,rfl,l,c⟩,k⟩
end
theorem uD{n:Nat}(h:n<=1000):n<Rm:=Vs h ⋯
section
variable{X:Cx}
theorem pv(i:Nat){x:Str}{pos:Pos}(hN:X.N[i]?=some x:=by rfl)(hv:BX X.env.scope x:=by first|exact Or.inl rfl|exact Or.inr ↥3|exact Or.inr (Or.inr rfl))(hd:(x==("__debug__":Str))=false:=by decide)(hcd:(x==("__classdict__":Str))=false:=by decide):PE X (.Name x pos) (vY i):=eW hN hv hd hcd
end
theorem AS{A B:Prop}(h:B):if false=true then A else B:=by rw[if_neg Te];exact h
theorem AU{A B:Prop}(h:A):if true=true then A else B:=by rw[if_pos rfl];exact h
def aw(H H':Hp):Prop:=∀b o,H b=some o->H' b=some o
theorem aw.refl(H:Hp):aw H H:=λ_ _ h=>h
theorem aw.trans{H H1 H2:Hp}(a:aw H H1)(b:aw H1 H2):aw H H2:=λc o h=>b c o (a c o h)
theorem aw.free{H H':Hp}(e:aw H H'){l:QQ}(h:H' l=Option.none):H l=Option.none:=by cases q:H l with|none=>rfl|some o=>rw[e l o q]at h;cases h
theorem aw.seq{K:QU}{H H':Hp}{a:QQ}{xs:List V}(e:aw H H')(h:i6 K H a xs):i6 K H' a xs:=by
 rcases h with (h|⟨o,h⟩)|h;·exact .inl (.inl (e _ _ h))
 ·exact .inl (.inr ⟨o,e _ _ h⟩)
 ·exact .inr h
end L2
set_option maxHeartbeats 4000000
namespace L2
open PySem PySem.Spec PyProof.Rows
def Bt(n:Nat)(i:Int):Prop:=i.natAbs<2^n
theorem Bt.mono{m n:Nat}{i:Int}(h:Bt m i)(hm:m<=n):Bt n i:=Sb h (Tr ⋯ hm)
theorem Bt.log{m:Nat}{i:Int}(h:Bt m i)(hm:0<m):i.natAbs.log2<m:=by
 unfold Bt at h;rcases Nat.eq_zero_or_pos i.natAbs with h0|hp;·rw[h0];exact hm
 ·exact(Nat.log2_lt ↥0).mpr h
theorem Bt.bits{m:Nat}{i:Int}(h:Bt m i)(hm:0<m):Builtin.Int.intBits i<=m:=by
 unfold Builtin.Int.intBits;split;·exact SY _
 ·exact h.log hm
theorem Bt.of_le{m:Nat}{i:Int}{j:Int}(h:Bt m j)(e:i.natAbs<=j.natAbs):Bt m i:=Vs e h
section
variable{X:Cx}
def HE(i j:Int):Prop:=Bt 4000 i/\Bt 4000 j
theorem Gs:eG X (RZ .Mult) (rI HE λi j=>.int (i*j)):=Jw λ_ _ _ _ _ _ _ hc q=>mul_int q (.of_bits (RT (hc.1.bits ⋯) ⋯) (RT (hc.2.bits ⋯) ⋯))
def HD(i j:Int):Prop:=j≠0/\Bt 8000 j
theorem Dg:eG X (RZ .FloorDiv) (rI HD λi j=>.int (i.fdiv j)):=Jw λ_ _ _ _ _ _ _ hc q=>floordiv_int hc.1 q (.inl (PyProof.noPylong_of_log2 (Nat.lt_trans (hc.2.log ⋯) ⋯)))
end
def qg(H H':Hp):Prop:=∀a o,H a=some o->(∀xs,o≠.lst xs)->(∀ob xs,o≠.frz ob (.lst xs))->H' a=some o
theorem qg.trans{H H1 H2:Hp}(a:qg H H1)(b:qg H1 H2):qg H H2:=λc o h n m=>b c o (a c o h n m) n m
theorem aw.ts{H H':Hp}(h:aw H H'):qg H H':=λa o e _ _=>h a o e
theorem qg.tup{K:QU}{H H':Hp}(h:qg H H'){a:QQ}{xs:List V}(q:dX K H a xs):dX K H' a xs:=by
 rcases q with (q|⟨o,q⟩)|q;·exact .inl (.inl (h _ _ q (λ_ e=>nomatch e) (λ_ _ e=>nomatch e)))
 ·exact .inl (.inr ⟨o,h _ _ q (λ_ e=>nomatch e) (λ_ _ e=>nomatch e)⟩)
 ·exact .inr q
section
variable{X:Cx}
end
structure fW (K:QU) (mg:Str->Option QP) (x:Str) (st:Rh) (f:QQ) (fd:RJ) (ps:List Str):Prop where
 F:HH K x x st f fd
 m:mg x=some (.ref f)b:qa K fd ps []
theorem IY{K:QU}{mg:Str->Option QP}{h:Re}{x:Str}{st:Rh}{f:QQ}{ps:List Str}{oc:QP}{od an:Option QQ}{osl:Array (Option QP)}{kV doc pm cdv ct:QP}(X:K.In h)(G:h.Ns RN mg)(a:Tj K RN x=some (some (.ref f)))(l:K.lookup f=some ⟨oc,od,.func (Tc x x (d_ st) (cn st) (am st) .none kV doc pm an cdv ct),osl⟩)(c:Vp K cdv x=true)(k:UW K (.ref f)=true)(hb:∀(kV doc pm:QP) (an:Option QQ) (cdv ct:QP) (us:List QP),us.length=ps.length->bindArgs (Tc x x (d_ st) (cn st) (am st) .none kV doc pm an cdv ct) ⟨us,[]⟩=pure (ps.zip us)):fW K mg x st f (Tc x x (d_ st) (cn st) (am st) .none kV doc pm an cdv ct) ps:=⟨Cw l c k,TM X G a,(Cw l c k).binds hb⟩
theorem Nk{X:Cx}{x:Str}{st:Rh}{f:QQ}{fd:RJ}{ps:List Str}{k:Nat}{sp:Sp}{e:QT}{es:List QT}{t:TA}{p pos:Pos}(h:fW X.K X.mg x st f fd ps)(G:bg X.prog X.w X.K X.mg X.base gy k f fd ps sp)(hr:bE k X.A)(ha:PA X (e::es) t)(hg:Gl X x:=by rfl)(hdb:(x==("__debug__":Str))=false:=by decide)(he:Rg (e::es) X.env=(false,Rj e X.env)::Rg es X.env:=by rfl)(hpl:(RF pos (Rg es X.env)).any (·.1)=false:=by rfl):PE X (.Call (.Name x p) (e::es) [] pos) (Ac sp [] E0 t):=zM G hr hg h.m h.F.kp h.b .nil Ia ha hdb he hpl
theorem aw.new{H:Hp}{p:QQ}{o:HO}(h:H p=none):aw H (upd H p o):=λb u e=>by rw[aq (eV e h)];exact e
theorem aw.tup{K:QU}{H H':Hp}{a:QQ}{xs:List V}(e:aw H H')(h:dX K H a xs):dX K H' a xs:=e.ts.tup h
def gh(t b:Int):Int×Int:=if b<0 then(t.fdiv (-(Rw t b:Int)),b.fdiv (-(Rw t b:Int))) else(t.fdiv (Rw t b:Int),b.fdiv (Rw t b:Int))
theorem CJ(x y:Int):Rw y (x.fmod y)=Rw x y:=by rw[Int.fmod_def,Int.gcd_sub_mul_left_right,Int.gcd_comm]
theorem oZ(x:Int){y:Int}(h:y≠0):(x.fmod y).natAbs<y.natAbs:=by
 rcases Int.lt_or_gt_of_ne h with h|h
 ·have h1:x.fmod y=-((-x).fmod (-y)):=by have:=Int.neg_fmod_neg x y;lia
  have h2:=Int.fmod_nonneg_of_pos (-x) (b:=-y) ↥0;have h3:=Int.fmod_lt_of_pos (-x) (b:=-y) ↥0;lia
 ·have h2:=Int.fmod_nonneg_of_pos x h;have h3:=Int.fmod_lt_of_pos x h;lia
theorem zA{t b:Int}(h:b≠0):(0:Int)<Rw t b:=by have:=Int.gcd_pos_of_ne_zero_right t h;lia
theorem uh{t b:Int}(h:b≠0):∃d:Int,d.natAbs=Rw t b/\d≠0/\(gh t b).1*d=t/\(gh t b).2*d=b/\0<(gh t b).2:=by
 have hg:=zA (t:=t) h;have d1:(Rw t b:Int)∣t:=Int.gcd_dvd_left ..;have d2:(Rw t b:Int)∣b:=Int.gcd_dvd_right ..;unfold gh;split
 ·rename_i hb;have e1:t.fdiv (-(Rw t b:Int))*(-(Rw t b:Int))=t:=VT (Int.neg_dvd.mpr d1);have e2:b.fdiv (-(Rw t b:Int))*(-(Rw t b:Int))=b:=VT (Int.neg_dvd.mpr d2);refine⟨-(Rw t b:Int),by lia,by lia,e1,e2,?_⟩;show 0<b.fdiv (-(Rw t b:Int));have h3:b.fdiv (-(Rw t b:Int))*(Rw t b:Int)=-b:=by rw[Int.mul_neg]at e2;lia
  exact Int.pos_of_mul_pos_left ↥0 ↥0 (b:=(Rw t b:Int))
 ·rename_i hb;have e1:t.fdiv (Rw t b:Int)*(Rw t b:Int)=t:=VT d1;have e2:b.fdiv (Rw t b:Int)*(Rw t b:Int)=b:=VT d2;refine⟨(Rw t b:Int),by lia,by lia,e1,e2,?_⟩;show 0<b.fdiv (Rw t b:Int);exact Int.pos_of_mul_pos_left ↥0 ↥0 (b:=(Rw t b:Int))
theorem C2{t b:Int}(h:b≠0):Rw (gh t b).1 (gh t b).2=1:=by
 obtain⟨d,h1,h2,h3,h4,h5⟩:=uh (t:=t) h;have e:Rw ((gh t b).1*d) ((gh t b).2*d)=Rw (gh t b).1 (gh t b).2*d.natAbs:=Int.gcd_mul_right ..;rw[h3,h4,<-h1]at e;have hd:0<d.natAbs:=by lia
 exact(Nat.eq_of_mul_eq_mul_right hd (by rw[Nat.one_mul];exact e)).symm
theorem IW{t b:Int}(h:b≠0){n:Nat}(hb:Bt n b):Bt n (Rw t b:Int):=by refine hb.of_le ?_;have h1:=Nat.le_of_dvd (show 0<b.natAbs by lia) (Int.ofNat_dvd.mp (by rw[Int.dvd_natAbs];exact Int.gcd_dvd_right t b));lia
mutual
def M3:QR->Nat|.tuple ds=>1+uY ds|.str _=>0|_=>1
def uY:List QR->Nat|[]=>0|d::ds=>M3 d+uY ds
end
mutual
def ul:QR->Bool|.tuple ds=>nh ds|.str _=>false|.list _=>false|.dict _=>false|_=>true
def nh:List QR->Bool|[]=>true|d::ds=>ul d&&nh ds
end
theorem sT{a:Int}(h:a.natAbs.log2<1920):(RY (toString a)).length<=1921:=by have e:=int_text_length_le (k:=1920) ⋯ h;rw[PySem.ofString_length];lia
theorem rM(x:Str)(r:List Str):piled (x::r)=x.length+2+piled r:=by simp[piled]
theorem uL(ts:List Str):(tupleText ts).length<=piled ts+3:=by
 unfold tupleText;rw[strLen_append,strLen_append];have h1:(("(":Str)).length=1:=by decide
 have h2:(RY (if (ts.length==1)=true then",)"else")")).length<=2:=by split<;>decide
 have h3:(Str.join ", " ts).length<=piled ts:=by cases ts with|nil=>show(Str.join ", " []).length<=0;decide|cons x r=>have:=join_length_add (x::r) ↥1;lia
 lia
mutual
theorem By:∀{d:QR},ul d=true->d.showable=true->d.shown.length+2<=2000*M3 d
 |.none,_,_=>by show(RY "None").length+2<=2000*1;decide|.bool b,_,_=>by
  cases b;·show(RY "False").length+2<=2000*1;decide
  ·show(RY "True").length+2<=2000*1;decide|.int i,_,hs=>by simp only[PyData.showable,decide_eq_true_eq]at hs;have:=sT hs;show(RY (toString i)).length+2<=2000*1;lia|.tuple ds,hn,hs=>by simp only[PyData.showable]at hs;simp only[ul]at hn;have h1:=nV hn hs;have h2:=uL (Ts ds);simp only[PyData.shown,M3];lia|.str _,hn,_=>by simp[ul]at hn|.list _,hn,_=>by simp[ul]at hn|.dict _,hn,_=>by simp[ul]at hn
theorem nV:∀{ds:List QR},nh ds=true->VU ds=true->piled (Ts ds)<=2000*uY ds|[],_,_=>by simp[Ts,piled]|d::ds,hn,hs=>by simp only[nh,RE]at hn;simp only[VU,RE]at hs;have h1:=By hn.1 hs.1;have h2:=nV hn.2 hs.2;simp only[Ts,uY,rM];lia
end
def jm(env:Env):List (Str×Sx)->List (Str×QQ)->List (Str×QQ)|[],cs=>cs|(n,k)::r,cs=>jm env r (if k==.free then(n,(env.cells.lookup n).getD 0)::cs else cs)
theorem mS{env:Env}:∀(names:List (Str×Sx)) (cs:List (Str×QQ)),(∀y∈names,y.2=.free->∃c,env.cells.lookup y.1=some c)->(forIn names cs (fun(x:Str×Sx) (r:List (Str×QQ))=>(if (x.2==SO)=true then do let a<-cellOf env x.1;pure (Uj ((x.1,a)::r)) else pure (Uj r):Sem (ForInStep (List (Str×QQ))))):Sem (List (Str×QQ)))=pure (jm env names cs)
 |[],cs,_=>rfl|(n,k)::r,cs,h=>by
  rw[Vd];have ih:=λcs'=>mS (env:=env) r cs' (λy hy=>h y (Td _ hy));by_cases hk:(k==SO)=true
  ·have hk':k=.free:=by simpa using hk
   obtain⟨c,hc⟩:=h (n,k) Tz hk';have e:cellOf env n=pure c:=by unfold cellOf;rw[hc]
   simp only[hk,if_true,e,pure_bind,jm,hc,Vt];exact ih _
  ·have hk':(k==SO)=false:=by simpa using hk
   simp only[hk',Ve,if_false,pure_bind,jm];exact ih _
theorem qA{scope:Rt}{env:Env}(h:∀y∈scope.names,y.2=.free->∃c,env.cells.lookup y.1=some c):closureFor scope env=pure (jm env scope.names []):=by have e:=mS (env:=env) scope.names [] h;unfold closureFor;simp only[pure_bind,bind_pure]at e⊢;exact e
theorem qz{env:Env}:∀(names:List (Str×Sx)) (cs:List (Str×QQ)) (x:Str) (c:QQ),(∀y∈names,y.2=.free->∃c,env.cells.lookup y.1=some c)->(∀x c,cs.lookup x=some c->env.cells.lookup x=some c)->(jm env names cs).lookup x=some c->env.cells.lookup x=some c
 |[],cs,x,c,_,hs,h=>hs x c h|(n,k)::r,cs,x,c,hn,hs,h=>by
  refine qz r _ x c (λy hy=>hn y (Td _ hy)) (λx' c' e=>?_) h;by_cases hk:(k==SO)=true
  ·rw[if_pos hk]at e;obtain⟨c0,hc⟩:=hn (n,k) Tz (by simpa using hk)
   rw[Tt]at e;cases hx:x'==n with|true=>
    rw[hx]at e;have e1:x'=n:=by simpa using hx
    subst e1;simp only[hc,Vt,Ux]at e;rw[<-e];exact hc|false=>rw[hx]at e;exact hs x' c' e
  ·rw[if_neg hk]at e;exact hs x' c' e
theorem wy{env:Env}:∀(names:List (Str×Sx)) (cs:List (Str×QQ)) (x:Str),((∃y∈names,y.1=x/\y.2=.free)\/∃c,cs.lookup x=some c)->∃c,(jm env names cs).lookup x=some c
 |[],cs,x,h=>by
  rcases h with⟨y,hy,_⟩|h;·cases hy
  ·exact h|(n,k)::r,cs,x,h=>by
  refine wy r _ x ?_;by_cases hk:(k==SO)=true;·rw[if_pos hk,Tt];cases hx:x==n with|true=>exact .inr ⟨_,rfl⟩|false=>
   rcases h with⟨y,hy,e1,e2⟩|h
   ·rcases QN hy with z|z;·subst z;subst e1;simp at hx
    ·exact .inl ⟨y,z,e1,e2⟩
   ·exact .inr h
  ·rw[if_neg hk];rcases h with⟨y,hy,e1,e2⟩|h
   ·rcases QN hy with z|z;·subst z;exact absurd (by simpa using e2) hk
    ·exact .inl ⟨y,z,e1,e2⟩
   ·exact .inr h
theorem km{env:Env}:∀{names:List (Str×Sx)}{x:Str},names.lookup x=some .free->(names.map fun(n,k)=>if (k==SO&&env.scope.kind==.function&&env.kindOf n==some .cell) then(n,UG) else(n,k)).lookup x≠some .local|[],x,h=>by simp at h|(n,k)::r,x,h=>by rw[Rn];cases hx:x==n with|true=>simp only[hx,Tt]at h;cases h;show Vf x ((if (SO==SO&&env.scope.kind==.function&&env.kindOf n==some .cell)=true then(n,UG) else(n,SO))::_)≠_;split<;>simp[Tt,hx]|false=>
 simp only[hx,Tt]at h;have ih:=@km env r x h;have e2:∀(l:List (Str×Sx)),((if (k==SO&&env.scope.kind==.function&&env.kindOf n==some .cell)=true then(n,UG) else(n,k))::l).lookup x=l.lookup x:=λl=>by split<;>simp[Tt,hx]
 simp only[e2];exact ih
def uS(X:Cx)(ifs:List QT)(t:TT):Prop:=∀(pins:List (QQ×Obj)) (s:QS) (σ:L2.St) (H:Hp) (Q:Bool->Hp->Prop),av X pins σ H s->t σ H Q->QX (QY X.prog X.w) X.A (forIn ifs true λc r=>if r=true then do let ok<-isTrue c X.env (Rj c X.env);pure (Uj ok) else pure (Uj r)) (TP X pins σ Q) X.xe s
theorem GP{X:Cx}:uS X [] (λ_ H Q=>Q true H):=λ_ _ _ H _ I h=>wpAny_tests_nil ⟨H,I,h⟩
theorem GQ{X:Cx}{c:QT}{t:TT}(h:PT X c t):uS X [c] t:=λpins s σ H Q I q=>wpAny_tests_one (h pins s σ H Q I q)
abbrev zL:QP->QS->Prop:=λ_ _=>False
def Cm(prog:QZ)(w:QW)(A:Rf)(elt tg:QT)(ifs:List QT)(env:Env)(it acc:QP)(onward:QS->Prop)(v:QP)(u:QS):Prop:=QX (QY prog w) A (UA tg it v) (λ_ u1=>QX (QY prog w) A (SE tg env v) (λ_ u2=>QX (QY prog w) A (forIn ifs true λc r=>if r=true then do let ok<-isTrue c env (Rj c env);pure (Uj ok) else pure (Uj r)) (λok u3=>if ok=true then QX (QY prog w) A (Rj elt env) (λx u4=>QX (QY prog w) A (call (.builtin "list.append") [acc,x]) (λ_ u5=>onward u5) zL u4) zL u3 else onward u3) zL u2) zL u1) zL u
theorem uZ{prog:QZ}{w:QW}{A:Rf}{R:Result->QS->Prop}{elt tg iter:QT}{ifs:List QT}{scope:Rt}{pos:Pos}{it acc:QP}{env:Env}(J:Nat->QS->Prop)(turn:∀n u,J n u->QX (QY prog w) A (Tf it) (λr u1=>(r=none->R (.ok .next) u1)/\∀v,r=some v->Cm prog w A elt tg ifs env it acc (λu2=>∃m,m<n/\J m u2) v u1) zL u){n0:Nat}{u0:QS}(eA:J n0 u0):SW (QY prog w) A (.compLoop (.ListComp elt [⟨tg,iter,ifs,0⟩] scope pos) 0 it acc env) R u0:=by refine codeAny_loop rfl J (λn u ju=>?_) n0 eA;show QX _ A ((compTurn (.ListComp elt [⟨tg,iter,ifs,0⟩] scope pos) 0 it acc env).onRaise _) _ _ u;refine wpAny_noted ?_;rw[compTurn_list];refine QV (Ud (QV (Rx (turn n u ju) (λr u1 k1=>?_) λ_ _ z=>z.elim)));cases r with|none=>exact Rl (k1.1 rfl)|some v=>refine QV (Rx (k1.2 v rfl) (λ_ u2 k2=>QV (Rx k2 (λ_ u3 k3=>QV (Rx k3 (λok u4 k4=>?_) λ_ _ z=>z.elim)) λ_ _ z=>z.elim)) λ_ _ z=>z.elim);cases ok with|false=>rw[if_neg Te]at k4;exact Rl ⟨rfl,k4⟩|true=>rw[if_pos rfl]at k4;refine QV (QV (Rx k4 (λx u5 k5=>QV (Rx k5 (λ_ u6 k6=>?_) λ_ _ z=>z.elim)) λ_ _ z=>z.elim));exact Rl (Rl ⟨rfl,k6⟩)
def iM(cp:List (Nat×Str))(nT:Nat)(σ:L2.St):L2.St:=cp.map (λp=>(σ[p.1]?).join)++Rk nT none
structure Ad (cp:List (Nat×Str)) (nT:Nat) (wi:TI) (g:TG) (tc:TT) (te:TE) (σ:L2.St) (H:Hp) (Q:VK):Prop where go:wi σ H λJ H1=>∀l,H1 l=none->∃W:Nat->Nat->L2.St->Hp->Prop,(∃m,W 0 m (iM cp nT σ) (upd H1 l (.lst [])))/\∀i m σ' H',W i m σ' H'->(J.stop i H'/\Q (.ref l) H')\/(J.go i H'/\∃N:L2.St->Hp->Prop,(∀σ2 H2,N σ2 H2->∃m',m'<m/\W (i+1) m' σ2 H2)/\∀x H2,J.yld i H' x H2->g x σ' H2 λσ2 H3=>tc σ2 H3 λb H4=>if b=true then te σ2 H4 λv H5=>∃ys,H5 l=some (.lst ys)/\ys.length<Rm/\N σ2 (upd H5 l (.lst (ys++[v]))) else N σ2 H4)
section
variable{X:Cx}
def D_(K:QU):R2:=λx y H Q=>∃a b xs ys,x=.ref a/\y=.ref b/\dX K H a xs/\dX K H b ys/\xs.length+ys.length<=Rm/\∀p H',aw H H'->dX K H' p (xs++ys)->Q (.ref p) H'
theorem Gk:eG X (RZ .Add) (D_ X.K):=by
 intro pins s σ H x y v u Q I rx ry h;obtain⟨a,b,xs,ys,rfl,rfl,ha,hb,hz,q⟩:=h;cases rx;cases ry;by_cases hx:xs=[]
 ·obtain⟨i1,r1,p1,_⟩:=I.tuple ha;obtain⟨i2,r2,p2,_⟩:=I.tuple hb;obtain⟨m,F⟩:=I.fr;have e1:i1=[]:=by subst hx;cases r1;rfl
  refine add_tuples F (C7 (g:=X.base)) p1 p2 (λ_=>?_) (λz1 _=>absurd e1 z1) (λz1 _ _ _ _=>absurd e1 z1) (by rw[<-r1.length,<-r2.length];exact hz);exact⟨.ref b,H,I,rfl,q b H (aw.refl H) (by rw[hx];exact hb)⟩
 ·exact Gm pins s σ H (.ref a) (.ref b) _ _ Q I rfl rfl ⟨a,b,xs,ys,rfl,rfl,ha,hb,hx,hz,λz=>q a H (aw.refl H) (by rw[z,Sl];exact ha),λ_ p hp=>q p _ (aw.new hp) (dX.of ao)⟩
theorem vL{x:V}{us:List QP}(r:aN [x] us):∃u,us=[u]/\aS x u:=by cases r with|cons p p'=>cases p';exact⟨_,rfl,p⟩
theorem wz{prog:QZ}{w:QW}{A:Rf}{E:QP->QS->Prop}{s:QS}{t:QQ}{vs:List QP}{Q:List QP->QS->Prop}(ht:IsTup s.heap t vs.toArray)(h:Q vs {s with heap:=(s.heap.push (seqObj "list" #[] 0)).update ↑s (TH (·++vs.toArray))})(hsz:vs.length<=Rm):QX (QY prog w) A (collect (.ref t)) Q E s:=by obtain⟨o,ho,hc,n,hd⟩:=id ht;unfold collect;refine QV (wpAny_runValue (codeAny_builtin entry_proto_collect' ?_));show QX _ _ (do again (.builtin "list.__iadd__" ⟨[<-newList [],.ref t],[]⟩)) _ _ s;refine QV (wpAny_newList (Rl ⟨Code.quiet_builtin _ ↥2,?_⟩));refine codeAny_builtin entry_list_iadd' ?_;show QX _ _ (WN (.ref ↑s) (.ref t) (.ref ↑s)) _ _ {s with heap:=s.heap.push (seqObj "list" #[] 0)};unfold WN;have ho':(s.heap.push (seqObj "list" #[] 0)).get? t=some o:=RH _ ho;refine QV (wpAny_typeOf (T:="tuple") ⟨o,ho',hc⟩ ?_);rw[if_pos (by rw[show(Value.type "tuple"==Value.type "tuple")=true from rfl,Bool.or_true])];refine QV (listItems_at ho' hd ?_);refine QV (listItems_at (xs:=#[]) (n:=0) (Sn _ rfl) rfl ?_);rw[if_neg ↥1];refine QV (listUpdate_at (xs:=#[]) (n:=0) (Sn _ rfl) rfl ?_ (SY _) (by show(#[]++vs.toArray).size<=Rm+1;simp only[Array.size_append,Ry,VW];lia));refine Rl ?_;show QX (QY prog w) A (load ↑s>>=λo=>match o.data with|.seq xs _=>pure xs.toList|_=>unsupported "internal:collect") Q E {s with heap:=(s.heap.push (seqObj "list" #[] 0)).update ↑s (TH (·++vs.toArray))};refine QV (wpAny_load (get?_update_seq (Sn _ rfl) _) ?_);show QX _ _ (pure ((#[]:Array QP)++vs.toArray).toList) Q E _;rw[show((#[]:Array QP)++vs.toArray).toList=vs by simp];exact Rl h
theorem yW{prog:QZ}{w:QW}{A:Rf}{E:QP->QS->Prop}{s:QS}{t:QQ}{vs:List QP}{ns:List Int}{Q:QP->QS->Prop}(ht:IsTup s.heap t vs.toArray)(hI:IntsAre vs ns)(h64:vs.length<64)(h:∀(out:Array QP) (ns':List Int),IntsAre out.toList ns'->ns'.Perm ns->ns'.Pairwise (·<=·)->Q (.ref (↑s+1)) {s with heap:=sortedAll s.heap vs out}):QX (QY prog w) A (call (.builtin "sorted") [.ref t]) Q E s:=by
 refine Calls.call_function_entry kind_sorted plain_sorted entry_sorted (args_sorted1 _) ?_;unfold Tg.«sorted»;refine QV (m:=checkCount "sorted" 1 1 _) (Rl ?_);refine QV (wz ht ?_ (RT (Uy h64) ⋯));have z:((s.heap.push (seqObj "list" #[] 0)).update ↑s (TH (·++vs.toArray))).objs.size=↑s+1:=by rw[Heap.size_update,size_push']
 have o:(((s.heap.push (seqObj "list" #[] 0)).update ↑s (TH (·++vs.toArray))).push (seqObj "list" vs.toArray 0)).get? (↑s+1)=some (seqObj "list" vs.toArray 0):=by rw[<-z];exact Sn _ rfl
 refine QV (wpAny_newList ?_);show QX _ _ _ _ _ {s with heap:=((s.heap.push (seqObj "list" #[] 0)).update ↑s (TH (·++vs.toArray))).push (seqObj "list" vs.toArray 0)};rw[z];refine QV (Up (Uh slot_list_sort ⟨_,o,rfl⟩ entry_list_sort (list_sort_tree o hI h64 λout ns' b1 b2 b3=>⟨_,rfl,?_⟩) (args_list_sort _)));exact Rl ⟨_,rfl,h out ns' b1 b2 b3⟩
theorem wu:du X (.builtin "sorted") (λxs H Q=>∃(a:QQ) (ns:List Int),xs=[.ref a]/\dX X.K H a (ns.map V.int)/\ns.length<64/\∀(l:QQ) (ns':List Int) (H':Hp),aw H H'->H l=none->H' l=some (.lst (ns'.map V.int))->ns'.Perm ns->ns'.Pairwise (·<=·)->Q (.ref l) H'):=by
 intro pins s σ H xs us Q I r h;obtain⟨a,ns,rfl,hs,h64,q⟩:=h;obtain⟨u,rfl,ru⟩:=vL r;cases ru;obtain⟨its,rv,p,hz⟩:=I.tuple hs;have hl:=rv.length;rw[Rq]at hl;refine yW p (yh rv) ↥0 λout ns' a1 a2 a3=>?_;obtain⟨e,he⟩:=sortedAll_at s.heap its out;have hf:H (↑s+1)=none:=I.hok.fresh (Nat.le_succ _);refine⟨.ref (↑s+1),upd H (↑s+1) (.lst (ns'.map V.int)),I.laid (t':=s.toks) (λ_ _=>sortedAll_old) (Nat.le_succ _) ⟨?_,out.toList,e,oQ a1,?_⟩,rfl,q _ ns' _ (aw.new hf) hf ao a2 a3⟩;·rw[Rq,a2.length_eq];exact RT (Uy h64) ⋯
 ·simpa[seqObj]using he
end
section
variable{X:Cx}
end
theorem Bz{e:QT}{es:List QT}{env:Env}(h:Vg e=false):Rg (e::es) env=(false,Rj e env)::Rg es env:=by cases e<;>first|rfl|cases h
theorem Gw{X:Cx}{e:QT}{es:List QT}{te:TE}{t:TA}(ha:PE X e te)(hr:PA X es t)(h:Vg e=false:=by rfl):PA X (e::es) (nX te t):=c_ ha hr (Bz h)
def Ae:List (Int×Int)->TA|[]=>EL|p::r=>nX (Mt (nX (tC (.int p.1)) (nX (tC (.int p.2)) EL))) (Ae r)
@[irreducible]def Ny(ps:List (Int×Int)):TA:=Ae ps
structure pO where
 one:Int
 other:Int
 top:Int
 bot:Int
 worth:Int
structure aJ where
 things:Int
 ties:List pO
 pat:List Int
 asks:Int
structure pO.Ok (n:Int) (t:pO):Prop where
 o0:0<=t.one
 o1:t.one<t.other
 o2:t.other<n
 c0:0<=t.top
 c1:t.top<=t.bot
 b0:1<=t.bot
 b1:t.bot<=100
 w0:0<=t.worth
 w1:t.worth<=1000
 cop:Rw t.top t.bot=1
structure aJ.Ok (w:aJ):Prop where
 t0:0<=w.things
 t1:w.things<=12
 ties:∀t∈w.ties,t.Ok w.things
 len:w.ties.length<=16
 pl:(w.pat.length:Int)=w.things
 pat:∀p∈w.pat,0<=p/\p<=20
 a0:0<=w.asks
 a1:w.asks<=40
section
variable{K:QU}{H H':Hp}
end
theorem yy{t b:Int}(hb:0<b)(h0:0<=t)(h1:t<=b)(h2:b<=100):0<=(gh t b).1/\(gh t b).1<=(gh t b).2/\1<=(gh t b).2/\(gh t b).2<=100:=by
 obtain⟨d,e1,e2,e3,e4,e5⟩:=uh (t:=t) (b:=b) ↥0;generalize (gh t b).1=x at*;generalize (gh t b).2=y at*;have dp:0<d:=by
  rcases Int.lt_or_gt_of_ne e2 with z|z;·exfalso;have:y*d<0:=Int.mul_neg_of_pos_of_neg e5 z;lia
  ·exact z
 have x0:0<=x:=by
  rcases Int.lt_or_le x 0 with z|z;·have:x*d<0:=Int.mul_neg_of_neg_of_pos z dp;lia
  ·exact z
 have xy:x<=y:=by
  rcases Int.lt_or_le y x with z|z;·have:y*d<x*d:=Int.mul_lt_mul_of_pos_right z dp;lia
  ·exact z
 have yb:y<=y*d:=by have:=Int.mul_le_mul_of_nonneg_left (show(1:Int)<=d by lia) (show 0<=y by lia);lia
 exact⟨x0,xy,by lia,by lia⟩
inductive p_{α β:Type}(R:α->β->Prop):List α->List β->Prop|nil:p_ R [] []|cons{a b as bs}:R a b->p_ R as bs->p_ R (a::as) (b::bs)
namespace p_
variable{α β:Type}{R S:α->β->Prop}
theorem mono(h:∀a b,R a b->S a b):∀{as:List α}{bs:List β},p_ R as bs->p_ S as bs|_,_,.nil=>.nil|_,_,.cons x r=>.cons (h _ _ x) (mono h r)
theorem len:∀{as:List α}{bs:List β},p_ R as bs->as.length=bs.length|_,_,.nil=>rfl|_,_,.cons _ r=>by simp[len r]
theorem snoc{a:α}{b:β}(h:R a b):∀{as:List α}{bs:List β},p_ R as bs->p_ R (as++[a]) (bs++[b])|_,_,.nil=>.cons h .nil|_,_,.cons x r=>.cons x (snoc h r)
theorem get:∀{as:List α}{bs:List β}{i:Nat}{b:β},p_ R as bs->bs[i]?=some b->∃a,as[i]?=some a/\R a b|_,_,_,_,.nil,e=>by simp at e|_,_,0,_,.cons x _,e=>by simp at e;subst e;exact⟨_,rfl,x⟩|_,_,i+1,b,.cons _ r,e=>by obtain⟨v,h1,h2⟩:=get (i:=i) (b:=b) r (by simpa using e);exact⟨v,by simpa using h1,h2⟩
end p_
section
variable{K:QU}{a l:QQ}{xs:List V}{g:TG}{tc:TT}{te:TE}{Q:VK}{σ:L2.St}{H:Hp}{α β:Type}{us:List α}{cp:List (Nat×Str)}{nT:Nat}
end
theorem pA:∀{a b:List Int},a.Perm b->a.Pairwise (·<=·)->b.Pairwise (·<=·)->a=b|[],b,p,_,_=>by have:=p.length_eq;exact(Vu.mp this.symm).symm|x::a,b,p,h1,h2=>by cases b with|nil=>have:=p.length_eq;simp at this|cons y b=>
 have h1':=List.pairwise_cons.mp h1;have h2':=List.pairwise_cons.mp h2;have e:x=y:=by
  have m1:y∈x::a:=p.mem_iff.mpr ↥1;have m2:x∈y::b:=p.mem_iff.mp ↥1;rcases QN m1 with z|z;·exact z.symm
  ·rcases QN m2 with z2|z2;·exact z2
   ·have:=h1'.1 y z;have:=h2'.1 x z2;lia
 subst e;rw[pA ((List.perm_cons x).mp p) h1'.2 h2'.2]
def i4(ns:List Int):List Int:=ns.mergeSort
theorem EH{ns ns':List Int}(p:ns'.Perm ns)(h:ns'.Pairwise (·<=·)):ns'=i4 ns:=by refine pA (p.trans (List.mergeSort_perm ns _).symm) h ?_;have:=List.pairwise_mergeSort (le:=λa b:Int=>decide (a<=b)) (λa b c h1 h2=>by simp at*;lia) (λa b=>by simp;lia) ns;exact this.imp λh=>by simpa using h
theorem j9(ns:List Int):(i4 ns).Perm ns:=List.mergeSort_perm ns _
theorem jH{ns:List Int}{x:Int}:x∈i4 ns↔x∈ns:=(j9 ns).mem_iff
theorem uF(ns:List Int):(i4 ns).length=ns.length:=(j9 ns).length_eq
section
variable{X:Cx}{K:QU}{pos:Pos}
theorem CS(h:X.K=K):E2 X (Kc K):=h▸zH
theorem Ay(h:X.K=K):du X (.builtin "len") (λxs H Q=>∃p ys,xs=[.ref p]/\(i6 K H p ys\/dX K H p ys)/\Q (.int ys.length) H):=h▸mR
theorem GD{es:List QT}{k:Nat}{t:E6}{n:Nat}(hK:X.K=K)(hc:X.calm=true)(h:BN X es t)(hn:(SL es X.env).length=n:=by rfl)(hst:(SL es X.env).findIdx? (·.1)=none:=by rfl):PG X (.Tuple es k pos) (Lf K n t):=hK▸JS hc h hn hst
theorem GG{tg l:QT}{tl:TE}(h:X.K=K)(hl:PE X l tl):PI X tg l (Lh K tl):=h▸JT hl
theorem xo{tg l:QT}{tl:TE}(h:X.K=K)(hl:PE X l tl):PI X tg l (HY K tl):=h▸GF hl
end
instance:Inhabited pO:=⟨⟨0,1,1,1,0⟩⟩
def aJ.tie(W:aJ)(k:Int):pO:=W.ties.getD k.toNat default
def aJ.has(W:aJ)(k thing:Int):Bool:=(W.tie k).one==thing||(W.tie k).other==thing
def aJ.many(W:aJ)(asked:List Int)(thing:Int):Int:=((asked.filter λk=>W.has k thing).length:Nat)
def aJ.bears(W:aJ)(asked taken:List Int)(thing:Int):Bool:=!taken.contains thing&&decide (W.many asked thing<W.pat.getD thing.toNat 0)
def aJ.may(W:aJ)(asked taken:List Int)(k:Int):Bool:=!(asked.contains k||decide (W.asks<=(asked.length:Int)))&&(W.bears asked taken (W.tie k).one&&W.bears asked taken (W.tie k).other)
def aJ.askd(asked:List Int)(k:Int):List Int:=i4 (asked++[k])
def aJ.took(W:aJ)(taken:List Int)(k:Int)(truth:Bool):List Int:=if truth then i4 (taken++[(W.tie k).one,(W.tie k).other]) else taken
def aJ.rng(W:aJ):List Int:=(To W.ties.length).map Int.ofNat
def jK(W:aJ)(k:Int):Prop:=0<=k/\k<(W.ties.length:Int)
theorem jK.get{W:aJ}{k:Int}(h:jK W k):W.ties[k.toNat]?=some (W.tie k):=by
 have hk:k.toNat<W.ties.length:=by have:=h.1;have:=h.2;lia
 unfold aJ.tie;rw[WA,RS hk];rfl
theorem jK.ok{W:aJ}{k:Int}(h:jK W k)(o:W.Ok):(W.tie k).Ok W.things:=o.ties _ (QO h.get)
section
variable{K:QU}{σ:L2.St}{H:Hp}{Q:VK}{i j:Nat}{vW:V}{W:aJ}{k:Int}
end
def small(k:Int):Prop:=-1000000<=k/\k<=1000000
section
variable{K:QU}{H:Hp}
def cT(t:pO):QR:=.tuple [.int t.one,.int t.other,.tuple [.int t.top,.int t.bot],.int t.worth]
def au(W:aJ):QR:=.tuple [.int W.things,.tuple (W.ties.map cT),.tuple (W.pat.map .int),.int W.asks]
def cx(asked taken:List Int):QR:=.tuple [.tuple (asked.map .int),.tuple (taken.map .int)]
end
theorem B8:∀{bs:List Bool}{us:List QP}{i:Nat}{v:QP},aN (bs.map V.bl) us->us[i]?=some v->∃b,bs[i]?=some b/\v=.bool b|[],us,i,v,r,e=>by cases r;simp at e|b::bs,us,i,v,r,e=>by cases r with|cons p q=>cases i with|zero=>simp at e;subst e;cases p;exact⟨b,rfl,rfl⟩|succ i=>obtain⟨c,h1,h2⟩:=B8 (bs:=bs) (i:=i) (v:=v) q (by simpa using e);exact⟨c,by simpa using h1,h2⟩
theorem G7(bs:List Bool):((To bs.length).all λi=>(bs[i]?).getD true)=bs.all id:=by
 rw[VX,RV,RV];constructor;·intro h b hb;obtain⟨i,hi,rfl⟩:=List.getElem_of_mem hb;have:=h i (VL.mpr hi);rw[RS hi]at this;exact this
 ·intro h i hi;have hi':=VL.mp hi;rw[RS hi'];exact h _ (VY hi')
section
variable{X:Cx}
theorem Ce{k:Nat}{K:QU}(hr:bE k X.A)(hK:X.K=K):du X (.builtin "all") (λxs H Q=>∃(l:QQ) (bs:List Bool),xs=[.ref l]/\i6 K H l (bs.map V.bl)/\Q (.bl (bs.all id)) H):=by
 intro pins s σ H xs us Q I r h;subst hK;obtain⟨l,bs,rfl,hs,q⟩:=h;obtain⟨u,rfl,ru⟩:=vL r;cases ru;obtain⟨its,rv,p,hz⟩:=I.list hs;have hl:=p.isList;have lt:l<↑s:=by obtain⟨_,e,_⟩:=hl;exact Rp e
 refine PySem.call_all_walk (wpAny_pyIter_list hl ?_);refine⟨↑s,[↑s,l],[↑s],its.toArray.size,_,_,λi=>(bs[i]?).getD true,rfl,Walks.list (A:=X.A.in1) hr.hd _ l (Sd lt) its.toArray,⟨⟨_,Sn _ rfl,rfl,rfl⟩,hl.push _⟩,λi v s' Q' E' hP hQ=>?_,λh' tk hk=>?_⟩;·obtain⟨b,e,rfl⟩:=B8 rv (by simpa using hP);simp only[e,Vt]at hQ;exact Uc hQ
 ·have e:its.toArray.size=bs.length:=by have:=rv.length;rw[Rq]at this;simpa using this.symm
  rw[e,G7];refine⟨.bl (bs.all id),H,I.kept λb x e=>hk b x (λhm=>?_) (RH _ e),rfl,q⟩;rw[Uk.mp hm]at e;exact Tn _ (Rp e)
end
theorem B9:SC "all"=some (.builtin "all"):=by decide+kernel
section
variable{prog:QZ}{w:QW}{A:Rf}{E:QP->QS->Prop}{s:QS}
theorem ET{it t:QQ}{i:Nat}{ys}{x:QP}{Q:QP->QS->Prop}(hi:s.heap.IsTupleIter it t i)(ht:s.heap.IsTuple t ys)(hx:ys[i]?=some x)(q:∀g,g.IsTupleIter it t (i+1)->TB it s.heap g->Q x {s with heap:=g}):QX (QY prog w) A (TN (.ref it)) Q E s:=by obtain⟨o,ho,hc,hd⟩:=id hi;obtain⟨p,hp,_,n,hpd⟩:=ht;unfold TN;refine QV (UB (name:=RY "__next__") hi.typeIs VZ (Uh VZ hi.typeIs F.entry_tuple_iterator_next ?_ (F.args_tuple_iterator_next_1 _)));show QX _ _ (field (.ref it) 0>>=_) _ _ s;refine QV (SG ho hd (x:=.ref t) rfl ?_);show QX _ _ (if (Value.ref t==Value.none)=true then _ else _) _ _ s;rw[if_neg (show¬((Value.ref t==Value.none)=true) from Te)];show QX _ _ (field (.ref it) 1>>=_) _ _ s;refine QV (SG ho hd (x:=.int i 0) rfl ?_);show QX _ _ (seqItems? (.ref t)>>=_) _ _ s;refine QV (TQ hp hpd ?_);simp only[Ug,hx];refine QV (wpAny_setField ho hd ↥1 (Rl ⟨x,rfl,Rl (q _ ?_ (Heap.SameBut.update ..))⟩));refine⟨_,Heap.get?_update_self _ ho (Obj.isFreed_of_fields (Obj.data_mapFields hd _)),(Obj.cls_mapFields ..).trans hc,?_⟩;rw[Obj.data_mapFields hd];simp[rawInt]
theorem ES{it t:QQ}{i:Nat}{ys}{Q:QP->QS->Prop}(hh:A.handled=none)(hi:s.heap.IsTupleIter it t i)(ht:s.heap.IsTuple t ys)(hx:ys[i]?=none)(q:∀g e,Heap.ExtBut it s.heap g->(∃o,g.get? e=some o/\o.cls=.type "StopIteration")->E (.ref e) {s with heap:=g}):QX (QY prog w) A (TN (.ref it)) Q E s:=by
 obtain⟨o,ho,hc,hd⟩:=id hi;obtain⟨p,hp,_,n,hpd⟩:=ht;unfold TN;refine QV (UB (name:=RY "__next__") hi.typeIs VZ (Uh VZ hi.typeIs F.entry_tuple_iterator_next ?_ (F.args_tuple_iterator_next_1 _)));show QX _ _ (field (.ref it) 0>>=_) _ _ s;refine QV (SG ho hd (x:=.ref t) rfl ?_);show QX _ _ (if (Value.ref t==Value.none)=true then _ else _) _ _ s;rw[if_neg (show¬((Value.ref t==Value.none)=true) from Te)];show QX _ _ (field (.ref it) 1>>=_) _ _ s;refine QV (SG ho hd (x:=.int i 0) rfl ?_);show QX _ _ (seqItems? (.ref t)>>=_) _ _ s;refine QV (TQ hp hpd ?_);simp only[Ug,hx];refine QV (Uq (QV (wpAny_setField ho hd ↥1 ?_)));show QX _ _ (newExc (.type "StopIteration") []>>=_) _ _ _;refine QV ?_;simp only[newExc,newTuple];refine QV (TF ?_ (by size_fits));refine QV (m:=firstArgMember _ _) (wpAny_of_eq (a:=Value.none) (by first|rfl|(simp only[firstArgMember];rfl)) ?_);refine TF ?_ (by size_fits);simp only[raiseNew];refine QV (wpAny_handled ?_);first|rw[show A.in1.handled=none from hh]|rw[hh]
 refine QV (Rl (wpAny_throw ?_));exact q _ _ (((Heap.SameBut.update ..).extBut.push _).push _) ⟨_,Sn _ rfl,rfl⟩
end
structure Sc (prog:QZ) (w:QW) (it l:QQ) (St:Nat->Re->Prop) (Sq:Re->Array QP->Prop):Prop where
 stay:∀{k h h'},St k h->(∀o,h.get? it=some o->h'.get? it=some o)->St k h'
 live:∀{k h},St k h->∃o,h.get? it=some o/\∀v,o.data≠.cell v
 row:∀{h h' xs},Sq h xs->(∀o,h.get? l=some o->h'.get? l=some o)->Sq h' xs
 next:∀{A:Rf}{s:QS}{E:QP->QS->Prop}{Q:QP->QS->Prop}{k:Nat}{xs:Array QP}{x:QP},St k s.heap->Sq s.heap xs->xs[k]?=some x->(∀g,St (k+1) g->TB it s.heap g->Q x {s with heap:=g})->QX (QY prog w) A (TN (.ref it)) Q E s
 last:∀{A:Rf}{s:QS}{E:QP->QS->Prop}{Q:QP->QS->Prop}{k:Nat}{xs:Array QP},A.handled=none->St k s.heap->Sq s.heap xs->xs[k]?=none->(∀g e,Heap.ExtBut it s.heap g->(∃o,g.get? e=some o/\o.cls=.type "StopIteration")->E (.ref e) {s with heap:=g})->QX (QY prog w) A (TN (.ref it)) Q E s
theorem Km{prog:QZ}{w:QW}(it l:QQ):Sc prog w it l (λk h=>h.IsTupleIter it l k) (λh xs=>h.IsTuple l xs) where
 stay:=λst k=>st.at λo e=>k o e;live:=λst=>by obtain⟨o,e,c,d⟩:=st;exact⟨o,e,λv z=>by rw[d]at z;cases z⟩
 row:=λq k=>by obtain⟨o,e,r⟩:=q;exact⟨o,k o e,r⟩
 next:=λst sq hx q=>ET st sq hx q;last:=λhh st sq hx q=>ES hh st sq hx q
theorem G'{prog:QZ}{w:QW}(it l:QQ):Sc prog w it l (λk h=>h.IsListIter it l k) (λh xs=>h.IsList l xs) where
 stay:=λst k=>st.at λo e=>k o e;live:=λst=>by obtain⟨o,e,c,d⟩:=st;exact⟨o,e,λv z=>by rw[d]at z;cases z⟩
 row:=λq k=>by obtain⟨o,e,r⟩:=q;exact⟨o,k o e,r⟩
 next:=λst sq hx q=>wpAny_nextOf_list_item st sq hx q;last:=λhh st sq hx q=>wpAny_nextOf_list_end hh st sq hx q
structure tu (z TI TO i1 i2 l1 l2:QQ):Prop where
 a1:TO≠z
 a2:i1≠z
 a3:i2≠z
 a4:TO≠i1
 a5:TO≠i2
 a6:i1≠i2
 b1:l1≠z
 b2:l1≠TO
 b3:l1≠i1
 b4:l1≠i2
 c1:l2≠z
 c2:l2≠TO
 c3:l2≠i1
 c4:l2≠i2
section
variable{prog:QZ}{w:QW}{A:Rf}{E:QP->QS->Prop}{s:QS}{z TI TO i1 i2 l1 l2:QQ}{k:Nat}{xs ys:Array QP}{a b:QP}{S1 S2:Nat->Re->Prop}{R1 R2:Re->Array QP->Prop}
theorem KO{x y:QP}{Q:QP->QS->Prop}(P1:Sc prog w i1 l1 S1 R1)(P2:Sc prog w i2 l2 S2 R2)(D:tu z TI TO i1 i2 l1 l2)(hz:IsZip s.heap z TI TO .none)(hI:Sf s.heap TI (.ref i1) (.ref i2))(hO:Sf s.heap TO a b)(u1:S1 k s.heap)(u2:S2 k s.heap)(r1:R1 s.heap xs)(r2:R2 s.heap ys)(hx:xs[k]?=some x)(hy:ys[k]?=some y)(q:∀g,IsZip g z TI TO (rawInt ↑s)->Sf g TO x y->S1 (k+1) g->S2 (k+1) g->Sf g ↑s x y->g.objs.size=↑s+1->(∀c o,c≠z->c≠TO->c≠i1->c≠i2->s.heap.get? c=some o->g.get? c=some o)->Q (.ref ↑s) {s with heap:=g}):QX (QY prog w) A (Tg.«zip.__next__» ⟨[.ref z],[]⟩) (λf s'=>∃v,f=.done (.ret v)/\Q v s') E s:=by
 show QX _ _ (field (.ref z) 2>>=_) _ _ _;refine QV (SG hz rfl (x:=.bool false) rfl ?_);show QX _ _ (field (.ref z) 3>>=_) _ _ _;refine QV (SG hz rfl (x:=.ref TI) rfl ?_);refine QV (TQ hI rfl ?_);show QX _ _ (Wa (.ref z)>>=_) _ _ _;refine QV ?_;unfold Wa;refine QV (SG hz rfl (x:=.none) rfl (Rl ?_));simp only[if_true];refine QV (Uq ?_);refine QV (SG hz rfl (x:=.ref TO) rfl ?_);refine QV (Vh hz ↥1 λg1 z1 e1=>?_);replace z1:IsZip g1 z TI TO .ellipsis:=z1;refine QV ?_;simp only[List.zipIdx_cons,List.zipIdx_nil,Vd,Vv];refine QV (QV (wpAny_onRaise ?_));show QX _ _ (TN (.ref i1)>>=_) _ _ _;refine QV (P1.next (P1.stay u1 λo e=>e1.extBut _ _ D.a2 e) (P1.row r1 λo e=>e1.extBut _ _ D.b1 e) hx λg2 v1 e2=>Rl ?_);have O2:Sf g2 TO a b:=e2.extBut _ _ D.a4 (e1.extBut _ _ D.a1 hO);refine QV (TQ O2 rfl ?_);refine QV (WB O2 λg3 O3 e3=>?_);replace O3:Sf g3 TO x b:=O3;refine QV (wpAny_letGo (Rl ?_));refine QV (QV (wpAny_onRaise ?_));show QX _ _ (TN (.ref i2)>>=_) _ _ _;have up3:∀c o,c≠z->c≠i1->c≠TO->s.heap.get? c=some o->g3.get? c=some o:=λc o n1 n2 n3 e=>e3.extBut _ _ n3 (e2.extBut _ _ n2 (e1.extBut _ _ n1 e));refine QV (P2.next (P2.stay u2 λo e=>up3 _ _ D.a3 D.a6.symm D.a5.symm e) (P2.row r2 λo e=>up3 _ _ D.c1 D.c3 D.c2 e) hy λg4 v2 e4=>Rl ?_);have O4:Sf g4 TO x b:=e4.extBut _ _ D.a5 O3;refine QV (TQ O4 rfl ?_);refine QV (WB O4 λg5 O5 e5=>?_);replace O5:Sf g5 TO x y:=O5;refine QV (wpAny_letGo (Rl (Rl ?_)));refine QV (TQ O5 rfl ?_);refine QV (wpAny_newTuple ?_);have sz:g5.objs.size=↑s:=by rw[e5.1,e4.1,e3.1,e2.1,e1.1]
 have z5:IsZip g5 z TI TO .ellipsis:=e5.extBut _ _ D.a1.symm (e4.extBut _ _ D.a3.symm (e3.extBut _ _ D.a1.symm (e2.extBut _ _ D.a2.symm z1)));have k5:∀c o,c≠z->c≠TO->c≠i1->c≠i2->s.heap.get? c=some o->g5.get? c=some o:=λc o n1 n2 n3 n4 e=>e5.extBut _ _ n2 (e4.extBut _ _ n4 (up3 c o n1 n3 n2 e));have w1:S1 (k+1) g5:=P1.stay v1 λo e=>e5.extBut _ _ D.a4.symm (e4.extBut _ _ D.a6 (e3.extBut _ _ D.a4.symm e));have w2:S2 (k+1) g5:=P2.stay v2 λo e=>e5.extBut _ _ D.a5.symm e;have lz:z<g5.objs.size:=Rp z5;show QX _ _ (WO (.ref z) (.ref g5.objs.size)>>=_) _ _ _;refine QV ?_;unfold WO;have z6:IsZip (g5.push {cls:=.type "tuple",data:=.seq #[x,y]}) z TI TO .ellipsis:=RH _ z5;refine QV (Vh z6 ↥1 λg7 z7 e7=>?_);replace z7:IsZip g7 z TI TO (rawInt g5.objs.size):=z7;refine Vh z7 ↥1 λg8 z8 e8=>?_;replace z8:IsZip g8 z TI TO (rawInt g5.objs.size):=z8;have up:∀c o,c≠z->g5.get? c=some o->g8.get? c=some o:=λc o n e=>e8.extBut _ _ n (e7.extBut _ _ n (RH _ e));have T8:Sf g8 g5.objs.size x y:=e8.extBut _ _ (Nat.ne_of_gt lz) (e7.extBut _ _ (Nat.ne_of_gt lz) (Sn _ rfl));have n8:g8.objs.size=g5.objs.size+1:=by rw[e8.1,e7.1,SZ]
 rw[sz]at z8 T8 n8;refine Rl ⟨_,rfl,?_⟩;show Q (.ref g5.objs.size) _;rw[sz];exact q g8 z8 (up _ _ D.a1 O5) (P1.stay w1 λo e=>up _ o D.a2 e) (P2.stay w2 λo e=>up _ o D.a3 e) T8 n8 λc o n1 n2 n3 n4 e=>up c o n1 (k5 c o n1 n2 n3 n4 e)
theorem HB{Q:Fin->QS->Prop}(hh:A.handled=none)(P1:Sc prog w i1 l1 S1 R1)(P2:Sc prog w i2 l2 S2 R2)(D:tu z TI TO i1 i2 l1 l2)(hz:IsZip s.heap z TI TO .none)(hI:Sf s.heap TI (.ref i1) (.ref i2))(hO:Sf s.heap TO a b)(u1:S1 k s.heap)(u2:S2 k s.heap)(r1:R1 s.heap xs)(r2:R2 s.heap ys)(hn:xs[k]?=none\/ys[k]?=none)(q:∀g e,(∀c o,c≠z->c≠TO->c≠i1->c≠i2->s.heap.get? c=some o->g.get? c=some o)->(∃o,g.get? e=some o/\o.cls=.type "StopIteration")->E (.ref e) {s with heap:=g}):QX (QY prog w) A (Tg.«zip.__next__» ⟨[.ref z],[]⟩) Q E s:=by
 show QX _ _ (field (.ref z) 2>>=_) _ _ _;refine QV (SG hz rfl (x:=.bool false) rfl ?_);show QX _ _ (field (.ref z) 3>>=_) _ _ _;refine QV (SG hz rfl (x:=.ref TI) rfl ?_);refine QV (TQ hI rfl ?_);show QX _ _ (Wa (.ref z)>>=_) _ _ _;refine QV ?_;unfold Wa;refine QV (SG hz rfl (x:=.none) rfl (Rl ?_));simp only[if_true];refine QV (Uq ?_);refine QV (SG hz rfl (x:=.ref TO) rfl ?_);refine QV (Vh hz ↥1 λg1 z1 e1=>?_);replace z1:IsZip g1 z TI TO .ellipsis:=z1;refine QV ?_;simp only[List.zipIdx_cons,List.zipIdx_nil,Vd,Vv]
 refine QV (QV (wpAny_onRaise ?_));show QX _ _ (TN (.ref i1)>>=_) _ _ _;cases hx:xs[k]? with|none=>
  refine QV (P1.last hh (P1.stay u1 λo e=>e1.extBut _ _ D.a2 e) (P1.row r1 λo e=>e1.extBut _ _ D.b1 e) hx λg2 e e2 he=>?_);obtain⟨oe,h1,h2⟩:=he;have z2:IsZip g2 z TI TO .ellipsis:=e2 _ _ D.a2.symm z1;have nz:e≠z:=λx=>by subst x;rw[z2]at h1;cases h1;simp at h2
  refine Vh z2 ↥1 λg3 _ e3=>q g3 e (λc o n1 _ n3 _ x=>e3.extBut _ _ n1 (e2 _ _ n3 (e1.extBut _ _ n1 x))) ⟨oe,e3.extBut _ _ nz h1,h2⟩|some x=>
  have hy:ys[k]?=none:=by
   rcases hn with h|h;·rw[hx]at h;cases h
   ·exact h
  refine QV (P1.next (P1.stay u1 λo e=>e1.extBut _ _ D.a2 e) (P1.row r1 λo e=>e1.extBut _ _ D.b1 e) hx λg2 v1 e2=>Rl ?_);have O2:Sf g2 TO a b:=e2.extBut _ _ D.a4 (e1.extBut _ _ D.a1 hO);refine QV (TQ O2 rfl ?_);refine QV (WB O2 λg3 O3 e3=>?_);refine QV (wpAny_letGo (Rl ?_));refine QV (QV (wpAny_onRaise ?_));show QX _ _ (TN (.ref i2)>>=_) _ _ _;have up3:∀c o,c≠z->c≠i1->c≠TO->s.heap.get? c=some o->g3.get? c=some o:=λc o n1 n2 n3 e=>e3.extBut _ _ n3 (e2.extBut _ _ n2 (e1.extBut _ _ n1 e));refine QV (P2.last hh (P2.stay u2 λo e=>up3 _ _ D.a3 D.a6.symm D.a5.symm e) (P2.row r2 λo e=>up3 _ _ D.c1 D.c3 D.c2 e) hy λg4 e e4 he=>?_);obtain⟨oe,h1,h2⟩:=he;have z4:IsZip g4 z TI TO .ellipsis:=e4 _ _ D.a3.symm (e3.extBut _ _ D.a1.symm (e2.extBut _ _ D.a2.symm z1));have nz:e≠z:=λx=>by subst x;rw[z4]at h1;cases h1;simp at h2
  refine Vh z4 ↥1 λg5 _ e5=>q g5 e (λc o n1 n2 n3 n4 x=>e5.extBut _ _ n1 (e4 _ _ n4 (up3 c o n1 n3 n2 x))) ⟨oe,e5.extBut _ _ nz h1,h2⟩
theorem EZ{x y:QP}{Q:Option QP->QS->Prop}(P1:Sc prog w i1 l1 S1 R1)(P2:Sc prog w i2 l2 S2 R2)(D:tu z TI TO i1 i2 l1 l2)(hz:IsZip s.heap z TI TO .none)(hI:Sf s.heap TI (.ref i1) (.ref i2))(hO:Sf s.heap TO a b)(u1:S1 k s.heap)(u2:S2 k s.heap)(r1:R1 s.heap xs)(r2:R2 s.heap ys)(hx:xs[k]?=some x)(hy:ys[k]?=some y)(q:∀g,IsZip g z TI TO (rawInt ↑s)->Sf g TO x y->S1 (k+1) g->S2 (k+1) g->Sf g ↑s x y->g.objs.size=↑s+1->(∀c o,c≠z->c≠TO->c≠i1->c≠i2->s.heap.get? c=some o->g.get? c=some o)->Q (some (.ref ↑s)) {s with heap:=g}):QX (QY prog w) A (Tf (.ref z)) Q E s:=by have hT:s.TypeIs (.ref z) "zip":=⟨_,hz,rfl⟩;unfold Tf;refine QV (wpAny_attempt (UB (name:=RY "__next__") hT Wb (Uh Wb hT F.entry_zip_next ?_ (F.args_zip_next_1 _))));exact KO P1 P2 D hz hI hO u1 u2 r1 r2 hx hy λg b1 b2 b3 b4 b5 b6 b7=>Rl (q g b1 b2 b3 b4 b5 b6 b7)
theorem E1{Q:Option QP->QS->Prop}(hh:A.handled=none)(P1:Sc prog w i1 l1 S1 R1)(P2:Sc prog w i2 l2 S2 R2)(D:tu z TI TO i1 i2 l1 l2)(hz:IsZip s.heap z TI TO .none)(hI:Sf s.heap TI (.ref i1) (.ref i2))(hO:Sf s.heap TO a b)(u1:S1 k s.heap)(u2:S2 k s.heap)(r1:R1 s.heap xs)(r2:R2 s.heap ys)(hn:xs[k]?=none\/ys[k]?=none)(q:∀g,(∀c o,c≠z->c≠TO->c≠i1->c≠i2->s.heap.get? c=some o->g.get? c=some o)->Q none {s with heap:=g}):QX (QY prog w) A (Tf (.ref z)) Q E s:=by have hT:s.TypeIs (.ref z) "zip":=⟨_,hz,rfl⟩;unfold Tf;refine QV (wpAny_attempt (UB (name:=RY "__next__") hT Wb (Uh Wb hT F.entry_zip_next (HB hh P1 P2 D hz hI hO u1 u2 r1 r2 hn λg e hk he=>?_) (F.args_zip_next_1 _))));obtain⟨o,ho,hc⟩:=he;refine QV (Wc (T:="StopIteration") (b:=true) ⟨o,ho,hc⟩ isSubtype_stop ?_);exact Rl (q _ hk)
end
section
variable{X:Cx}{pins:List (QQ×Obj)}{σ:L2.St}{H:Hp}{s:QS}{h':Re}
theorem av.turnedL{t':Nat}{fp:List QQ}(I:av X pins σ H s)(hf:∀b∈fp,iG X pins H b)(k:∀b o,b∉fp->s.heap.get? b=some o->h'.get? b=some o):av X pins σ H {s with heap:=h',toks:=t'}:=by
 have hL:X.env.locals∉fp:=λz=>(hf _ z).2.1 rfl;have nit:∀b u,H b=some u->b∉fp:=λb u e z=>by have:=(hf b z).1;rw[this]at e;cases e
 refine I.step (g':=s.gens) (d':=s.drawn) (ch:=fp) (λb hb=>?_) (λb o _ _ hc e _=>k b o hc e) (λb o _ _ hc e _=>⟨o.slots,k b o hc e⟩) (λ_ _ _ _ n=>n) (λb o hc e=>⟨o,k b o hc e⟩) (λ_ _ e=>e) (λ_ _ _ e=>e) (λb ps e=>⟨#[],by rw[e];simp⟩) (λm hm=>?_) (λb u e=>?_) I.bare;·obtain⟨f0,f1,f2,f3,f4,f5⟩:=hf b hb;exact⟨f3,f1,f4,f5⟩
 ·obtain⟨o,es,ep,ho,r⟩:=hm;exact⟨o,es,ep,k _ o hL ho,r⟩
 ·refine(I.hok b u e).stay (λc v hc q=>k c v ?_ q) (λ_ q=>q) λ_ _ q=>q;rcases hc with z|z;·rw[z];exact nit b u e
  ·exact nit c _ z
theorem BZ(I:av X pins σ H s){b l:QQ}{xs:List V}(f:iG X pins H b)(q:dX X.K H l xs):l≠b:=by
 intro z;subst z;rcases q with (q|⟨o,q⟩)|⟨o,its,n,hk,_⟩;·rw[f.1]at q;cases q
 ·rw[f.1]at q;cases q
 ·have hb:X.base.get? l=some o:=I.ok.mod.kin l o hk;rcases f.2.2.2.1 with z|z;·exact I.ok.noex l o hb z
  ·exact absurd (Sb (Rp (I.ok.bs l o hb).1) z) (Tn _)
end
section
variable{prog:QZ}{w:QW}{A:Rf}{E:QP->QS->Prop}{s:QS}
end
theorem B_:SC "zip"=some (.type "zip"):=by decide+kernel
section
variable{prog:QZ}{w:QW}{A:Rf}{E:QP->QS->Prop}{s:QS}{z TI TO i1 i2 l1 l2:QQ}{k:Nat}{xs ys:Array QP}{a:QQ}{f:Bool}{S1 S2:Nat->Re->Prop}{R1 R2:Re->Array QP->Prop}
end
section
variable{prog:QZ}{w:QW}{A:Rf}{R:Result->QS->Prop}{S z TI TO i1 i2 l1 l2:QQ}{xs ys:Array QP}{n:Nat}
end
section
variable{X:Cx}{pins:List (QQ×Obj)}{σ:L2.St}{H H':Hp}{s:QS}{h':Re}
end
section
variable{prog:QZ}{w:QW}{A:Rf}{E:QP->QS->Prop}{s:QS}{e it l:QQ}{k:Nat}{xs:Array QP}{S:Nat->Re->Prop}{R:Re->Array QP->Prop}
theorem EA(P1:Sc prog w it l S R)(hh:A.handled=none)(hne:l≠it)(xs:Array QP):Draws prog w A it [it,l] xs.size (λi v=>xs[i]?=some v) (λi h=>S i h/\R h xs) where live:=λ_ _ st=>let⟨o,ho,_⟩:=P1.live st.1;⟨o,ho⟩;frame:=λ_ _ _ st hk=>⟨P1.stay st.1 λo e=>hk it ↥1 o e,P1.row st.2 λo e=>hk l ↥1 o e⟩;item:=λi s Q E hi st hQ=>P1.next st.1 st.2 (x:=xs[i]) (by simp[hi]) λg h1 h2=>hQ _ g s.toks (by simp[hi]) ⟨h1,P1.row st.2 λo e=>h2.extBut _ _ hne e⟩ h2;done:=λs Q E st hE=>P1.last hh st.1 st.2 ↥1 hE
theorem AG{i:Int}{old:QP}{Q:Option QP->QS->Prop}(P1:Sc prog w it l S R)(hh:A.handled=none)(he:IsEnum s.heap e it i old)(st:S k s.heap)(sq:R s.heap xs)(hx:xs[k]?=none)(q:∀g,Heap.ExtBut it s.heap g->Q none {s with heap:=g}):QX (QY prog w) A (Tf (.ref e)) Q E s:=by have hT:s.TypeIs (.ref e) "enumerate":=⟨_,he,rfl⟩;unfold Tf;refine QV (wpAny_attempt (UB (name:=RY "__next__") hT WC (Uh WC hT F.entry_enumerate_next ?_ (F.args_enumerate_next_1 _))));show QX _ _ (field (.ref e) 2>>=_) _ _ _;refine QV (SG he rfl (x:=.ref it) rfl ?_);refine QV (P1.last hh st sq hx λg x hk hx'=>?_);obtain⟨o,ho,hc⟩:=hx';refine QV (Wc (T:="StopIteration") (b:=true) ⟨o,ho,hc⟩ isSubtype_stop ?_);exact Rl (q _ hk)
theorem tV{i:Int}{old:QP}{Q:QP->QS->Prop}(he:IsEnum s.heap e it i old)(h:Q (.ref e) s):QX (QY prog w) A (pyIter (.ref e)) Q E s:=by have hT:s.TypeIs (.ref e) "enumerate":=⟨_,he,rfl⟩;refine wpAny_pyIter_slot hT F.slot_enumerate_iter (Uh F.slot_enumerate_iter hT F.entry_enumerate_iter ?_ (F.args_enumerate_iter_1 _));show QX _ _ (ret (.ref e)) _ _ s;exact Rl ⟨_,rfl,"enumerate",_,hT,WC.lookup,h⟩
end
section
variable{X:Cx}{pins:List (QQ×Obj)}{σ:L2.St}{H:Hp}{s:QS}
theorem Au(I:av X pins σ H s){b l:QQ}{xs:List V}(f:iG X pins H b)(q:i6 X.K H l xs):l≠b:=by
 intro z;subst z;rcases q with (q|⟨o,q⟩)|⟨o,its,n,hk,_⟩;·rw[f.1]at q;cases q
 ·rw[f.1]at q;cases q
 ·have hb:X.base.get? l=some o:=I.ok.mod.kin l o hk;rcases f.2.2.2.1 with z|z;·exact I.ok.noex l o hb z
  ·exact absurd (Sb (Rp (I.ok.bs l o hb).1) z) (Tn _)
end
def Fw(e it l:QQ)(i:Nat)(h:Re):Prop:=(∃old,IsEnum h e it i old)/\h.IsTupleIter it l i
theorem Al:∀(us:List QP) (f:Nat->Int),(∀(j:Nat) (v:QP),us[j]?=some v->∃t,v=Value.int (f j) t)->aN ((To us.length).map λj=>V.int (f j)) us|[],_,_=>.nil|u::us,f,h=>by rw[SA,List.range_succ_eq_map,Rn,SH];refine .cons (h 0 u rfl) (Al us (λj=>f (j+1)) λj v e=>h (j+1) v (by simpa using e))
def iL(n:Nat):List Int:=(To n).map Int.ofNat
theorem nH(n:Nat):(iL n).length=n:=by simp[iL]
section
variable{X:Cx}{a:QT}{ta:TA}{p p2 pos pos2:Pos}
theorem Cr(hg:Gl X "range")(hm:X.mg "range"=none)(ha:PA X [a] ta)(hs:Rg [a] X.env=[(false,Rj a X.env)]){pins:List (QQ×Obj)}{s:QS}{σ:L2.St}{H:Hp}{R:Int->Hp->Prop}(I:av X pins σ H s)(h:ta σ H λvs H1=>∃j:Int,vs=[.int j]/\R j H1):QX (QY X.prog X.w) X.A (Rj (.Call (.Name "range" p) [a] [] pos) X.env) (λv s1=>∃(r:QQ) (j:Int) (H1:Hp) (t u w:Tok),v=.ref r/\IsRange s1.heap r 0 j 1 t u w/\r<↑s1/\av X pins σ H1 s1/\R j H1) X.xe s:=by refine Call_ (kZ I hg hm boot_range (UU (bu (ha pos pins s σ H _ I h) λus s1⟨vs,H1,I1,r1,q1⟩=>?_) hs rfl));obtain⟨j,e,q⟩:=q1;subst e;cases r1 with|cons r rr=>cases rr;obtain⟨t,rfl⟩:=r;exact call_range_1 ⟨_,j,H1,_,_,_,rfl,IsRange.new ..,by simp[SZ],I1.kept λb o e=>RH _ e,q⟩
def N6(ta:TA):TE:=λσ H Q=>ta σ H λvs H1=>∃j:Int,vs=[.int j]/\(0<=j/\j<=100000/\∀l,H1 l=none->Q (.ref l) (upd H1 l (.lst ((iL j.toNat).map V.int))))
theorem vM(hc:X.calm=true)(hgl:Gl X "list")(hml:X.mg "list"=none)(hg:Gl X "range")(hm:X.mg "range"=none)(ha:PA X [a] ta)(hs:Rg [a] X.env=[(false,Rj a X.env)]:=by rfl)(he:Rg [.Call (.Name "range" p) [a] [] pos] X.env=(false,Rj (.Call (.Name "range" p) [a] [] pos) X.env)::Rg [] X.env:=by rfl):PE X (.Call (.Name "list" p2) [.Call (.Name "range" p) [a] [] pos] [] pos2) (N6 ta):=by
 intro pins s σ H Q I h;refine UX (kZ I hgl hml PyProof.Rows.boot_list ?_ ⋯ ⋯);refine UU ?_ he rfl;rw[he];refine Calls.spliced_cons (bu (Cr hg hm ha hs I h) λu s1⟨r,j,H1,t,u1,w,e,hr,lt,I1,j0,j1,q⟩=>?_);subst e;refine Rl ?_;have hsm:Builtin.Range.small 0 j 1=true:=small_one ⋯ ⋯ ↥0 ↥0;refine call_list_range (n:=j.toNat) (I1.ok.hd hc) hr hsm (by rw[rangeSize_one];split<;>lia) (RT (show j.toNat<=100000 by lia) ⋯) λh' tk acc c hk hD hI=>?_;have hf:H1 ↑s1=none:=I1.hok.fresh (Ro _);have vv:aN ((iL j.toNat).map V.int) acc.toList:=by
  have z:=Al acc.toList (λk=>(k:Int)) λk v e=>by obtain⟨t,ht⟩:=hI.2 k v (by simpa using e);exact⟨t,by rw[ht];simp⟩
  rw[VM,hI.1]at z;rw[iL,SH];exact z
 refine⟨.ref ↑s1,_,I1.laid (o:=.lst ((iL j.toNat).map V.int)) hk (Ro _) ⟨?_,acc.toList,c,vv,by simpa using hD⟩,rfl,q _ hf⟩;rw[Rq,nH,Se];lia
end
theorem Bd:fillsNumberSlot (.type "tuple") "mul"=pure false:=PySem.fillsNumberSlot_seq (id:="tuple.__mul__") (r:=some (.builtin "tuple.__rmul__")) Vw.lookup ↥2 F.slot_tuple_rmul.lookup ↥2
theorem Kh:seqRepeat? (.type "tuple")=pure (some (.builtin "tuple.__mul__")):=by unfold seqRepeat?;rw[PySem.seqSlot_of (T:="tuple") (name:="__mul__") (id:="tuple.__mul__") Vw.lookup ↥2,PySem.seqSlot_of (T:="tuple") (name:="__rmul__") (id:="tuple.__rmul__") F.slot_tuple_rmul.lookup ↥2];rfl
theorem G5(a:Int)(t:Tok)(l:QQ)(items:Array QP)(n:Nat)(dd:Option QQ)(sl:Array (Option QP)):Meets (Tg.«int.__rmul__» ⟨[.int a t,.ref l],[]⟩) (λ_ R s=>s.heap.get? l=some {cls:=.type "tuple",dict:=dd,data:=.seq items n,slots:=sl}/\R (.ok (.ret Value.notImplemented)) s):=.of_wp λprog w A R s h=>by obtain⟨hp,g,d,tk,os⟩:=s;obtain⟨hl,h⟩:=h;wp_walk;exact⟨_,rfl,h⟩
theorem Jq(l:QQ)(x:QP)(n:Nat)(k:Int)(u:Tok)(dd:Option QQ)(sl:Array (Option QP))(h0:2<=k)(h1:k<=100000):Meets (Tg.«tuple.__mul__» ⟨[.ref l,.int k u],[]⟩) (λ_ R s=>s.heap.get? l=some {cls:=.type "tuple",dict:=dd,data:=.seq #[x] n,slots:=sl}/\R (.ok (.ret (.ref ↑s))) {s with heap:=s.heap.push {cls:=.type "tuple",data:=.seq (Rk k.toNat x).toArray}}):=.of_wp λprog w A R s h=>by
 obtain⟨hp,g,d,tk,os⟩:=s;obtain⟨hl,h⟩:=h;have f1:=WD;have c1:¬(decide (k< -(2^63))||decide (k>=2^63))=true:=by simp;lia
 have c2:¬((#[x]:Array QP).isEmpty||k==1)=true:=by simp;lia
 have c3:¬(decide (k<=0)||(#[x]:Array QP).isEmpty)=true:=by simp;lia
 have c4:¬(((#[x]:Array QP).size:Int)*k>(2^63-1)/8):=by simp;lia
 have c5:¬WE (((#[x]:Array QP).size:Int)*k)=true:=by unfold WE;rw[Se];simp;lia
 wp_walk using Tu hl;rw[if_neg c1];wp_walk using Tu hl;rw[if_neg c2];wp_walk using Tu hl;rw[if_neg c3];wp_walk using Tu hl;rw[if_neg c4];show QX _ _ (if WE (((#[x]:Array QP).size:Int)*k)=true then _ else _) _ _ _;rw[if_neg c5];have f0:∀(m:Nat) (acc:Array QP),Vc (λx1 x2=>x1++x2) acc (Rk m #[x])=acc++(Rk m x).toArray:=by intro m;induction m with|zero=>intro acc;simp|succ m ih=>intro acc;rw[Ui,List.foldl_cons,ih,Ui];apply Array.toList_inj.mp;simp
 have e:Vc (λx1 x2=>x1++x2) #[] (Rk k.toNat #[x])=(Rk k.toNat x).toArray:=by rw[f0];simp
 show QX _ _ (Vb (Vc (λx1 x2=>x1++x2) #[] (Rk k.toNat #[x]))>>=λv=>ret v) _ _ _;rw[e];unfold Vb;refine QV (TF ?_ (by show(Rk k.toNat x).toArray.size<=Rm;rw[Ry,Va,Se];lia));exact Rl ⟨_,rfl,h⟩
theorem FX(l:QQ)(x:QP)(n:Nat)(u:Tok)(dd:Option QQ)(sl:Array (Option QP)):Meets (Tg.«tuple.__mul__» ⟨[.ref l,.int 0 u],[]⟩) (λ_ R s=>s.heap.get? l=some {cls:=.type "tuple",dict:=dd,data:=.seq #[x] n,slots:=sl}/\R (.ok (.ret (.ref ↑s))) {s with heap:=s.heap.push {cls:=.type "tuple",data:=.seq #[]}}):=.of_wp λprog w A R s h=>by
 obtain⟨hp,g,d,tk,os⟩:=s;obtain⟨hl,h⟩:=h;have f1:=WD;have c2:¬((#[x]:Array QP).isEmpty||(0:Int)==1)=true:=by simp
 wp_walk using Tu hl;first|rw[if_neg c2]|skip
 wp_walk using Tu hl;exact⟨_,rfl,h⟩
theorem FY(l:QQ)(x:QP)(n:Nat)(u:Tok)(dd:Option QQ)(sl:Array (Option QP)):Meets (Tg.«tuple.__mul__» ⟨[.ref l,.int 1 u],[]⟩) (λ_ R s=>s.heap.get? l=some {cls:=.type "tuple",dict:=dd,data:=.seq #[x] n,slots:=sl}/\R (.ok (.ret (.ref l))) s):=.of_wp λprog w A R s h=>by obtain⟨hp,g,d,tk,os⟩:=s;obtain⟨hl,h⟩:=h;have f1:=WD;wp_walk using Tu hl;exact⟨_,rfl,h⟩
section
variable{X:Cx}
def Eb(K:QU):R2:=λx y H Q=>∃a k v,x=.ref a/\y=.int k/\dX K H a [v]/\0<=k/\k<=100000/\∀p H',aw H H'->dX K H' p (Rk k.toNat v)->Q (.ref p) H'
theorem Gu:eG X (RZ .Mult) (Eb X.K):=by
 intro pins s σ H x y v u Q I rx ry h;obtain⟨a,k,z,rfl,rfl,ha,k0,k1,q⟩:=h;cases rx;obtain⟨t,rfl⟩:=ry;obtain⟨its,r,p,hz⟩:=I.tuple ha;obtain⟨uz,rfl,rz⟩:=vL r;obtain⟨⟨cls,dd,data,sl⟩,ho,hc,n,hd⟩:=id p;simp only at hc hd;subst hc hd;refine wpAny_binaryOp_repeat_ref (T:="tuple") (U:="int") ⋯ ⟨_,ho,rfl⟩ (λs'=>Vq s' k t) Bd F.fills_int_mul VS Kh F.slot_int_index.lookup (TK VS (Vq s k t) F.entry_int_rmul (F.args_int_rmul_2 _ _) (G5 k t a #[uz] n dd sl) ⟨ho,rfl,⟨_,ho,rfl⟩,?_⟩);have new:∀m:Nat,m=k.toNat->EP X pins σ Q (.ref ↑s) {s with heap:=s.heap.push {cls:=.type "tuple",data:=.seq (Rk m uz).toArray},toks:=s.toks}:=λm hm=>by
  have hf:H ↑s=none:=I.hok.fresh (Ro _);have vv:∀j:Nat,aN (Rk j z) (Rk j uz):=λj=>by induction j with|zero=>exact .nil|succ j ih=>exact .cons rz ih
  refine⟨.ref ↑s,_,I.laid (t':=s.toks) (o:=.tup (Rk m z)) (λb ob q=>RH _ q) (Ro _) ⟨by rw[Va,Se];lia,_,vv m,qe.new _ _⟩,rfl,q _ _ (aw.new hf) (dX.of (by rw[ao,hm]))⟩
 rcases(by lia:k=0\/k=1\/2<=k) with e|e|e;·subst e;exact TK Vw ⟨_,ho,rfl⟩ F.entry_tuple_mul (F.args_tuple_mul_2 _ _) (FX a uz n t dd sl) ⟨ho,new 0 rfl⟩
 ·subst e;exact TK Vw ⟨_,ho,rfl⟩ F.entry_tuple_mul (F.args_tuple_mul_2 _ _) (FY a uz n t dd sl) ⟨ho,⟨.ref a,H,I,rfl,q a H (aw.refl H) ha⟩⟩
 ·exact TK Vw ⟨_,ho,rfl⟩ F.entry_tuple_mul (F.args_tuple_mul_2 _ _) (Jq a uz n k t dd sl e k1) ⟨ho,new _ rfl⟩
end
section
variable{prog:QZ}{w:QW}{A:Rf}{E:QP->QS->Prop}{s:QS}
end
section
variable{X:Cx}{a:QT}{ta:TA}{p p2 p3 pos pos2 pos3:Pos}
end
theorem AF(l:QQ)(xs:Array QP):Meets (Tg.«enumerate.__new__» ⟨[.type "enumerate",.ref l],[]⟩) (λ_ R s=>s.heap.IsTuple l xs/\R (.ok (.ret (.ref (↑s+1)))) {s with heap:=(s.heap.push {cls:=.type "tuple_iterator",data:=.fields #[.ref l,.int 0 0]}).push {cls:=.type "enumerate",data:=.fields #[.none,.bool false,.ref ↑s,rawInt 0,.none,.none]}}):=.of_wp λprog w A R s h=>by
 obtain⟨hp,g,d,tk,os⟩:=s;obtain⟨ht,h⟩:=h;have a1:=sub_enumerate;have T1:Heap.IsTuple (Shared.heap ⟨hp,g,d,tk,os⟩) l xs:=ht;obtain⟨⟨cls,dd,data,sl⟩,ho,hc,n,hd⟩:=id ht;simp only at hc hd;subst hc hd;wp_walk using Tu ho;refine wpAny_stack_any λst=>Rl ?_;split
 ·rename_i c _ _ _ _ _;cases (c==Value.type "enumerate");·wp_walk using Tu ho,Vm T1;refine⟨_,rfl,?_⟩;simp only[SZ];exact h
  ·wp_walk using Tu ho,Vm T1;refine⟨_,rfl,?_⟩;simp only[SZ];exact h
 ·wp_walk using Tu ho,Vm T1;refine⟨_,rfl,?_⟩;simp only[SZ];exact h
section
variable{prog:QZ}{w:QW}{A:Rf}{E:QP->QS->Prop}{s:QS}
theorem yf{l:QQ}{xs:Array QP}{Q:QP->QS->Prop}(t1:s.heap.IsTuple l xs)(h:∀g,Fw (↑s+1) ↑s l 0 g->(∀c o,s.heap.get? c=some o->g.get? c=some o)->Q (.ref (↑s+1)) {s with heap:=g}):QX (QY prog w) A (call (.type "enumerate") [.ref l]) Q E s:=by
 refine callType_new F.called_enumerate ⋯ (F.typeCall_enumerate_1 _) (F.newCall_enumerate_1 _) (λobj=>F.args_object_init_2 obj _) F.entry_enumerate_new (AF l xs) ⟨t1,?_⟩;have g2:((s.heap.push {cls:=.type "tuple_iterator",data:=.fields #[.ref l,.int 0 0]}).push {cls:=.type "enumerate",data:=.fields #[.none,.bool false,.ref ↑s,rawInt 0,.none,.none]}).get? (↑s+1)=some {cls:=.type "enumerate",data:=.fields #[.none,.bool false,.ref ↑s,rawInt 0,.none,.none]}:=by
  have e:↑s+1=(s.heap.push {cls:=.type "tuple_iterator",data:=.fields #[.ref l,.int 0 0]}).objs.size:=by simp only[SZ]
  rw[e];exact Sn _ rfl
 exact⟨⟨_,g2,rfl⟩,h _ ⟨⟨.none,g2⟩,⟨_,RH _ (Sn _ rfl),rfl,rfl⟩⟩ λc o x=>RH _ (RH _ x)⟩
end
theorem qr:SC "enumerate"=some (.type "enumerate"):=by decide+kernel
section
variable{X:Cx}{K:QU}{es:List QT}{k0:Nat}{tp:Pos}{a:QT}{ta:TA}{p pos:Pos}
end
section
variable{prog:QZ}{w:QW}{A:Rf}{E:QP->QS->Prop}{s:QS}
end
section
variable{prog:QZ}{w:QW}{A:Rf}{E:QP->QS->Prop}{s:QS}
end
section
variable{prog:QZ}{w:QW}{A:Rf}{E:QP->QS->Prop}{s:QS}
end
theorem Cn{X:Cx}{ix:Nat}{nm:Str}{posn:Pos}{pins:List (QQ×Obj)}{σ:L2.St}{D0:pD}(hNd:X.N.Nodup)(hix:X.N[ix]?=some nm)(hlc:X.env.scope.names.lookup nm=some .local)(C D:QQ)(H5:Hp)(s6:QS)(hn:∃m,s6.heap.Ns C m)(qn:D0.nx (σ.set ix (some (.ref D))) H5)(fC:iG X pins H5 C)(key:∀h',TB C s6.heap h'->av X pins σ H5 {s6 with heap:=h'}):compPost (QY X.prog X.w) X.A X.xe (some (SE (.Name nm posn) X.env)) (λ_ s'=>QX (QY X.prog X.w) X.A (pure ()) (λ_ s''=>QX (QY X.prog X.w) X.A (pure Flow.next) (SP X pins D0) X.xe s'') X.xe s') (.ref D) C (.ok .next) s6:=by
 obtain⟨m,hn⟩:=hn;show QX (QY X.prog X.w) X.A (SE (.Name nm posn) X.env (.ref D)) _ X.xe s6;refine wpAny_assign_Name (uG (v:=.ref D) (key s6.heap ⟨rfl,λ_ _=>rfl⟩) hNd hix (Or.inl hlc) rfl (λs' I' hsb=>?_) (Or.inr hlc));obtain⟨a,sb,ha⟩:=hsb;have nCa:C≠a:=by
  rcases ha with z|z;·rw[z];exact fC.2.1
  ·exactλe=>fC.2.2.2.2.1 _ _ z e.symm
 obtain⟨oN,esN,epN,hoN,rN⟩:=hn;refine⟨m,⟨oN,esN,epN,(sb.2 C nCa).trans hoN,rN⟩,λh' sb'=>Rl (Rl ?_)⟩;have I8:av X pins (σ.set ix (some (.ref D))) H5 {s' with heap:=h',toks:=s'.toks}:=I'.turnedL (t':=s'.toks) (fp:=[C]) (λb hb=>by rw[Uk.mp hb];exact fC) λb o nb e=>sb'.extBut b o (by simpa using nb) e;exact⟨_,H5,I8,qn⟩
section
variable(P:QZ)(w:QW)
end
section
variable{P:QZ}{w:QW}{H H':Hp}{h h':Re}{a:QQ}{o:HO}
end
section
variable{P:QZ}{w:QW}{H:Hp}{h h':Re}{x e:QQ}{o':HO}
end
section
variable{fs fs' ex ex':List QQ}{H H1 H2:Hp}{h h1 h2 h':Re}{a x e:QQ}{o:HO}
end
section
variable{X:Cx}{pins:List (QQ×Obj)}{σ:List (Option V)}{H H':Hp}{s:QS}{h':Re}
end
section
variable{X:Cx}
variable{a b:QT}{ta tb:TE}{pos:Pos}
variable{tA tB':TT}{dg:List QT}
end
section
variable{X:Cx}{pins:List (QQ×Obj)}{σ:St}{H:Hp}{s:QS}{a:QQ}{xs ys:List V}
end
section
variable{X:Cx}{pins:List (QQ×Obj)}{σ:St}{H:Hp}{s:QS}{E:QP->QS->Prop}
end
section
variable{X:Cx}{st:Rh}{dg:List Rh}{t u:TS}{e:QT}{te:TE}{pos:Pos}
end
section
variable{X:Cx}{pos:Pos}
end
section
variable{X:Cx}{pos:Pos}
end
section
variable{X:Cx}{tg:QT}
end
section
variable{X:Cx}{a b c:QT}{ta tb tc:TE}{pos:Pos}
end
section
variable{X:Cx}{a b c:QT}{ta tb tc:TE}{pos:Pos}
end
section
variable{prog:QZ}{w:QW}{A:Rf}{E:QP->QS->Prop}{s:QS}{K:QU}{x dx C f:QQ}{mA:Str->Option QP}{name:Str}{v:QP}
end
section
variable{P:QZ}{w:QW}{H H':Hp}{h h':Re}{a C dx:QQ}{fs fs':List (Str×V)}
end
section
variable{X:Cx}{pins:List (QQ×Obj)}{σ:St}{H:Hp}{s:QS}{a C dx:QQ}{fs:List (Str×V)}{f:Str}{v:V}{A:Rf}{E:QP->QS->Prop}
end
section
variable{X:Cx}{o e value:QT}{f:Str}{pos pos' tpos:Pos}{ta tv:TE}
end
section
variable{X:Cx}{pins:List (QQ×Obj)}{σ:St}{H:Hp}{s:QS}{A:Rf}{E:QP->QS->Prop}{Q:QP->QS->Prop}{c:QP}{b:Bool}
end
section
variable{X:Cx}{e:QT}{es:List QT}{te:TE}{t:TA}{pos:Pos}
end
section
variable{X:Cx}{pins:List (QQ×Obj)}{σ:St}{H:Hp}{s s':QS}
end
section
variable{X:Cx}{CX:sO}{k:Nat}{f C:QQ}{fd:RJ}{ps:List Str}{sp:Sp}{dvs:List V}{ds:List QP}{E:XK}{x m:Str}{p pos apos:Pos}{e o:QT}{es:List QT}{ta:TE}{t:TA}
end
section
variable{X:Cx}{CX:sO}{k:Nat}{f C:QQ}{fd:RJ}{ps ks:List Str}{sp:Sp}{E:XK}{x m:Str}{p pos apos kpos:Pos}{e o:QT}{es:List QT}{kws:List Sw}{te ta:TE}{t tk:TA}{nm:Option Str}
variable{g:List QP->List QP->List QP}{gV:List V->List V->List V}
end
section
variable{X:Cx}{x:Str}{p pos:Pos}{e:QT}{es:List QT}{t:TA}{id T:String}{r:List V->Hp->VK->Prop}
end
section
variable{κ:Type}[DecidableEq κ]
def mE(kvs:List (κ×V))(k:κ):Option V:=(kvs.find? λkv=>decide (kv.1=k)).map (·.2)
def j4(kvs:List (κ×V))(k:κ)(v:V):List (κ×V):=if (kvs.any λkv=>decide (kv.1=k))=true then kvs.map (λkv=>if kv.1=k then(kv.1,v) else kv) else kvs++[(k,v)]
theorem lD{p:κ×V}{r:List (κ×V)}{k:κ}(e:p.1=k):mE (p::r) k=some p.2:=by simp[mE,RL,e]
theorem lC{p:κ×V}{r:List (κ×V)}{k:κ}(e:¬p.1=k):mE (p::r) k=mE r k:=by simp[mE,RL,e]
theorem sJ(k:κ):∀kvs:List (κ×V),(kvs.any λkv=>decide (kv.1=k))=(mE kvs k).isSome
 |[]=>rfl|p::r=>by
  rw[Us];by_cases e:p.1=k;·simp only[lD e,decide_eq_true e,Bool.true_or,Option.isSome_some]
  ·rw[lC e,decide_eq_false e,Wd];exact sJ k r
theorem k7(kvs:List (κ×V))(k:κ)(v:V):(j4 kvs k v).length<=kvs.length+1:=by
 unfold j4;split;·rw[Rq];lia
 ·rw[RW,SA,VW];lia
theorem pE.isSome_eq{o:Option V}{u:Option QP}(r:pE o u):o.isSome=u.isSome:=by cases o with
 |none=>cases u with|none=>rfl|some _=>exact(show False from r).elim
 |some _=>cases u with|none=>exact(show False from r).elim|some _=>rfl
theorem KV.val{kvs:List (κ×V)}{vs:List (κ×QP)}(r:KV kvs vs)(k:κ):pE (mE kvs k) (valueAt vs k):=by unfold KV at r;induction r with|nil=>exact Tv|@cons p q ps qs h t ih=>
 obtain⟨h1,h2⟩:=h;by_cases e:p.1=k
 ·have e':q.1=k:=h1.symm.trans e;have b:valueAt (q::qs) k=some q.2:=by simp[valueAt,RL,e']
  rw[lD e,b];exact h2
 ·have e':¬q.1=k:=λz=>e (h1.trans z);have b:valueAt (q::qs) k=valueAt qs k:=by simp[valueAt,RL,e']
  rw[lC e,b];exact ih
theorem KV.any{kvs:List (κ×V)}{vs:List (κ×QP)}(r:KV kvs vs)(k:κ):(kvs.any λkv=>decide (kv.1=k))=vs.any λkv=>decide (kv.1=k):=by unfold KV at r;induction r with|nil=>rfl|cons h t ih=>rw[Us,Us,ih,h.1]
theorem KV.repl{kvs:List (κ×V)}{vs:List (κ×QP)}(r:KV kvs vs)(k:κ){y:V}{u:QP}(ry:aS y u):KV (kvs.map λkv=>if kv.1=k then(kv.1,y) else kv) (vs.map λkv=>if kv.1=k then(kv.1,u) else kv):=by unfold KV at r⊢;induction r with|nil=>exact .nil|@cons p q ps qs h t ih=>
 rw[Rn,Rn];refine .cons ?_ ih;obtain⟨h1,h2⟩:=h;by_cases e:p.1=k;·rw[if_pos e,if_pos (h1.symm.trans e)];exact⟨h1,ry⟩
 ·rw[if_neg e,if_neg (λz=>e (h1.trans z))];exact⟨h1,h2⟩
theorem KV.put{kvs:List (κ×V)}{vs:List (κ×QP)}(r:KV kvs vs)(k:κ){y:V}{u:QP}(ry:aS y u):KV (j4 kvs k y) (stored vs k u):=by
 unfold j4 stored;rw[r.any k];by_cases e:(vs.any λkv=>decide (kv.1=k))=true;·rw[if_pos e,if_pos e];exact r.repl k ry
 ·rw[if_neg e,if_neg e];exact Paired.snoc r ⟨rfl,ry⟩
theorem KV.length{kvs:List (κ×V)}{vs:List (κ×QP)}(r:KV kvs vs):kvs.length=vs.length:=VJ r
end
theorem ud{P:QZ}{w:QW}{k:dh}{u:QP}(r:aS (kV k) u):(bQ P w).is k u=true:=by cases k with|inl i=>obtain⟨t,e⟩:=(show∃t,u=Value.int i t from r);subst e;exact xa P w i t|inr x=>obtain⟨t,e⟩:=(show∃t,u=Value.str x t from r);subst e;exact xb P w x t
theorem ua{P:QZ}{w:QW}:∀{ks:List dh}{us:List QP},aN (ks.map kV) us->ItemsAre (bQ P w) ks us|[],_,r=>by rw[RQ]at r;cases r;exact .nil|k::ks,_,r=>by rw[Rn]at r;cases r with|cons h t=>exact .cons (ud h) (ua t)
abbrev KT(H:Hp):List (List dh×V)->List (List dh×QQ×QP)->Prop:=Paired λp q=>p.1=q.1/\H q.2.1=some (.tup (p.1.map kV))/\aS p.2 q.2.2
theorem KT.val{H:Hp}{kvs:List (List dh×V)}{xs:List (List dh×QQ×QP)}(r:KT H kvs xs)(k:List dh):pE (mE kvs k) ((Sr xs k).map (·.2)):=by induction r with|nil=>exact Tv|@cons p q ps qs h t ih=>
 obtain⟨h1,_,h2⟩:=h;by_cases e:p.1=k
 ·have e':q.1=k:=h1.symm.trans e;have b:Sr (q::qs) k=some q.2:=by simp[Sr,RL,e']
  rw[lD e,b];exact h2
 ·have e':¬q.1=k:=λz=>e (h1.trans z);have b:Sr (q::qs) k=Sr qs k:=by simp[Sr,RL,e']
  rw[lC e,b];exact ih
theorem KT.repl{H:Hp}{kvs:List (List dh×V)}{xs:List (List dh×QQ×QP)}(r:KT H kvs xs)(k:List dh){y:V}{u:QP}(ry:aS y u):KT H (kvs.map λkv=>if kv.1=k then(kv.1,y) else kv) (xs.map (putAt k u)):=by induction r with|nil=>exact .nil|@cons p q ps qs h t ih=>
 rw[Rn,Rn];refine .cons ?_ ih;obtain⟨h1,h2,h3⟩:=h;unfold putAt;by_cases e:p.1=k;·rw[if_pos e,if_pos (h1.symm.trans e)];exact⟨h1,h2,ry⟩
 ·rw[if_neg e,if_neg (λz=>e (h1.trans z))];exact⟨h1,h2,h3⟩
theorem KT.put{H:Hp}{kvs:List (List dh×V)}{xs:List (List dh×QQ×QP)}(r:KT H kvs xs)(k:List dh){b:QQ}{y:V}{u:QP}(hb:H b=some (.tup (k.map kV)))(ry:aS y u):KT H (j4 kvs k y) (storedH xs k b u):=by
 have e:(kvs.any λkv=>decide (kv.1=k))=(Sr xs k).isSome:=by rw[sJ,(r.val k).isSome_eq,UH]
 unfold j4 storedH;rw[e];by_cases q:(Sr xs k).isSome=true;·rw[if_pos q,if_pos q];exact r.repl k ry
 ·rw[if_neg q,if_neg q];exact Paired.snoc r ⟨rfl,hb,ry⟩
theorem KT.keeps{H H':Hp}{kvs:List (List dh×V)}{xs:List (List dh×QQ×QP)}(r:KT H kvs xs)(ht:∀b ys,H b=some (.tup ys)->H' b=some (.tup ys)):KT H' kvs xs:=Paired.mapP r λ_ _ z=>⟨z.1,ht _ _ z.2.1,z.2.2⟩
section
variable{P:QZ}{w:QW}{H:Hp}{h:Re}{a:QQ}
theorem Im{u:HO}(ok:l7 P w H h)(e:Rd H a u):bv P w H h a u:=e.ok ok
theorem wH{kvs:List (dh×V)}(ok:l7 P w H h)(e:Rd H a (.dK kvs)):kvs.length<=Rm/\(a==So)=false/\∃vs,KV kvs vs/\h.DictOf (bQ P w) a vs:=show bv P w H h a (.dK kvs) from Im ok e
theorem HR{kvs:List (dh×V)}(ok:l7 P w H h)(e:H a=some (.dK kvs)):kvs.length<=Rm/\(a==So)=false/\∃vs,KV kvs vs/\h.DictOf (bQ P w) a vs:=wH ok (.inl e)
theorem rh{ks:List dh}(ok:l7 P w H h)(e:H a=some (.tup (ks.map kV))):(Ub (bQ P w)).is h ks a:=by obtain⟨_,its,r,o,h1,h2,n,h3,_⟩:=(show bv P w H h a (.tup (ks.map kV)) from ok a _ e);exact⟨o,its.toArray,n,h1,h2,h3,by simpa using ua r⟩
theorem wI{kvs:List (List dh×V)}(ok:l7 P w H h)(e:Rd H a (.dT kvs)):kvs.length<=Rm/\(a==So)=false/\∃xs,KT H kvs xs/\h.DictOfH (Ub (bQ P w)) a xs:=by
 obtain⟨z,y,xs,r,o,es,ep,h1,h2,h3,h4,h5⟩:=(show bv P w H h a (.dT kvs) from Im ok e);refine⟨z,y,xs,r,o,es,ep,h1,h2,h3,h4,λx hx=>?_,h5⟩;have all:∀{l:List (List dh×V)}{m:List (List dh×QQ×QP)},KT H l m->∀x∈m,(Ub (bQ P w)).is h x.1 x.2.1:=by intro l m q;induction q with|nil=>intro x hx;exact nomatch hx|@cons p q ps qs hq t ih=>
  intro x hx;rcases QN hx with e|hx;·subst e;exact rh ok (by rw[<-hq.1];exact hq.2.1)
  ·exact ih x hx
 exact all r x hx
theorem K_{kvs:List (List dh×V)}(ok:l7 P w H h)(e:H a=some (.dT kvs)):kvs.length<=Rm/\(a==So)=false/\∃xs,KT H kvs xs/\h.DictOfH (Ub (bQ P w)) a xs:=wI ok (.inl e)
end
def nZ(H:Hp)(a:QQ)(y:V)(r:Option V):Prop:=(∃kvs k,Rd H a (.dK kvs)/\y=kV k/\r=mE kvs k)\/∃kvs k b,Rd H a (.dT kvs)/\y=.ref b/\H b=some (.tup (k.map kV))/\r=mE kvs k
def BU(H:Hp)(a:QQ)(y v:V)(H':Hp):Prop:=(∃kvs k,H a=some (.dK kvs)/\y=kV k/\kvs.length<Rm/\H'=upd H a (.dK (j4 kvs k v)))\/∃kvs k b,H a=some (.dT kvs)/\y=.ref b/\H b=some (.tup (k.map kV))/\kvs.length<Rm/\H'=upd H a (.dT (j4 kvs k v))
theorem nZ.k{H:Hp}{a:QQ}{kvs:List (dh×V)}{k:dh}(e:H a=some (.dK kvs)):nZ H a (kV k) (mE kvs k):=.inl ⟨kvs,k,.inl e,rfl,rfl⟩
theorem BU.k{H:Hp}{a:QQ}{kvs:List (dh×V)}{k:dh}{v:V}(e:H a=some (.dK kvs))(hl:kvs.length<Rm):BU H a (kV k) v (upd H a (.dK (j4 kvs k v))):=.inl ⟨kvs,k,e,rfl,hl,rfl⟩
section
variable{X:Cx}{pins:List (QQ×Obj)}{σ:St}{H:Hp}{s:QS}{a:QQ}{y v:V}{u r:QP}{o:Option V}{A:Rf}{E:QP->QS->Prop}
theorem av.big(I:av X pins σ H s):So<↑s:=by have h:RN<↑s:=(I.mod.glob.keeps I.bk).lt;exact Nat.lt_trans ⋯ h
theorem AD{Q:QP->QS->Prop}(hu:A.units+1<Sa)(I:av X pins σ H s)(g:nZ H a y (some v))(ry:aS y u)(h:∀w' s',av X pins σ H s'->aS v w'->Q w' s'):QX (QY X.prog X.w) A (Tq (.ref a) u) Q E s:=by
 rcases g with⟨kvs,k,e,ey,l⟩|⟨kvs,k,b,e,ey,eb,l⟩;·subst ey;obtain⟨z,hd,vs,rel,dd⟩:=wH I.hok e;obtain⟨w',hw,rw'⟩:=pE.some_of (v:=v) (o:=valueAt vs k) (by rw[l];exact rel.val k);exact wpAny_getItem_of (ud ry) dd.mapOf hw (h w' _ (I.tok _) rw')
 ·subst ey;cases (show u=Value.ref b from ry);obtain⟨z,hd,xs,rel,dd⟩:=wI I.hok e;obtain⟨w',hw,rw'⟩:=pE.some_of (v:=v) (o:=(Sr xs k).map (·.2)) (by rw[l];exact rel.val k);obtain⟨p,hp,hp2⟩:=QJ hw;refine wpAny_getItem_heap (We hu) (rh I.hok eb) dd hp ?_;rw[hp2];exact h w' _ (I.tok _) rw'
theorem M4{Q:QP->QS->Prop}(hu:A.units+1<Sa)(I:av X pins σ H s)(g:nZ H a y o)(ry:aS y u)(h:∀s',av X pins σ H s'->Q (.bool o.isSome) s'):QX (QY X.prog X.w) A (RI .In u (.ref a)) Q E s:=by
 rcases g with⟨kvs,k,e,ey,l⟩|⟨kvs,k,b,e,ey,eb,l⟩;·subst ey;obtain⟨z,hd,vs,rel,dd⟩:=wH I.hok e;refine wpAny_in_of (ud ry) hd dd.mapOf ?_;rw[<-(rel.val k).isSome_eq,<-l];exact h _ (I.tok _)
 ·subst ey;cases (show u=Value.ref b from ry);obtain⟨z,hd,xs,rel,dd⟩:=wI I.hok e;refine wpAny_in_heap (We hu) (rh I.hok eb) hd dd ?_;have q:=(rel.val k).isSome_eq;rw[UH]at q;rw[<-q,<-l];exact h _ (I.tok _)
theorem Fv{Q:QP->QS->Prop}(hu:A.units+1<Sa)(I:av X pins σ H s)(g:nZ H a y o)(ry:aS y u)(h:∀s',av X pins σ H s'->Q (.bool (!o.isSome)) s'):QX (QY X.prog X.w) A (RI .NotIn u (.ref a)) Q E s:=by
 rcases g with⟨kvs,k,e,ey,l⟩|⟨kvs,k,b,e,ey,eb,l⟩;·subst ey;obtain⟨z,hd,vs,rel,dd⟩:=wH I.hok e;refine wpAny_notIn_of (ud ry) hd dd.mapOf ?_;rw[<-(rel.val k).isSome_eq,<-l];exact h _ (I.tok _)
 ·subst ey;cases (show u=Value.ref b from ry);obtain⟨z,hd,xs,rel,dd⟩:=wI I.hok e;refine wpAny_notIn_heap (We hu) (rh I.hok eb) hd dd ?_;have q:=(rel.val k).isSome_eq;rw[UH]at q;rw[<-q,<-l];exact h _ (I.tok _)
theorem pT{h':Re}{t':Nat}{ob:HO}(I:av X pins σ H s)(mu:KR (H a))(hs:TB a s.heap h')(he:∃q,h'.get? a=some q)(new:bv X.prog X.w (upd H a ob) h' a ob):av X pins σ (upd H a ob) {s with heap:=h',toks:=t'}:=I.write (x:=a) (e:=a) mu (.inl rfl) (λb q hb z=>(hs.2 b hb).trans z) he new
theorem Cp{P:QZ}{w:QW}{H':Hp}{h':Re}{kvs:List (dh×V)}{vs:List (dh×QP)}(z:kvs.length<=Rm)(hd:(a==So)=false)(rel:KV kvs vs)(dd:h'.DictOf (bQ P w) a vs):bv P w H' h' a (.dK kvs):=⟨z,hd,vs,rel,dd⟩
theorem AE{H':Hp}{Q:Unit->QS->Prop}(hu:A.units+1<Sa)(I:av X pins σ H s)(g:BU H a y v H')(ry:aS y u)(rv:aS v r)(h:∀s',av X pins σ H' s'->Q () s'):QX (QY X.prog X.w) A (setItem (.ref a) u r) Q E s:=by
 rcases g with⟨kvs,k,e,ey,l,eH⟩|⟨kvs,k,b,e,ey,eb,l,eH⟩
 ·subst ey eH;obtain⟨z,hd,vs,rel,dd⟩:=HR I.hok e;have hz:vs.length<=Rm:=by rw[<-rel.length];exact z
  have hl:(j4 kvs k v).length<=Rm:=by have:=k7 kvs k v;lia
  refine wpAny_setItem_pairs (hsz:=hz) (ud ry) dd λh' dd' hs=>h _ ?_;have he:∃q,h'.get? a=some q:=let⟨q,_,_,hq,_⟩:=dd';⟨q,hq⟩;exact pT I (by rw[e];exact Tv) hs he (Cp hl hd (rel.put k rv) dd')
 ·subst ey eH;cases (show u=Value.ref b from ry);obtain⟨z,hd,xs,rel,dd⟩:=K_ I.hok e;have hz:xs.length<=Rm:=by rw[<-VJ rel];exact z
  have hl:(j4 kvs k v).length<=Rm:=by have:=k7 kvs k v;lia
  refine wpAny_setItem_heap (hsz:=hz) (We hu) (rh I.hok eb) dd λh' dd' hs=>h _ ?_;obtain⟨q,es,ep,hq,h2,h3,h4,_,h5⟩:=dd';refine pT I (by rw[e];exact Tv) hs ⟨q,hq⟩ ⟨hl,hd,_,(rel.put k eb rv).keeps λc ys ec=>?_,q,es,ep,hq,h2,h3,h4,h5⟩;rw[aq (LC ec e (λz=>nomatch z))];exact ec
end
section
variable{X:Cx}{pins:List (QQ×Obj)}{σ:St}{H:Hp}{s:QS}{a:QQ}{kvs:List (dh×V)}{k:dh}{u:QP}{A:Rf}{E:QP->QS->Prop}
end
def Aq(i:QT):Prop:=∀ov iv,subscripted i false ov iv=operate [ov,iv] (Tq ov iv)
theorem Ab{prog:QZ}{w:QW}{A:Rf}{E:QP->QS->Prop}{s:QS}{env:Env}{value slice:QT}{pos:Pos}{T id:String}{Q:QP->QS->Prop}(hl:typeLookup (.type T) "__getitem__"=pure (some (.builtin id)))(hs:Aq slice)(h:QX (QY prog w) A (Rj value env) (λo s₁=>QX (QY prog w) A (Rj slice env) (λi s₂=>s₂.TypeIs o T/\QX (QY prog w) A (Tq o i) Q E s₂) E s₁) E s):QX (QY prog w) A (Rj (.Subscript value slice pos) env) Q E s:=by
 refine Subscript_ (Rx h (λo s₁ h₁=>Rx h₁ (λi s₂ h₂=>?_) λ_ _ x=>x) λ_ _ x=>x);obtain⟨hT,h₂⟩:=h₂;unfold subscriptTail;refine QV ?_;rw[getitemInPython_of_ne hT.not_modules];refine QV (wpAny_specialOf hT hl ?_);have fin:QX (QY prog w) A (subscripted slice false o i) (λr s₃=>QX (QY prog w) A (letTemporaryGo value o r>>=λ_=>pure r) Q E s₃) E s₂:=by rw[hs o i];exact wpAny_operating (Rx h₂ (λr s₃ h₃=>QV (wpAny_letTemporaryGo (Rl h₃))) λ_ _ x=>x)
 first|exact Rl (QV fin)|exact QV (Rl (QV fin))|exact QV fin
theorem wF{X:Cx}{pins:List (QQ×Obj)}{σ:St}{H:Hp}{s:QS}{a:QQ}{y:V}{o:Option V}(I:av X pins σ H s)(g:nZ H a y o):s.TypeIs (.ref a) "dict":=by
 rcases g with⟨kvs,k,e,_,_⟩|⟨kvs,k,b,e,_,_,_⟩;·obtain⟨_,_,vs,_,dd⟩:=wH I.hok e;exact dd.typeIs
 ·obtain⟨_,_,xs,_,dd⟩:=wI I.hok e;exact dd.typeIs
def Mj(td ty:TE):TE:=λσ H Q=>td σ H λx H1=>ty σ H1 λy H2=>∃a v,x=.ref a/\nZ H2 a y (some v)/\Q v H2
def Ma(td ty tv:TE):TS:=λD σ H=>tv σ H λv H1=>td σ H1 λx H2=>ty σ H2 λy H3=>∃a H4,x=.ref a/\BU H3 a y v H4/\D.nx σ H4
section
variable{X:Cx}{o i e value:QT}{pos pos' tpos:Pos}{td ty tv:TE}
theorem GA(hu:X.A.units+1<Sa)(ho:PE X o td)(hi:PE X i ty)(hs:Aq i):PE X (.Subscript o i pos) (Mj td ty):=by intro pins s σ H Q I h;refine Ab PySem.F.slot_dict_getitem.lookup hs (bu (ho pins s σ H _ I h) λu s1⟨x,H1,I1,rx,q1⟩=>bu (hi pins s1 σ H1 _ I1 q1) λiv s2⟨y,H2,I2,ry,a,v,ex,g,q2⟩=>?_);subst ex;obtain rfl:u=Value.ref a:=rx;exact⟨wF I2 g,AD hu I2 g ry λw' s3 I3 rw'=>⟨v,H2,I3,rw',q2⟩⟩
theorem GM(hu:X.A.units+1<Sa)(ho:PE X o td)(hi:PE X i ty)(hv:PE X value tv)(hs:SV value (some (.Subscript o i pos')) pos.line X.env=pure false):PS X (.Assign [.Subscript o i pos'] value pos) (Ma td ty tv):=by intro pins s σ H D I h;refine wpAny_Assign_Subscript (bu (hv pins s σ H _ I h) λr s1⟨v,H1,I1,rv,q1⟩=>bu (ho pins s1 σ H1 _ I1 q1) λu s2⟨x,H2,I2,rx,q2⟩=>bu (hi pins s2 σ H2 _ I2 q2) λiv s3⟨y,H3,I3,ry,a,H4,ex,g,q3⟩=>?_) hs;subst ex;obtain rfl:u=Value.ref a:=rx;exact AE hu I3 g ry rv λs4 I4=>⟨σ,H4,I4,q3⟩
end
theorem wG{P:QZ}{w:QW}{H:Hp}(h:Re)(hb:So<h.objs.size):bv P w H (h.push {cls:=.type "dict",data:=.dict #[]}) h.objs.size (.dK []):=⟨SY _,beq_eq_false_iff_ne.mpr (Rz (Sd hb)),[],.nil,Heap.DictOf.new h⟩
def Kv:TE:=λ_ H Q=>∀p,H p=none->Q (.ref p) (upd H p (.dK []))
section
variable{X:Cx}{pos:Pos}
theorem Dn:PE X (.Dict [] [] pos) Kv:=λpins s σ H Q I h=>wpAny_Dict_empty ⟨.ref ↑s,_,I.laid (a:=↑s) (o:=.dK []) (t':=s.toks) (λ_ _ q=>RH _ q) (Ro _) (wG s.heap I.big),rfl,h _ (I.hok.fresh (Ro _))⟩
end
def vX:List (TE×TE)->St->Hp->(List (V×V)->Hp->Prop)->Prop|[],_,H,Q=>Q [] H|(tk,tv)::r,σ,H,Q=>tk σ H λx H1=>tv σ H1 λy H2=>vX r σ H2 λps H3=>Q ((x,y)::ps) H3
abbrev VV:List (V×V)->List (QP×QP)->Prop:=Paired λp q=>aS p.1 q.1/\aS p.2 q.2
def MF(X:Cx)(pos:Pos)(keys:List (Option QT))(values:List QT)(trs:List (TE×TE)):Prop:=∀(pins:List (QQ×Obj)) (s:QS) (σ:St) (H:Hp) (Q:List (V×V)->Hp->Prop),av X pins σ H s->vX trs σ H Q->QX (QY X.prog X.w) X.A (evalPairs (pairTrees keys values X.env pos)) (λvs s'=>∃ps H',av X pins σ H' s'/\VV ps vs/\Q ps H') X.xe s
theorem GL{X:Cx}{pos:Pos}:MF X pos [] [] []:=λpins s σ H Q I h=>pairTrees_nil_walk ⟨[],H,I,.nil,h⟩
theorem DB{X:Cx}{pos:Pos}{k v:QT}{ks:List (Option QT)}{vs:List QT}{tk tv:TE}{trs:List (TE×TE)}(hk:PE X k tk)(hv:PE X v tv)(hr:MF X pos ks vs trs):MF X pos (some k::ks) (v::vs) ((tk,tv)::trs):=λpins s σ H Q I h=>pairTrees_cons_walk (bu (hk pins s σ H _ I h) λu s1⟨x,H1,I1,rx,q1⟩=>bu (hv pins s1 σ H1 _ I1 q1) λw2 s2⟨y,H2,I2,ry,q2⟩=>bu (hr pins s2 σ H2 _ I2 q2) λws s3⟨ps,H3,I3,rel,q3⟩=>⟨(x,y)::ps,H3,I3,.cons ⟨rx,ry⟩ rel,q3⟩)
def ox(kvs more:List (dh×V)):List (dh×V):=more.foldl (λacc kv=>j4 acc kv.1 kv.2) kvs
theorem KV.merge:∀{more:List (dh×V)}{rs:List (dh×QP)}{kvs:List (dh×V)}{vs:List (dh×QP)},KV more rs->KV kvs vs->KV (ox kvs more) (merged vs rs):=by intro more rs kvs vs r;unfold KV at r;induction r generalizing kvs vs with|nil=>intro q;exact q|@cons p q ps qs h t ih=>
 intro r0;have e:KV (j4 kvs p.1 p.2) (stored vs q.1 q.2):=by have:=r0.put p.1 h.2;rw[<-h.1];exact this
 exact ih e
theorem lY:∀(more kvs:List (dh×V)),(ox kvs more).length<=kvs.length+more.length|[],kvs=>by show kvs.length<=kvs.length+0;lia|p::r,kvs=>by have h1:=lY r (j4 kvs p.1 p.2);have h2:=k7 kvs p.1 p.2;show(ox (j4 kvs p.1 p.2) r).length<=_;rw[SA];lia
theorem qu{P:QZ}{w:QW}:∀{kvs:List (dh×V)}{ws:List (QP×QP)},VV (kvs.map λkv=>(kV kv.1,kv.2)) ws->∃rs,Carries (bQ P w) ws rs/\KV kvs rs|[],_,r=>by rw[RQ]at r;cases r;exact⟨[],Tv,.nil⟩|p::kvs,_,r=>by rw[Rn]at r;cases r with|@cons a b as bs h t=>obtain⟨rs,c,q⟩:=qu (P:=P) (w:=w) t;obtain⟨b1,b2⟩:=b;exact⟨(p.1,b2)::rs,⟨ud h.1,rfl,c⟩,.cons ⟨rfl,h.2⟩ q⟩
def Mk(trs:List (TE×TE)):TE:=λσ H Q=>∀p,H p=none->vX trs σ (upd H p (.dK [])) λps H2=>H2 p=some (.dK [])/\∃kvs:List (dh×V),ps=kvs.map (λkv=>(kV kv.1,kv.2))/\kvs.length<=15/\Q (.ref p) (upd H2 p (.dK (ox [] kvs)))
theorem GB{X:Cx}{pos:Pos}{keys:List (Option QT)}{values:List QT}{trs:List (TE×TE)}(h:MF X pos keys values trs)(hall:keys.all (·.isSome)=true)(hl:keys.length=values.length)(h0:keys≠[])(h15:keys.length<=15):PE X (.Dict keys values pos) (Mk trs):=by
 intro pins s σ H Q I q;have hn:=I.hok.fresh (Ro ↑s);have I1:=I.laid (a:=↑s) (o:=.dK []) (h':=s.heap.push {cls:=.type "dict",data:=.dict #[]}) (t':=s.toks) (λ_ _ q=>RH _ q) (Ro _) (wG s.heap I.big);refine wpAny_Dict_walk (knd:=bQ X.prog X.w) hall hl h0 h15 (bu (h pins _ σ _ _ I1 (q _ hn)) λws s2⟨ps,H2,I2,rel,e,kvs,ep,lk,q2⟩=>?_);subst ep;obtain⟨rs,c,rk⟩:=qu (P:=X.prog) (w:=X.w) rel;obtain⟨z,hd,vs0,r0,dd⟩:=HR I2.hok e;cases r0;refine⟨rs,c,dd,λh' dd' hs=>⟨.ref ↑s,_,?_,rfl,q2⟩⟩;have hz:(ox [] kvs).length<=Rm:=by have h1:=lY kvs [];rw[VW]at h1;rw[Se];lia
 have he:∃q,h'.get? ↑s=some q:=let⟨q,_,_,hq,_⟩:=dd';⟨q,hq⟩;exact pT I2 (by rw[e];exact Tv) hs he (Cp hz hd (rk.merge .nil) dd')
section
variable{X:Cx}{pins:List (QQ×Obj)}{σ:St}{H:Hp}{s:QS}{a:QQ}{y d:V}{u r:QP}{o:Option V}{A:Rf}{E:QP->QS->Prop}
end
section
variable{X:Cx}{o e f:QT}{apos cpos:Pos}{td ty tx:TE}
end
section
variable{X:Cx}{pins:List (QQ×Obj)}{σ:St}{H:Hp}{s:QS}{a:QQ}{kvs:List (dh×V)}{A:Rf}{E:QP->QS->Prop}
end
section
variable{X:Cx}{pins:List (QQ×Obj)}{σ:St}{H:Hp}{s:QS}{a:QQ}{y:V}{u:QP}{A:Rf}{E:QP->QS->Prop}
end
end L2
namespace Att
open PySem PySem.W PySem.Calls PyProof.Rows
section
variable{prog:QZ}{w:QW}{A:Rf}{E:QP->QS->Prop}{s:QS}{K:Frag}
end
end Att
namespace L2
open PySem PySem.Spec PyProof.Rows
section
variable{P:QZ}{w:QW}{K:QU}{mg:Str->Option QP}{base:Re}
end
section
variable{X:Cx}
end
section
variable{κ:Type}[DecidableEq κ]
end
abbrev SK:=List Int×List Int
def jg(P:QZ)(w:QW)(h:Re)(k:SK)(a:QQ):Prop:=∃(o:Obj) (b c:QQ) (n:Nat),h.get? a=some o/\o.cls=.type "tuple"/\o.data=.seq #[.ref b,.ref c] n/\IsTupleKey (SU P w) h k.1 b/\IsTupleKey (SU P w) h k.2 c
def EF(P:QZ)(w:QW)(k:SK):Int:=reduceHash (Wf [tupleKeyHash (SU P w) k.1,tupleKeyHash (SU P w) k.2])
theorem Mf(a:QQ):slotArgs "__hash__" 0 {pos:=[Value.ref a]}=(pure (Value.ref a,[]):Sem (QP×List QP)):=by with_unfolding_all rfl
section
variable{P:QZ}{w:QW}{A:Rf}{E:QP->QS->Prop}{s:QS}{h h':Re}{a b d:QQ}{x y k:SK}
theorem jg.inj(p:jg P w h x a)(q:jg P w h y a):x=y:=by obtain⟨o,b,c,n,h1,h2,h3,h4,h5⟩:=p;obtain⟨o',b',c',n',g1,g2,g3,g4,g5⟩:=q;rw[h1]at g1;cases g1;rw[h3]at g3;cases g3;exact Prod.ext ((Ub (SU P w)).inj h4 g4) ((Ub (SU P w)).inj h5 g5)
theorem jg.keeps{o:Obj}{es:Array DictEntry}{ep:Nat}(p:jg P w h k a)(hd:h.get? d=some o)(ho:o.data=.dict es ep)(hs:TB d h h'):jg P w h' k a:=by
 obtain⟨o',b,c,n,h1,h2,h3,h4,h5⟩:=p;have ne:a≠d:=λe=>by subst e;rw[hd]at h1;cases h1;rw[ho]at h3;cases h3
 exact⟨o',b,c,n,(hs.2 a ne).trans h1,h2,h3,(Ub (SU P w)).keeps h4 hd ho hs,(Ub (SU P w)).keeps h5 hd ho hs⟩
theorem jg.hash{Q:Int->QS->Prop}(hu:A.units+1<Sa)(p:jg P w s.heap k a)(h:Q (EF P w k) {s with toks:=s.toks+(k.1.length+k.2.length+3)}):QX (QY P w) A (pyHash (.ref a)) Q E s:=by
 obtain⟨o,b,c,n,ha,ho,hd,hb,hc⟩:=p;show QX (QY P w) A (pyHashByItsType (.ref a)) Q E s;refine W.pyHash_slot (T:="tuple") ⟨_,ha,ho⟩ F.slot_tuple_hash F.entry_tuple_hash (F.args_tuple_hash_1 _) rfl (.inr ↥0) ?_;unfold Tg.«tuple.__hash__»;refine QV ?_;rw[Mf];refine Rl ?_;refine QV (wpAny_tupleItemsOf ha hd ?_);refine QV ?_;rw[<-WG];simp only[Vd,Vv,bind_assoc,pure_bind];refine QV (wpAny_pyHash_tuple (by show A.units+1<_;exact hu) hb ?_);refine QV (wpAny_pyHash_tuple (by show A.units+1<_;exact hu) hc (Rl ?_));unfold retInt;refine QV (wpAny_mkInt (Rl ⟨_,_,rfl,?_⟩));have e:s.toks+(k.1.length+1)+(k.2.length+1)+1=s.toks+(k.1.length+k.2.length+3):=by lia
 rw[<-e]at h;exact h
theorem pj(n:Nat):∀(l:List QP),(∀v∈l,eqIsQuiet n v=pure true)->(forIn l ((none,()):Option Bool×Unit) λy __s=>do let __do_lift<-eqIsQuiet n y if (!__do_lift)=true then pure (ForInStep.done (some false,()))else pure (Uj (none,())):Sem (Option Bool×Unit))=pure (none,())|[],_=>rfl|v::l,hl=>by rw[Vd,hl v ↥1];simp only[pure_bind,UI,Ve,if_false];exact pj n l λu hu=>hl u (by simp[hu])
theorem uc:∀(ks:List Int) (items:List QP),PySem.ItemsAre (SU P w) ks items->∀v∈items,carriedByValue v=true
 |_,_,.nil,v,hv=>by cases hv|_,_,.cons h t,v,hv=>by
  rcases QN hv with rfl|hv;·exact(SU P w).byValue _ _ h
  ·exact uc _ _ t v hv
theorem rT{n:Nat}{ks:List Int}{Q:Bool->QS->Prop}(p:IsTupleKey (SU P w) s.heap ks a)(h:Q true s):QX (QY P w) A (eqIsQuiet (n+1) (.ref a)) Q E s:=by obtain⟨o,items,m,h1,h2,h3,h4⟩:=p;rw[eqIsQuiet.eq_2];refine QV (wpAny_specialOf (T:="tuple") ⟨_,h1,h2⟩ F.slot_tuple_eq.lookup ?_);refine QV (Wc (T:="tuple") (b:=true) ⟨_,h1,h2⟩ (by with_unfolding_all rfl) ?_);refine QV (TQ h1 h3 ?_);refine QV ?_;rw[<-WG];show QX _ _ (forIn items.toList _ _) _ _ _;rw[pj n _ λv hv=>eqIsQuiet_byValue n (uc _ _ h4 v hv)];exact Rl (Rl h)
theorem jg.quiet{Q:Bool->QS->Prop}(p:jg P w s.heap k a)(h:Q true s):QX (QY P w) A (eqIsQuiet 8 (.ref a)) Q E s:=by obtain⟨o,b,c,n,h1,h2,h3,hb,hc⟩:=p;rw[eqIsQuiet.eq_2];refine QV (wpAny_specialOf (T:="tuple") ⟨_,h1,h2⟩ F.slot_tuple_eq.lookup ?_);refine QV (Wc (T:="tuple") (b:=true) ⟨_,h1,h2⟩ (by with_unfolding_all rfl) ?_);refine QV (TQ h1 h3 ?_);refine QV ?_;rw[<-WG];show QX _ _ (forIn [Value.ref b,Value.ref c] _ _) _ _ _;simp only[Vd,Vv,bind_assoc];refine QV (rT hb ?_);simp only[UI,Ve,if_false,pure_bind];refine QV (rT hc ?_);simp only[UI,Ve,if_false,pure_bind];exact Rl (Rl h)
def yV(k:SK):QR:=.tuple [.tuple (k.1.map .int),.tuple (k.2.map .int)]
theorem ot:∀(ks:List Int) (items:List QP),PySem.ItemsAre (SU P w) ks items->Ut h items (ks.map .int) []
 |_,_,.nil=>.nil|_,_,.cons (k:=k) (v:=v) h t=>by
  have h:UO k v=true:=h;cases v with|int i tk=>
   have e:i=k:=by simpa[UO]using h
   subst e;exact .cons (as:=[]) (bs:=[]) (.int i tk) (ot _ _ t)|_=>cases h
theorem jg.reads(p:jg P w h k a):Reads h (.ref a) (yV k) []:=by obtain⟨o,b,c,n,h1,h2,h3,⟨o1,i1,m1,b1,b2,b3,b4⟩,⟨o2,i2,m2,c1,c2,c3,c4⟩⟩:=p;exact .tuple h1 h2 h3 (.cons (as:=[]) (bs:=[]) (.tuple b1 b2 b3 (ot _ _ b4)) (.cons (as:=[]) (bs:=[]) (.tuple c1 c2 c3 (ot _ _ c4)) .nil))
theorem EG:∀ns:List Int,SB (ns.map .int)=true|[]=>by simp[SB]|n::r=>by simp[SB,Sm,EG r]
theorem sA:∀ns:List Int,Th (ns.map .int)<=1|[]=>by simp[Th]|n::r=>by have:=sA r;simp[Th,SQ];lia
theorem sy(k:SK):SI (yV k)=true:=by have h1:=sA k.1;have h2:=sA k.2;simp[yV,SI,Sm,SB,EG,SQ,Th];lia
theorem z_:∀as bs:List Int,TV (as.map .int) (bs.map .int)=decide (as=bs)|[],[]=>by simp[TV]|[],_::_=>by simp[TV]|_::_,[]=>by simp[TV]|a::as,b::bs=>by simp only[Rn,TV,z_ as bs,Ss];by_cases e:a=b<;>by_cases f:as=bs<;>simp[e,f]
theorem Hc(x y:SK):(yV x).eqv (yV y)=decide (x=y):=by obtain⟨a,b⟩:=x;obtain⟨c,d⟩:=y;simp only[yV,Ss,TV,z_];by_cases e:a=c<;>by_cases f:b=d<;>simp[e,f]
theorem jg.eqB{Q:Bool->QS->Prop}(hu:A.units+64<Sa)(p:jg P w s.heap x a)(q:jg P w s.heap y b)(h:Q (decide (x=y)) s):QX (QY P w) A (eqBool (.ref a) (.ref b)) Q E s:=by
 unfold eqBool;refine Up ?_;by_cases e:(Value.ref a==Value.ref b)=true
 ·rw[if_pos e];have e':a=b:=by simpa using e
  subst e';have xy:=p.inj q;rw[decide_eq_true xy]at h;exact QV (Uq (Rl h))
 ·rw[if_neg e];show QX _ _ (do let __do_lift<-richCompare CmpOp.Eq (.ref a) (.ref b);truthOfDropped __do_lift) _ _ _;refine QV ?_;change QX _ _ (RI CmpOp.Eq (.ref a) (.ref b)) _ _ _;refine SeqAt.compareEq_shaped p.reads q.reads (sy x) (sy y) hu ?_;rw[Hc];exact Uc h
end
def gR(P:QZ)(w:QW):HeapKind P w SK where is:=jg P w;hash:=EF P w;draws:=λk=>k.1.length+k.2.length+3;room:=λA=>A.units+64<Sa;inj:=jg.inj;keeps:=jg.keeps;pyHash:=λhu p h=>p.hash ↥0 h;eqBool:=λhu p q h=>p.eqB hu q h;quiet:=λp h=>p.quiet h
abbrev SD:=List (SK×QQ×V)
def N4(k:SK):Int:=reduceHash (Wf [reduceHash (Wf (k.1.map hashInt)),reduceHash (Wf (k.2.map hashInt))])
def Me(q:SK×QQ×QP):DictEntry:=⟨N4 q.1,.ref q.2.1,q.2.2⟩
abbrev sL:SD->List (SK×QQ×QP)->Prop:=Paired λp q=>p.1=q.1/\p.2.1=q.2.1/\aS p.2.2 q.2.2
def x6(a:QQ)(kvs:SD)(h:Re):Prop:=kvs.length<=Rm/\(a==So)=false/\(kvs.map (·.1)).Nodup/\∃xs,sL kvs xs/\∃o es ep,h.get? a=some o/\o.ExactDict/\o.data=.dict es ep/\es.toList=xs.map Me
def E5(a:QQ)(kvs:SD):HO:=.ext (x6 a kvs)
def xV(a:QQ):SD->HO|[]=>.dK []|p::r=>E5 a (p::r)
def dO(K:QU)(H:Hp)(k:SK)(b:QQ):Prop:=∃c d,dX K H b [.ref c,.ref d]/\dX K H c (k.1.map .int)/\dX K H d (k.2.map .int)
def eC(kvs:SD)(k:SK):Option V:=(kvs.find? λp=>decide (p.1=k)).map (·.2.2)
def uo(k:SK)(v:V)(p:SK×QQ×V):SK×QQ×V:=if p.1=k then(p.1,p.2.1,v) else p
def iU(kvs:SD)(k:SK)(b:QQ)(v:V):SD:=if (eC kvs k).isSome then kvs.map (uo k v) else kvs++[(k,b,v)]
theorem x6.stay{a:QQ}{kvs:SD}{h h':Re}(p:x6 a kvs h)(hs:∀o,h.get? a=some o->h'.get? a=some o):x6 a kvs h':=by obtain⟨z,y,n,xs,r,o,es,ep,h1,h2⟩:=p;exact⟨z,y,n,xs,r,o,es,ep,hs o h1,h2⟩
theorem x6.obj{P:QZ}{w:QW}{H:Hp}{a:QQ}{kvs:SD}{h:Re}(p:x6 a kvs h):bv P w H h a (E5 a kvs):=by refine⟨p,?_,λh1 h2 q hs=>q.stay hs⟩;obtain⟨z,y,n,xs,r,o,es,ep,h1,h2⟩:=p;exact⟨o,h1⟩
theorem vQ{P:QZ}{w:QW}:∀{ks:List Int}{us:List QP},aN (ks.map V.int) us->PySem.ItemsAre (SU P w) ks us|[],_,r=>by rw[RQ]at r;cases r;exact .nil|k::ks,_,r=>by rw[Rn]at r;cases r with|cons h t=>obtain⟨tk,e⟩:=h;subst e;exact .cons (by show UO k (.int k tk)=true;simp[UO]) (vQ t)
theorem sL.keys{kvs:SD}{xs:List (SK×QQ×QP)}(r:sL kvs xs):kvs.map (·.1)=xs.map (·.1):=by induction r with|nil=>rfl|cons h t ih=>rw[Rn,Rn,ih,h.1]
theorem sL.at_key{kvs:SD}{xs:List (SK×QQ×QP)}(r:sL kvs xs)(k:SK):pE (eC kvs k) ((Sr xs k).map (·.2)):=by induction r with|nil=>exact trivial|@cons p q ps qs h t ih=>
 obtain⟨h1,h2,h3⟩:=h;by_cases e:p.1=k
 ·have e':q.1=k:=h1.symm.trans e;have a1:eC (p::ps) k=some p.2.2:=by simp[eC,RL,e]
  have a2:Sr (q::qs) k=some q.2:=by simp[Sr,RL,e']
  rw[a1,a2];exact h3
 ·have e':¬q.1=k:=λz=>e (h1.trans z);have a1:eC (p::ps) k=eC ps k:=by simp[eC,RL,e]
  have a2:Sr (q::qs) k=Sr qs k:=by simp[Sr,RL,e']
  rw[a1,a2];exact ih
section
variable{X:Cx}{pins:List (QQ×Obj)}{σ:L2.St}{H:Hp}{s:QS}{a b:QQ}{k:SK}{v:V}{r:QP}{kvs:SD}{A:Rf}{E:QP->QS->Prop}
theorem av.sk(I:av X pins σ H s)(h:dO X.K H k b):jg X.prog X.w s.heap k b:=by obtain⟨c,d,h1,h2,h3⟩:=h;obtain⟨i1,r1,⟨o,e1,e2,n,e3⟩,_⟩:=I.tuple h1;obtain⟨i2,r2,⟨o2,f1,f2,n2,f3⟩,_⟩:=I.tuple h2;obtain⟨i3,r3,⟨o3,g1,g2,n3,g3⟩,_⟩:=I.tuple h3;cases r1 with|@cons _ u _ us q1 t1=>cases t1 with|@cons _ u2 _ us2 q2 t2=>cases t2;cases (show u=Value.ref c from q1);cases (show u2=Value.ref d from q2);exact⟨o,c,d,n,e1,e2,e3,⟨o2,i2.toArray,n2,f1,f2,f3,by simpa using vQ r2⟩,⟨o3,i3.toArray,n3,g1,g2,g3,by simpa using vQ r3⟩⟩
theorem av.sd1(I:av X pins σ H s)(e:H a=some (E5 a kvs))(hk:∀p∈kvs,dO X.K H p.1 p.2.1):kvs.length<=Rm/\(a==So)=false/\∃xs,sL kvs xs/\Heap.DictOfH (gR X.prog X.w) s.heap a xs:=by
 obtain⟨⟨z,y,n,xs,r,o,es,ep,h1,h2,h3,h4⟩,_⟩:=(show bv X.prog X.w H s.heap a (E5 a kvs) from I.hok a _ e);refine⟨z,y,xs,r,o,es,ep,h1,h2,h3,h4,?_,by rw[<-sL.keys r];exact n⟩;intro x hx;have all:∀{l:SD}{m:List (SK×QQ×QP)},sL l m->(∀p∈l,dO X.K H p.1 p.2.1)->∀x∈m,jg X.prog X.w s.heap x.1 x.2.1:=by intro l m q;induction q with|nil=>intro _ x hx;exact nomatch hx|@cons p q ps qs hq t ih=>
  intro hl x hx;rcases QN hx with e|hx;·subst e;rw[<-hq.1,<-hq.2.1];exact I.sk (hl p ↥1)
  ·exact ih (λp hp=>hl p (by simp[hp])) x hx
 exact all r hk x hx
theorem av.sd(I:av X pins σ H s)(e:H a=some (xV a kvs))(hk:∀p∈kvs,dO X.K H p.1 p.2.1):kvs.length<=Rm/\(a==So)=false/\∃xs,sL kvs xs/\Heap.DictOfH (gR X.prog X.w) s.heap a xs:=by cases kvs with|cons p r=>exact I.sd1 e hk|nil=>
 obtain⟨_,hS,vs,kv,o,es,ep,ho,hx,hd,_,hp,_⟩:=(show bv X.prog X.w H s.heap a (.dK []) from I.hok a _ e);cases kv;have e0:∀L,Pairs (bQ X.prog X.w) L []->L=[]:=λL h=>by cases h;rfl
 have e0:=e0 _ hp;exact⟨SY _,hS,[],.nil,o,es,ep,ho,hx,hd,e0,(λx hx=>nomatch hx),List.nodup_nil⟩
theorem DN{kvs:SD}{k:SK}{b:QQ}{v:V}:∃p r,iU kvs k b v=p::r:=by
 unfold iU;split;·cases kvs with|nil=>rename_i h;simp[eC]at h|cons p r=>exact⟨_,_,rfl⟩
 ·cases kvs with|nil=>exact⟨_,_,rfl⟩|cons p r=>exact⟨_,_,rfl⟩
theorem zh{a:QQ}{kvs:SD}{k:SK}{b:QQ}{v:V}:xV a (iU kvs k b v)=E5 a (iU kvs k b v):=by obtain⟨p,r,e⟩:=DN (kvs:=kvs) (k:=k) (b:=b) (v:=v);rw[e];rfl
theorem Fi{H:Hp}{a:QQ}{kvs:SD}(e:H a=some (xV a kvs)):KR (H a):=by rw[e];cases kvs<;>exact Tv
theorem yT{Q:QP->QS->Prop}(hu:A.units+65<Sa)(I:av X pins σ H s)(e:H a=some (xV a kvs))(hk:∀p∈kvs,dO X.K H p.1 p.2.1)(hb:dO X.K H k b)(hv:eC kvs k=some v)(h:∀w' s',av X pins σ H s'->aS v w'->Q w' s'):QX (QY X.prog X.w) A (Tq (.ref a) (.ref b)) Q E s:=by obtain⟨z,hd,xs,rel,dd⟩:=I.sd e hk;obtain⟨w',hw,rw'⟩:=pE.some_of (v:=v) (o:=(Sr xs k).map (·.2)) (by rw[<-hv];exact sL.at_key rel k);obtain⟨p,hp,hp2⟩:=QJ hw;refine wpAny_getItem_heap (knd:=gR X.prog X.w) (show A.units+1+64<Sa by lia) (I.sk hb) dd hp ?_;rw[hp2];exact h w' _ (I.tok _) rw'
theorem z9{Q:QP->QS->Prop}(hu:A.units+65<Sa)(I:av X pins σ H s)(e:H a=some (xV a kvs))(hk:∀p∈kvs,dO X.K H p.1 p.2.1)(hb:dO X.K H k b)(h:∀s',av X pins σ H s'->Q (.bool (eC kvs k).isSome) s'):QX (QY X.prog X.w) A (RI .In (.ref b) (.ref a)) Q E s:=by obtain⟨z,hd,xs,rel,dd⟩:=I.sd e hk;refine wpAny_in_heap (knd:=gR X.prog X.w) (show A.units+1+64<Sa by lia) (I.sk hb) hd dd ?_;have q:=(sL.at_key rel k).isSome_eq;rw[UH]at q;rw[<-q];exact h _ (I.tok _)
theorem EC{Q:QP->QS->Prop}(hu:A.units+65<Sa)(I:av X pins σ H s)(e:H a=some (xV a kvs))(hk:∀p∈kvs,dO X.K H p.1 p.2.1)(hb:dO X.K H k b)(h:∀s',av X pins σ H s'->Q (.bool (!(eC kvs k).isSome)) s'):QX (QY X.prog X.w) A (RI .NotIn (.ref b) (.ref a)) Q E s:=by obtain⟨z,hd,xs,rel,dd⟩:=I.sd e hk;refine wpAny_notIn_heap (knd:=gR X.prog X.w) (show A.units+1+64<Sa by lia) (I.sk hb) hd dd ?_;have q:=(sL.at_key rel k).isSome_eq;rw[UH]at q;rw[<-q];exact h _ (I.tok _)
theorem sL.repl{xs:List (SK×QQ×QP)}(q:sL kvs xs)(k:SK){u:QP}(rv:aS v u):sL (kvs.map (uo k v)) (xs.map (putAt k u)):=by induction q with|nil=>exact .nil|@cons p q ps qs h t ih=>
 rw[Rn,Rn];refine .cons ?_ ih;obtain⟨h1,h2,h3⟩:=h;unfold putAt uo;by_cases e:p.1=k;·rw[if_pos e,if_pos (h1.symm.trans e)];exact⟨h1,h2,rv⟩
 ·rw[if_neg e,if_neg (λz=>e (h1.trans z))];exact⟨h1,h2,h3⟩
theorem sL.put{xs:List (SK×QQ×QP)}(q:sL kvs xs)(k:SK)(b:QQ){u:QP}(rv:aS v u):sL (iU kvs k b v) (storedH xs k b u):=by
 unfold iU storedH;have e:(eC kvs k).isSome=(Sr xs k).isSome:=by rw[(sL.at_key q k).isSome_eq,UH]
 rw[e];by_cases z:(Sr xs k).isSome=true;·rw[if_pos z,if_pos z];exact q.repl k rv
 ·rw[if_neg z,if_neg z];exact Paired.snoc q ⟨rfl,rfl,rv⟩
theorem Bo:(iU kvs k b v).length<=kvs.length+1:=by unfold iU;split<;>simp
theorem yU{Q:Unit->QS->Prop}(hu:A.units+65<Sa)(I:av X pins σ H s)(e:H a=some (xV a kvs))(hk:∀p∈kvs,dO X.K H p.1 p.2.1)(hb:dO X.K H k b)(hl:kvs.length<Rm)(rv:aS v r)(h:∀s',av X pins σ (upd H a (xV a (iU kvs k b v))) s'->Q () s'):QX (QY X.prog X.w) A (setItem (.ref a) (.ref b) r) Q E s:=by
 obtain⟨z,hd,xs,rel,dd⟩:=I.sd e hk;have hz:xs.length<=Rm:=by rw[<-VJ rel];exact z
 refine wpAny_setItem_heap (knd:=gR X.prog X.w) (hsz:=hz) (show A.units+1+64<Sa by lia) (I.sk hb) dd λh' dd' hs=>h _ ?_;obtain⟨q,es,ep,hq,h2,h3,h4,_,h5⟩:=dd';have rel':=sL.put rel k b rv;have hl2:(iU kvs k b v).length<=Rm:=by have:=Bo (kvs:=kvs) (k:=k) (b:=b) (v:=v);lia
 rw[zh];exact pT I (Fi e) hs ⟨q,hq⟩ (x6.obj ⟨hl2,hd,by rw[sL.keys rel'];exact h5,_,rel',q,es,ep,hq,h2,h3,h4⟩)
theorem Bv(I:av X pins σ H s)(e:H a=some (xV a kvs))(hk:∀p∈kvs,dO X.K H p.1 p.2.1):s.TypeIs (.ref a) "dict":=by obtain⟨_,_,xs,_,dd⟩:=I.sd e hk;exact dd.typeIs
def BV(K:QU)(H:Hp)(x:V)(kvs:SD):Prop:=∃a,x=.ref a/\H a=some (xV a kvs)/\∀p∈kvs,dO K H p.1 p.2.1
def Ky(K:QU)(td ty:TE):TE:=λσ H Q=>td σ H λx H1=>ty σ H1 λy H2=>∃kvs k b v,BV K H2 x kvs/\y=.ref b/\dO K H2 k b/\eC kvs k=some v/\Q v H2
def Kz(K:QU)(td ty tv:TE):TS:=λD σ H=>tv σ H λv H1=>td σ H1 λx H2=>ty σ H2 λy H3=>∃a kvs k b,x=.ref a/\H3 a=some (xV a kvs)/\(∀p∈kvs,dO K H3 p.1 p.2.1)/\y=.ref b/\dO K H3 k b/\kvs.length<Rm/\D.nx σ (upd H3 a (xV a (iU kvs k b v)))
end
section
variable{X:Cx}{o i value:QT}{pos pos':Pos}{td ty tv:TE}
theorem Dq(hu:X.A.units+65<Sa)(ho:PE X o td)(hi:PE X i ty)(hs:Aq i):PE X (.Subscript o i pos) (Ky X.K td ty):=by intro pins s σ H Q I h;refine Ab PySem.F.slot_dict_getitem.lookup hs (bu (ho pins s σ H _ I h) λu s1⟨x,H1,I1,rx,q1⟩=>bu (hi pins s1 σ H1 _ I1 q1) λiv s2⟨y,H2,I2,ry,kvs,k,b,v,⟨a,ex,e,hk⟩,ey,hb,hv,q2⟩=>?_);subst ex ey;obtain rfl:u=Value.ref a:=rx;obtain rfl:iv=Value.ref b:=ry;exact⟨Bv I2 e hk,yT hu I2 e hk hb hv λw' s3 I3 rw'=>⟨v,H2,I3,rw',q2⟩⟩
theorem DG(hu:X.A.units+65<Sa)(ho:PE X o td)(hi:PE X i ty)(hv:PE X value tv)(hs:SV value (some (.Subscript o i pos')) pos.line X.env=pure false):PS X (.Assign [.Subscript o i pos'] value pos) (Kz X.K td ty tv):=by intro pins s σ H D I h;refine wpAny_Assign_Subscript (bu (hv pins s σ H _ I h) λr s1⟨v,H1,I1,rv,q1⟩=>bu (ho pins s1 σ H1 _ I1 q1) λu s2⟨x,H2,I2,rx,q2⟩=>bu (hi pins s2 σ H2 _ I2 q2) λiv s3⟨y,H3,I3,ry,a,kvs,k,b,ex,e,hk,ey,hb,hl,q3⟩=>?_) hs;subst ex ey;obtain rfl:u=Value.ref a:=rx;obtain rfl:iv=Value.ref b:=ry;exact yU hu I3 e hk hb hl rv λs4 I4=>⟨σ,_,I4,q3⟩
end
mutual
def jf(K:QU)(F:Hp):QR->V->Prop|.none,v=>v=.non|.bool b,v=>v=.bl b|.int i,v=>v=.int i|.tuple ds,v=>∃a xs,v=.ref a/\dX K F a xs/\gA K F ds xs|_,_=>False
def gA(K:QU)(F:Hp):List QR->List V->Prop|[],xs=>xs=[]|d::ds,xs=>∃x r,xs=x::r/\jf K F d x/\gA K F ds r
end
mutual
theorem jf.mono{K:QU}{F F':Hp}(h:aw F F'):∀{d:QR}{v:V},jf K F d v->jf K F' d v|.none,_,q=>by simp only[jf]at q⊢;exact q|.bool b,_,q=>by simp only[jf]at q⊢;exact q|.int i,_,q=>by simp only[jf]at q⊢;exact q|.str x,_,q=>by simp only[jf]at q|.tuple ds,_,q=>by simp only[jf]at q⊢;obtain⟨a,xs,e,s,r⟩:=q;exact⟨a,xs,e,h.tup s,gA.mono h r⟩|.list ds,_,q=>by simp only[jf]at q|.dict ds,_,q=>by simp only[jf]at q
theorem gA.mono{K:QU}{F F':Hp}(h:aw F F'):∀{ds:List QR}{xs:List V},gA K F ds xs->gA K F' ds xs|[],_,q=>by simp only[gA]at q⊢;exact q|d::ds,_,q=>by simp only[gA]at q⊢;obtain⟨x,r,e,a,b⟩:=q;exact⟨x,r,e,jf.mono h a,gA.mono h b⟩
end
inductive pB where|vi (k:Int)|vb (x:Bool)|vn|vp (a:QQ) (p q:Int)|vd (v:V) (d:QR)
def pB.toV:pB->V|.vi k=>.int k|.vb x=>.bl x|.vn=>.non|.vp a _ _=>.ref a|.vd v _=>v
def pB.toD:pB->QR|.vi k=>.int k|.vb x=>.bool x|.vn=>.none|.vp _ p q=>.tuple [.int p,.int q]|.vd _ d=>d
def pB.ok(K:QU)(F:Hp):pB->Prop|.vp a p q=>dX K F a [.int p,.int q]|.vd v d=>jf K F d v|_=>True
theorem pB.ok.mono{K:QU}{F F':Hp}(h:aw F F'){a:pB}(q:a.ok K F):a.ok K F':=by cases a<;>first|exact h.tup q|exact jf.mono h q|trivial
mutual
def DA(K:QU)(F:Hp):QR->V->Prop|.none,v=>v=.non|.bool b,v=>v=.bl b|.int i,v=>v=.int i|.str x,v=>v=.str x|.tuple ds,v=>∃a xs,v=.ref a/\dX K F a xs/\aI K F ds xs|.list ds,v=>∃a xs,v=.ref a/\i6 K F a xs/\aI K F ds xs|.dict kvs,v=>(∃(a:QQ) (m:List (Int×pB)),v=.ref a/\F a=some (.dK (m.map λp=>(Sum.inl p.1,p.2.toV)))/\kvs=m.map (λp=>(PyData.int p.1,p.2.toD))/\∀p∈m,p.2.ok K F)\/∃(a:QQ) (m:SD),v=.ref a/\F a=some (E5 a m)/\dD K F kvs m/\kvs≠[]
def aI(K:QU)(F:Hp):List QR->List V->Prop|[],xs=>xs=[]|d::ds,xs=>∃x r,xs=x::r/\DA K F d x/\aI K F ds r
def dD(K:QU)(F:Hp):List (QR×QR)->SD->Prop|[],m=>m=[]|p::r,m=>∃q m',m=q::m'/\we K F p q/\dD K F r m'
def we(K:QU)(F:Hp):QR×QR->SK×QQ×V->Prop|(k,d),q=>k=yV q.1/\dO K F q.1 q.2.1/\DA K F d q.2.2
end
theorem dO.mono{K:QU}{F F':Hp}(h:aw F F'){k:SK}{b:QQ}(q:dO K F k b):dO K F' k b:=by obtain⟨c,d,h1,h2,h3⟩:=q;exact⟨c,d,h.tup h1,h.tup h2,h.tup h3⟩
mutual
theorem DA.mono{K:QU}{F F':Hp}(h:aw F F'):∀{d:QR}{v:V},DA K F d v->DA K F' d v
 |.none,_,q=>by simp only[DA]at q⊢;exact q|.bool b,_,q=>by simp only[DA]at q⊢;exact q|.int i,_,q=>by simp only[DA]at q⊢;exact q|.str x,_,q=>by simp only[DA]at q⊢;exact q|.tuple ds,_,q=>by simp only[DA]at q⊢;obtain⟨a,xs,e,s,r⟩:=q;exact⟨a,xs,e,h.tup s,aI.mono h r⟩|.list ds,_,q=>by simp only[DA]at q⊢;obtain⟨a,xs,e,s,r⟩:=q;exact⟨a,xs,e,h.seq s,aI.mono h r⟩|.dict kvs,_,q=>by
  simp only[DA]at q⊢;rcases q with⟨a,m,e,s,k,o⟩|⟨a,m,e,s,r,n⟩;·exact .inl ⟨a,m,e,h _ _ s,k,λp hp=>(o p hp).mono h⟩
  ·exact .inr ⟨a,m,e,h _ _ s,dD.mono h r,n⟩
theorem aI.mono{K:QU}{F F':Hp}(h:aw F F'):∀{ds:List QR}{xs:List V},aI K F ds xs->aI K F' ds xs|[],_,q=>by simp only[aI]at q⊢;exact q|d::ds,_,q=>by simp only[aI]at q⊢;obtain⟨x,r,e,a,b⟩:=q;exact⟨x,r,e,DA.mono h a,aI.mono h b⟩
theorem dD.mono{K:QU}{F F':Hp}(h:aw F F'):∀{ps:List (QR×QR)}{m:SD},dD K F ps m->dD K F' ps m|[],_,q=>by simp only[dD]at q⊢;exact q|p::r,_,q=>by simp only[dD]at q⊢;obtain⟨x,m',e,a,b⟩:=q;exact⟨x,m',e,we.mono h a,dD.mono h b⟩
theorem we.mono{K:QU}{F F':Hp}(h:aw F F'):∀{p:QR×QR}{q:SK×QQ×V},we K F p q->we K F' p q|(k,d),_,q=>by simp only[we]at q⊢;exact⟨q.1,q.2.1.mono h,DA.mono h q.2.2⟩
end
theorem dD.noInt{K:QU}{F:Hp}{k:Int}:∀{ps:List (QR×QR)}{m:SD},dD K F ps m->(ps.find? λp=>match p.1 with|.int i=>i==k|_=>false)=none|[],_,_=>rfl|(kd,d)::r,_,q=>by simp only[dD,we]at q;obtain⟨x,m',e,⟨ek,_,_⟩,b⟩:=q;subst ek;rw[RL];exact dD.noInt b
theorem dD.notInts{K:QU}{F:Hp}{ps:List (QR×QR)}{m:SD}(h:dD K F ps m)(n:ps≠[]):(ps.all λp=>match p.1 with|.int _=>true|_=>false)=false:=by cases ps with|nil=>exact absurd rfl n|cons p r=>obtain⟨kd,d⟩:=p;simp only[dD,we]at h;obtain⟨x,m',e,⟨ek,_,_⟩,b⟩:=h;subst ek;rfl
section
variable{K:QU}{F:Hp}
theorem aI.len:∀{ds:List QR}{xs:List V},aI K F ds xs->ds.length=xs.length|[],_,q=>by simp only[aI]at q;subst q;rfl|d::ds,_,q=>by simp only[aI]at q;obtain⟨x,r,e,a,b⟩:=q;subst e;simp[aI.len b]
theorem aI.get:∀{ds:List QR}{xs:List V}{i:Nat}{d:QR},aI K F ds xs->ds[i]?=some d->∃v,xs[i]?=some v/\DA K F d v|[],_,_,_,_,h=>by simp at h|d::ds,_,i,d',q,h=>by simp only[aI]at q;obtain⟨x,r,e,a,b⟩:=q;subst e;cases i with|zero=>simp at h;subst h;exact⟨x,rfl,a⟩|succ i=>obtain⟨v,h1,h2⟩:=aI.get (i:=i) b (by simpa using h);exact⟨v,by simpa using h1,h2⟩
theorem aI.append:∀{ds es:List QR}{xs ys:List V},aI K F ds xs->aI K F es ys->aI K F (ds++es) (xs++ys)|[],_,_,_,q,s=>by simp only[aI]at q;subst q;simpa using s|d::ds,es,_,ys,q,s=>by simp only[aI]at q;obtain⟨x,r,e,a,b⟩:=q;subst e;simp only[Tw,aI];exact⟨x,_,rfl,a,aI.append b s⟩
theorem aI.one{d:QR}{v:V}(h:DA K F d v):aI K F [d] [v]:=by simp only[aI];exact⟨_,_,rfl,h,rfl⟩
theorem aI.nil:aI K F [] []:=by simp only[aI]
theorem aI.cons{d:QR}{v:V}{ds:List QR}{vs:List V}(h:DA K F d v)(r:aI K F ds vs):aI K F (d::ds) (v::vs):=by simp only[aI];exact⟨_,_,rfl,h,r⟩
theorem aI.drop:∀{ds:List QR}{xs:List V}(n:Nat),aI K F ds xs->aI K F (ds.drop n) (xs.drop n)|_,_,0,q=>q|[],_,n+1,q=>by simp only[aI]at q;subst q;exact aI.nil|d::ds,_,n+1,q=>by simp only[aI]at q;obtain⟨x,r,e,a,b⟩:=q;subst e;simpa using aI.drop n b
theorem aI.take:∀{ds:List QR}{xs:List V}(n:Nat),aI K F ds xs->aI K F (ds.take n) (xs.take n)|_,_,0,q=>by simpa using aI.nil|[],_,n+1,q=>by simp only[aI]at q;subst q;exact aI.nil|d::ds,_,n+1,q=>by simp only[aI]at q;obtain⟨x,r,e,a,b⟩:=q;subst e;simpa using aI.cons a (aI.take n b)
theorem aI.set{d:QR}{v:V}(h:DA K F d v):∀{ds:List QR}{xs:List V}(n:Nat),aI K F ds xs->aI K F (ds.set n d) (xs.set n v)|[],_,_,q=>by simp only[aI]at q;subst q;exact aI.nil|e::ds,_,n,q=>by simp only[aI]at q;obtain⟨x,r,e,a,b⟩:=q;subst e;cases n with|zero=>exact aI.cons h b|succ n=>exact aI.cons a (aI.set h n b)
theorem aI.erase:∀{ds:List QR}{xs:List V}(n:Nat),aI K F ds xs->aI K F (ds.eraseIdx n) (xs.eraseIdx n)|[],_,_,q=>by simp only[aI]at q;subst q;exact aI.nil|e::ds,_,n,q=>by simp only[aI]at q;obtain⟨x,r,e,a,b⟩:=q;subst e;cases n with|zero=>exact b|succ n=>exact aI.cons a (aI.erase n b)
theorem aI.ints:∀{ns:List Int}{xs:List V},aI K F (ns.map .int) xs↔xs=ns.map V.int
 |[],xs=>by simp[aI]|n::ns,xs=>by
  simp only[Rn,aI,DA];constructor;·rintro⟨x,r,e,rfl,q⟩;rw[e,aI.ints.mp q]
  ·rintro rfl;exact⟨_,_,rfl,rfl,aI.ints.mpr rfl⟩
theorem aI.bools:∀{ns:List Bool}{xs:List V},aI K F (ns.map .bool) xs↔xs=ns.map V.bl
 |[],xs=>by simp[aI]|n::ns,xs=>by
  simp only[Rn,aI,DA];constructor;·rintro⟨x,r,e,rfl,q⟩;rw[e,aI.bools.mp q]
  ·rintro rfl;exact⟨_,_,rfl,rfl,aI.bools.mpr rfl⟩
theorem bc{i:Int}{v:V}:DA K F (.int i) v↔v=.int i:=by simp only[DA]
theorem dH{b:Bool}{v:V}:DA K F (.bool b) v↔v=.bl b:=by simp only[DA]
theorem mU{v:V}:DA K F .none v↔v=.non:=by simp only[DA]
theorem qC{x:Str}{v:V}:DA K F (.str x) v↔v=.str x:=by simp only[DA]
theorem bH{ds:List QR}{v:V}:DA K F (.tuple ds) v↔∃a xs,v=.ref a/\dX K F a xs/\aI K F ds xs:=by simp only[DA]
theorem cU{ds:List QR}{v:V}:DA K F (.list ds) v↔∃a xs,v=.ref a/\i6 K F a xs/\aI K F ds xs:=by simp only[DA]
end
inductive Sv where|d (x:QR)|l (xs:List QR)/--a list of lists that nobody else holds -/|n (xss:List (List QR))
abbrev En:=List (Option Sv)
inductive Rv where|d (x:QR)|l (xs:List QR)|s (i:Nat)
def Fp(σ:L2.St)(e:En)(H:Hp)(i:Nat)(a:QQ):Prop:=(∃xs:List QR,e[i]?=some (some (Sv.l xs))/\σ[i]?=some (some (.ref a)))\/∃(xss:List (List QR)) (l:QQ) (bs:List QQ),e[i]?=some (some (Sv.n xss))/\σ[i]?=some (some (.ref l))/\H l=some (.lst (bs.map V.ref))/\(a=l\/a∈bs)
def bq(σ:L2.St)(e:En)(H:Hp)(a:QQ):Prop:=∃i,Fp σ e H i a
structure aR (K:QU) (F H:Hp) (σ:L2.St) (e:En):Prop where
 sm:aw F H
 len:σ.length=e.length
 dat:∀(i:Nat) (x:QR),e[i]?=some (some (.d x))->∃v,σ[i]?=some (some v)/\DA K F x v
 own:∀(i:Nat) (xs:List QR),e[i]?=some (some (.l xs))->∃l vs,σ[i]?=some (some (.ref l))/\F l=none/\H l=some (.lst vs)/\aI K F xs vs
 nst:∀(i:Nat) (xss:List (List QR)),e[i]?=some (some (.n xss))->∃(l:QQ) (bs:List QQ),σ[i]?=some (some (.ref l))/\F l=none/\H l=some (.lst (bs.map V.ref))/\bs.length=xss.length/\bs.Nodup/\l∉bs/\∀(k:Nat) (b:QQ) (ys:List QR),bs[k]?=some b->xss[k]?=some ys->F b=none/\∃us,H b=some (.lst us)/\aI K F ys us
 fp:∀(i j:Nat) (a:QQ),Fp σ e H i a->Fp σ e H j a->i=j
theorem aR.inj{K:QU}{F H:Hp}{σ:L2.St}{e:En}(R:aR K F H σ e)(i j:Nat)(xs ys:List QR)(l:QQ)(h1:e[i]?=some (some (.l xs)))(h2:e[j]?=some (some (.l ys)))(h3:σ[i]?=some (some (.ref l)))(h4:σ[j]?=some (some (.ref l))):i=j:=R.fp i j l (.inl ⟨xs,h1,h3⟩) (.inl ⟨ys,h2,h4⟩)
theorem aR.fpAt{K:QU}{F H:Hp}{σ:L2.St}{e:En}(R:aR K F H σ e){i:Nat}{a:QQ}(h:Fp σ e H i a):F a=none/\∃vs,H a=some (.lst vs):=by
 rcases h with⟨xs,h1,h2⟩|⟨xss,l,bs,h1,h2,h3,h4⟩;·obtain⟨l,vs,g1,g2,g3,_⟩:=R.own i xs h1;rw[h2]at g1;cases g1;exact⟨g2,vs,g3⟩
 ·obtain⟨l',bs',g1,g2,g3,g4,g5,g6,g7⟩:=R.nst i xss h1;rw[h2]at g1;cases g1;rw[h3]at g3;have e1:bs=bs':=by have:=HO.lst.inj (RG g3);exact List.map_inj_right (λ_ _ z=>V.ref.inj z)|>.mp this
  subst e1;rcases h4 with rfl|h4;·exact⟨g2,_,h3⟩
  ·obtain⟨k,hk⟩:=Wg h4;have hk2:k<xss.length:=by rw[<-g4];exact(QK hk).1
   obtain⟨c1,us,c2,_⟩:=g7 k a xss[k] hk (RS hk2);exact⟨c1,us,c2⟩
def isD:HO->Bool|.dK _=>true|.ins _ _ _=>true|.ext _=>true|_=>false
abbrev DI:={o:HO//isD o=true}
structure dF (σ:L2.St) (F H:Hp) (e:En) (F' H':Hp) (e':En):Prop where
 sf:aw F F'
 dom:∀a,H' a=none->H a=none
 fr:∀a vs,F a=none->H a=some (.lst vs)->¬bq σ e H a->F' a=none
 lst:∀a vs,H a=some (.lst vs)->∃vs',H' a=some (.lst vs')tmp:∀a o,H a=some o->¬bq σ e H a->H' a=some o
 shp:∀i:Nat,(∃xs,e'[i]?=some (some (.l xs)))↔(∃xs,e[i]?=some (some (.l xs)))ow:∀a,bq σ e' H' a->bq σ e H a\/H a=none
 fd:∀a (m:DI),F a=none->H a=some m.1->¬bq σ e H a->F' a=none
theorem dF.refl(σ:L2.St)(F H:Hp)(e:En):dF σ F H e F H e:=⟨aw.refl _,λ_ h=>h,λ_ _ h _ _=>h,λ_ vs h=>⟨vs,h⟩,λ_ _ h _=>h,λ_=>Iff.rfl,λ_ h=>.inl h,λ_ _ h _ _=>h⟩
theorem dF.trans{σ:L2.St}{F H F1 H1 F2 H2:Hp}{e e1 e2:En}(x:dF σ F H e F1 H1 e1)(y:dF σ F1 H1 e1 F2 H2 e2):dF σ F H e F2 H2 e2:=⟨x.sf.trans y.sf,λa h=>x.dom a (y.dom a h),λa vs h n no=>let⟨vs',q⟩:=x.lst a vs n;y.fr a vs' (x.fr a vs h n no) q (λz=>(x.ow a z).elim no λz=>by rw[n]at z;cases z),λa vs h=>let⟨vs',q⟩:=x.lst a vs h;y.lst a vs' q,λa o h n=>y.tmp a o (x.tmp a o h n) (λz=>(x.ow a z).elim n λz=>by rw[h]at z;cases z),λi=>(y.shp i).trans (x.shp i),λa h=>(y.ow a h).elim (x.ow a) λz=>.inr (x.dom a z),λa m h n no=>y.fd a m (x.fd a m h n no) (x.tmp a _ n no) (λz=>(x.ow a z).elim no λz=>by rw[n]at z;cases z)⟩
def bG(K:QU)(σ:L2.St)(H0 F H:Hp)(e:En):Rv->V->Prop|.d x,v=>DA K F x v|.l xs,v=>∃l vs,v=.ref l/\H0 l=none/\F l=none/\H l=some (.lst vs)/\aI K F xs vs/\¬bq σ e H l|.s i,v=>σ[i]?=some (some v)/\∃xs,e[i]?=some (some (.l xs))
section
variable{K:QU}{σ:L2.St}{H0 F H F' H':Hp}{e e':En}{r:Rv}{v:V}
theorem bG.ext(h:bG K σ H0 F H e r v)(x:dF σ F H e F' H' e'):bG K σ H0 F' H' e' r v:=by cases r with|d y=>exact DA.mono x.sf h|l xs=>obtain⟨l,vs,e1,h1,h2,h3,h4,h5⟩:=h;exact⟨l,vs,e1,h1,x.fr l _ h2 h3 h5,x.tmp l _ h3 h5,aI.mono x.sf h4,λz=>(x.ow l z).elim h5 λz=>by rw[h3]at z;cases z⟩|s i=>exact⟨h.1,(x.shp i).mpr h.2⟩
theorem bG.weak{H1:Hp}(h:bG K σ H1 F H e r v)(d:∀a,H1 a=none->H0 a=none):bG K σ H0 F H e r v:=by cases r with|d y=>exact h|l xs=>obtain⟨l,vs,e1,h1,r⟩:=h;exact⟨l,vs,e1,d l h1,r⟩|s i=>exact h
theorem aR.ownH(R:aR K F H σ e)(a:QQ)(h:bq σ e H a):H a≠none:=by obtain⟨i,h⟩:=h;obtain⟨_,vs,h2⟩:=R.fpAt h;rw[h2];simp
theorem aR.freeF(R:aR K F H σ e){p:QQ}(hp:H p=none):F p=none:=R.sm.free hp
theorem Fz(R:aR K F H σ e)(h:∀l bs,H l=some (.lst bs)->bq σ e H l->H' l=some (.lst bs)){i:Nat}{a:QQ}:Fp σ e H' i a↔Fp σ e H i a:=by
 have key:∀xss l,e[i]?=some (some (.n xss))->σ[i]?=some (some (.ref l))->H' l=H l:=λxss l h1 h2=>by obtain⟨l',bs,g1,g2,g3,_⟩:=R.nst i xss h1;rw[h2]at g1;cases g1;rw[g3];exact h l _ g3 ⟨i,.inr ⟨xss,l,bs,h1,h2,g3,.inl rfl⟩⟩
 constructor
 ·rintro(h1|⟨xss,l,bs,h1,h2,h3,h4⟩);·exact .inl h1
  ·exact .inr ⟨xss,l,bs,h1,h2,by rw[<-key xss l h1 h2];exact h3,h4⟩
 ·rintro(h1|⟨xss,l,bs,h1,h2,h3,h4⟩);·exact .inl h1
  ·exact .inr ⟨xss,l,bs,h1,h2,by rw[key xss l h1 h2];exact h3,h4⟩
theorem aR.keep(R:aR K F H σ e)(sF:aw F F')(sm:aw F' H')(hf:∀a,bq σ e H a->F' a=none)(hh:∀a o,bq σ e H a->H a=some o->H' a=some o):aR K F' H' σ e/\∀a,bq σ e H' a↔bq σ e H a:=by
 have fs:∀{i a},Fp σ e H' i a↔Fp σ e H i a:=fun{i a}=>Fz R λl bs h1 h2=>hh l _ h2 h1;refine⟨⟨sm,R.len,λi x h=>let⟨v,h1,h2⟩:=R.dat i x h;⟨v,h1,DA.mono sF h2⟩,λi xs h=>?_,λi xss h=>?_,λi j a h1 h2=>R.fp i j a (fs.mp h1) (fs.mp h2)⟩,λa=>⟨λ⟨i,h⟩=>⟨i,fs.mp h⟩,λ⟨i,h⟩=>⟨i,fs.mpr h⟩⟩⟩;·obtain⟨l,vs,h1,h2,h3,h4⟩:=R.own i xs h;have o:bq σ e H l:=⟨i,.inl ⟨xs,h,h1⟩⟩;exact⟨l,vs,h1,hf l o,hh l _ o h3,h4.mono sF⟩
 ·obtain⟨l,bs,h1,h2,h3,h4,h5,h6,h7⟩:=R.nst i xss h;have o:bq σ e H l:=⟨i,.inr ⟨xss,l,bs,h,h1,h3,.inl rfl⟩⟩;refine⟨l,bs,h1,hf l o,hh l _ o h3,h4,h5,h6,λk b ys g1 g2=>?_⟩;obtain⟨c1,us,c2,c3⟩:=h7 k b ys g1 g2;have ob:bq σ e H b:=⟨i,.inr ⟨xss,l,bs,h,h1,h3,.inr (QO g1)⟩⟩;exact⟨hf b ob,us,hh b _ ob c2,c3.mono sF⟩
theorem aR.same(R:aR K F H σ e)(s:aw H H'):aR K F H' σ e/\dF σ F H e F H' e:=by obtain⟨R',o'⟩:=R.keep (aw.refl F) (R.sm.trans s) (λa⟨i,h⟩=>(R.fpAt h).1) λa o _ h=>s a o h;exact⟨R',⟨aw.refl _,λa h=>s.free h,λ_ _ h _ _=>h,λa vs h=>⟨vs,s _ _ h⟩,λa o h _=>s a o h,λ_=>Iff.rfl,λa h=>.inl ((o' a).mp h),λ_ _ h _ _=>h⟩⟩
theorem aR.freeze(R:aR K F H σ e){p:QQ}{o:HO}(hF:F p=none)(hp:H p=some o)(hn:¬bq σ e H p):aR K (upd F p o) H σ e/\aw F (upd F p o):=by
 have sF:aw F (upd F p o):=aw.new hF;refine⟨(R.keep sF (λb u q=>?_) (λa ha=>?_) λ_ _ _ h=>h).1,sF⟩
 ·by_cases z:b=p;·subst z;rw[ao]at q;cases q;exact hp
  ·rw[aq z]at q;exact R.sm _ _ q
 ·obtain⟨i,hi⟩:=ha;have z:a≠p:=λz=>hn ⟨i,by rw[<-z];exact hi⟩;rw[aq z];exact(R.fpAt hi).1
theorem aR.notOwn(R:aR K F H σ e){p:QQ}{o:HO}(hp:H p=some o)(hl:∀vs,o≠.lst vs):¬bq σ e H p:=λ⟨i,h⟩=>by obtain⟨_,vs,g⟩:=R.fpAt h;rw[hp]at g;cases g;exact hl _ rfl
theorem aR.newT(R:aR K F H σ e){p:QQ}{vs:List V}(hp:H p=none):aR K (upd F p (.tup vs)) (upd H p (.tup vs)) σ e/\dF σ F H e (upd F p (.tup vs)) (upd H p (.tup vs)) e:=by have hF:=R.freeF hp;obtain⟨R1,X1⟩:=R.same (aw.new hp (o:=.tup vs));obtain⟨R2,s2⟩:=R1.freeze (p:=p) hF ao (R1.notOwn ao (λ_ z=>nomatch z));refine⟨R2,⟨s2,X1.dom,λa ws h n _=>?_,X1.lst,X1.tmp,X1.shp,X1.ow,λa ws h n _=>?_⟩⟩;all_goals
 have z:a≠p:=λz=>by rw[z,hp]at n;cases n
 rw[aq z];exact h
theorem aR.sameOwn(R:aR K F H σ e)(s:aw H H')(a:QQ):bq σ e H' a↔bq σ e H a:=(R.keep (aw.refl F) (R.sm.trans s) (λa⟨i,h⟩=>(R.fpAt h).1) λa o _ h=>s a o h).2 a
theorem aR.newL(R:aR K F H σ e){p:QQ}{vs:List V}(hp:H p=none):aR K F (upd H p (.lst vs)) σ e/\dF σ F H e F (upd H p (.lst vs)) e/\F p=none/\¬bq σ e (upd H p (.lst vs)) p:=⟨(R.same (aw.new hp)).1,(R.same (aw.new hp)).2,R.freeF hp,λz=>R.ownH p ((R.sameOwn (aw.new hp) p).mp z) hp⟩
theorem aR.growT(R:aR K F H σ e){p:QQ}{xs:List V}(s:aw H H')(hp:dX K H' p xs):∃F',aR K F' H' σ e/\dF σ F H e F' H' e/\dX K F' p xs:=by
 obtain⟨R1,X1⟩:=R.same s;rcases hp with hp|hp
 ·have key:∀o,H' p=some o->(∀vs,o≠.lst vs)->(∀m:DI,o≠m.1)->(∀G:Hp,G p=some o->Rd G p (.tup xs))->∃F',aR K F' H' σ e/\dF σ F H e F' H' e/\dX K F' p xs:=by intro o ho hl hm hr;cases q:F p with|some u=>have:=R1.sm _ _ q;rw[ho]at this;cases this;exact⟨F,R1,X1,.inl (hr F q)⟩|none=>
    obtain⟨R2,s2⟩:=R1.freeze q ho (R1.notOwn ho hl);refine⟨_,R2,⟨s2,X1.dom,λa ws h n _=>?_,X1.lst,X1.tmp,X1.shp,X1.ow,λa ws h n _=>?_⟩,.inl (hr _ ao)⟩
    ·have z:a≠p:=λz=>by rw[z]at n;rw[s _ _ n]at ho;cases ho;exact hl _ rfl
     rw[aq z];exact h
    ·have z:a≠p:=λz=>by rw[z]at n;rw[s _ _ n]at ho;cases ho;exact hm _ rfl
     rw[aq z];exact h
  rcases hp with hp|⟨ob,hp⟩;·exact key _ hp (λ_ z=>nomatch z) (λm z=>nomatch z▸m.2) λG g=>.inl g
  ·exact key _ hp (λ_ z=>nomatch z) (λm z=>nomatch z▸m.2) λG g=>.inr ⟨ob,g⟩
 ·exact⟨F,R1,X1,.inr hp⟩
theorem bG.frozen(R:aR K F H σ e){xs:List QR}(h:bG K σ H0 F H e (.l xs) v):∃F',aR K F' H σ e/\aw F F'/\DA K F' (.list xs) v/\(∀a,F a=none->H0 a≠none->F' a=none):=by
 obtain⟨l,vs,rfl,h1,h2,h3,h4,h5⟩:=h;obtain⟨R2,s2⟩:=R.freeze h2 h3 h5;refine⟨_,R2,s2,?_,λa ha hn=>?_⟩;·rw[cU];exact⟨l,vs,rfl,.inl (.inl ao),aI.mono s2 h4⟩
 ·have z:a≠l:=λz=>hn (by rw[z];exact h1);rw[aq z];exact ha
def gu(e:En):Rv->Option (Bool×List QR)
 |.d (.tuple xs)=>some (false,xs)|.d (.list xs)=>some (true,xs)|.l xs=>some (true,xs)|.s i=>match e[i]? with|some (some (.l xs))=>some (true,xs)|_=>none
 |_=>none
theorem et(R:aR K F H σ e)(h:bG K σ H0 F H e r v){b:Bool}{xs:List QR}(q:gu e r=some (b,xs)):∃p vs,v=.ref p/\aI K F xs vs/\(if b=true then i6 K H p vs else dX K H p vs):=by cases r with
 |d x=>cases x with|tuple ds=>cases q;obtain⟨a,ys,e1,e2,e3⟩:=bH.mp h;exact⟨a,ys,e1,e3,R.sm.tup e2⟩|list ds=>cases q;obtain⟨a,ys,e1,e2,e3⟩:=cU.mp h;exact⟨a,ys,e1,e3,R.sm.seq e2⟩|_=>cases q
 |l ys=>cases q;obtain⟨l,vs,e1,h1,h2,h3,h4,_⟩:=h;exact⟨l,vs,e1,h4,.inl (.inl h3)⟩|s i=>obtain⟨h1,ys,h2⟩:=h;simp only[gu,h2]at q;cases q;obtain⟨l,vs,e1,e2,e3,e4⟩:=R.own i _ h2;rw[h1]at e1;cases e1;exact⟨l,vs,rfl,e4,.inl (.inl e3)⟩
end
abbrev FE:=En->Option (Rv×En)
abbrev FT:=En->Option (Bool×En)
abbrev FA:=En->Option (List Rv×En)
def ce(K:QU)(σ:L2.St)(H0 F H:Hp)(e:En):List Rv->List V->Prop|[],vs=>vs=[]|r::rs,vs=>∃v ws,vs=v::ws/\bG K σ H0 F H e r v/\ce K σ H0 F H e rs ws
def fE(K:QU)(f:FE):TE:=λσ H Q=>∃F e r e',aR K F H σ e/\f e=some (r,e')/\∀F' H' v,dF σ F H e F' H' e'->aR K F' H' σ e'->bG K σ H F' H' e' r v->Q v H'
def fT(K:QU)(f:FT):TT:=λσ H Q=>∃F e b e',aR K F H σ e/\f e=some (b,e')/\∀F' H',dF σ F H e F' H' e'->aR K F' H' σ e'->Q b H'
def fA(K:QU)(f:FA):TA:=λσ H Q=>∃F e rs e',aR K F H σ e/\f e=some (rs,e')/\∀F' H' vs,dF σ F H e F' H' e'->aR K F' H' σ e'->ce K σ H F' H' e' rs vs->Q vs H'
theorem PE.mono{X:Cx}{e:QT}{t t':TE}(h:PE X e t)(m:∀σ H Q,t' σ H Q->t σ H Q):PE X e t':=λpins s σ H Q I q=>h pins s σ H Q I (m σ H Q q)
theorem PT.mono{X:Cx}{e:QT}{t t':TT}(h:PT X e t)(m:∀σ H Q,t' σ H Q->t σ H Q):PT X e t':=λpins s σ H Q I q=>h pins s σ H Q I (m σ H Q q)
theorem PW.mono{X:Cx}{e:QT}{t t':TT}(h:PW X e t)(m:∀σ H Q,t' σ H Q->t σ H Q):PW X e t':=λwh pins s σ H Q I q=>h wh pins s σ H Q I (m σ H Q q)
theorem PA.mono{X:Cx}{es:List QT}{t t':TA}(h:PA X es t)(m:∀σ H Q,t' σ H Q->t σ H Q):PA X es t':=λpos pins s σ H Q I q=>h pos pins s σ H Q I (m σ H Q q)
section
variable{K:QU}{σ:L2.St}{H0 F H F' H':Hp}{e e':En}
theorem ce.weak{H1:Hp}(d:∀a,H1 a=none->H0 a=none):∀{rs:List Rv}{vs:List V},ce K σ H1 F H e rs vs->ce K σ H0 F H e rs vs|[],_,h=>h|r::rs,_,h=>by obtain⟨v,ws,rfl,h1,h2⟩:=h;exact⟨v,ws,rfl,h1.weak d,ce.weak d h2⟩
theorem dF.frz{F'':Hp}(x:dF σ F H e F' H' e')(s:aw F' F'')(h:∀a,F' a=none->H a≠none->F'' a=none):dF σ F H e F'' H' e':=⟨x.sf.trans s,x.dom,λa vs h1 h2 h3=>h a (x.fr a vs h1 h2 h3) (by rw[h2];simp),x.lst,x.tmp,x.shp,x.ow,λa m h1 h2 h3=>h a (x.fd a m h1 h2 h3) (by rw[h2];simp)⟩
def gU:List Rv->Option (List QR)|[]=>some []|.d x::rs=>(gU rs).map (x::·)|.l xs::rs=>(gU rs).map (.list xs::·)|.s _::_=>none
theorem ce.frozen:∀{rs:List Rv}{vs:List V}{ds:List QR}{F:Hp},aR K F H σ e->ce K σ H0 F H e rs vs->gU rs=some ds->∃F',aR K F' H σ e/\aw F F'/\aI K F' ds vs/\(∀a,F a=none->H0 a≠none->F' a=none)|[],_,_,F,R,h,q=>by cases q;have h':_=[]:=h;subst h';exact⟨F,R,aw.refl _,aI.nil,λ_ h _=>h⟩|.d x::rs,_,ds,F,R,h,q=>by obtain⟨v,ws,rfl,h1,h2⟩:=h;obtain⟨ds',q1,rfl⟩:=QJ q;obtain⟨F',R',s',d',f'⟩:=ce.frozen R h2 q1;exact⟨F',R',s',.cons (DA.mono s' h1) d',f'⟩|.l xs::rs,_,ds,F,R,h,q=>by obtain⟨v,ws,rfl,h1,h2⟩:=h;obtain⟨ds',q1,rfl⟩:=QJ q;obtain⟨F',R',s',d',f'⟩:=ce.frozen R h2 q1;obtain⟨l,us,rfl,g1,g2,g3,g4,g5⟩:=h1;cases hl:F' l with|none=>have h1':bG K σ H0 F' H e (.l xs) (.ref l):=⟨l,us,rfl,g1,hl,g3,aI.mono s' g4,g5⟩;obtain⟨F2,R2,s2,d2,f2⟩:=h1'.frozen R';exact⟨F2,R2,s'.trans s2,.cons d2 (aI.mono s2 d'),λa ha hn=>f2 a (f' a ha hn) hn⟩|some o=>have:=R'.sm _ _ hl;rw[g3]at this;cases this;exact⟨F',R',s',.cons (cU.mpr ⟨l,us,rfl,.inl (.inl hl),aI.mono s' g4⟩) d',f'⟩
end
section
variable{X:Cx}{K:QU}{a b c:QT}{fa fb:FE}{ft fu:FT}{pos:Pos}{es:List QT}{fs:FA}
def ae(i:Nat):FE:=λe=>match e[i]? with|some (some (.d x))=>some (.d x,e)|some (some (.l _))=>some (.s i,e)|_=>none
def vC(x:QR):FE:=λe=>some (.d x,e)
theorem Hz{i:Nat}{σ:L2.St}{H:Hp}{Q:VK}(h:fE K (ae i) σ H Q):vY i σ H Q:=by obtain⟨F,e,r,e',R,hf,q⟩:=h;unfold ae at hf;match h1:e[i]?,hf with|some (some (.d x)),hf=>cases hf;obtain⟨v,h2,h3⟩:=R.dat i x h1;exact⟨v,h2,q F H v (dF.refl _ _ _ _) R h3⟩|some (some (.n _)),hf=>cases hf|some (some (.l xs)),hf=>cases hf;obtain⟨l,vs,h2,h3⟩:=R.own i xs h1;exact⟨_,h2,q F H _ (dF.refl _ _ _ _) R ⟨h2,xs,h1⟩⟩|some none,hf=>cases hf|none,hf=>cases hf
theorem qv(i:Nat){x:Str}{pos:Pos}(hN:X.N[i]?=some x)(hv:BX X.env.scope x)(hd:(x==("__debug__":Str))=false)(hcd:(x==("__classdict__":Str))=false):PE X (.Name x pos) (fE K (ae i)):=(eW hN hv hd hcd).mono λ_ _ _ h=>Hz h
theorem Ai{x:QR}{v:V}{σ:L2.St}{H:Hp}{Q:VK}(hx:∀F,DA K F x v)(h:fE K (vC x) σ H Q):tC v σ H Q:=by obtain⟨F,e,r,e',R,hf,q⟩:=h;cases hf;exact q F H v (dF.refl _ _ _ _) R (hx F)
theorem af{i j pos}:PE X (.Constant (.int i) j pos) (fE K (vC (.int i))):=JN.mono λ_ _ _ h=>Ai (λ_=>bc.mpr rfl) h
theorem di{b j pos}:PE X (.Constant (.bool b) j pos) (fE K (vC (.bool b))):=Ib.mono λ_ _ _ h=>Ai (λ_=>dH.mpr rfl) h
theorem J6{x j pos}:PE X (.Constant (.str x) j pos) (fE K (vC (.str x))):=JR.mono λ_ _ _ h=>Ai (λ_=>qC.mpr rfl) h
theorem iW{x:Str}{v:V}{u:QP}{pos:Pos}{y:QR}(hg:Gl X x)(hm:X.mg x=some u)(r:aS v u)(hy:∀F,DA K F y v)(hd:(x==("__debug__":Str))=false):PE X (.Name x pos) (fE K (vC y)):=(lO hg hm r hd).mono λ_ _ _ h=>Ai hy h
def fY(K:QU)(r:R2)(g:En->Rv->Rv->Option Rv):Prop:=∀(σ:L2.St) (H0 F H:Hp) (e:En) (x y z:Rv) (v u:V) (Q:VK),aR K F H σ e->bG K σ H0 F H e x v->bG K σ H0 F H e y u->g e x y=some z->(∀F' H' w,dF σ F H e F' H' e->aR K F' H' σ e->bG K σ H F' H' e z w->Q w H')->r v u H Q
def aB(g:En->Rv->Rv->Option Rv)(fa fb:FE):FE:=λe=>(fa e).bind λp=>(fb p.2).bind λq=>(g q.2 p.1 q.1).map λz=>(z,q.2)
theorem oP{r:R2}{g:En->Rv->Rv->Option Rv}(ho:fY K r g){σ:L2.St}{H:Hp}{Q:VK}(h:fE K (aB g fa fb) σ H Q):Mq r (fE K fa) (fE K fb) σ H Q:=by obtain⟨F,e,z,e2,R,hf,q⟩:=h;unfold aB at hf;obtain⟨⟨x,e1⟩,h1,hf⟩:=QI hf;obtain⟨⟨y,e2'⟩,h2,hf⟩:=QI hf;obtain⟨z',h3,hf⟩:=QJ hf;cases hf;refine⟨F,e,x,e1,R,h1,λF1 H1 v X1 R1 A1=>⟨F1,e1,y,_,R1,h2,λF2 H2 u X2 R2 A2=>?_⟩⟩;have X12:=X1.trans X2;refine ho σ H F2 H2 _ x y _ v u Q R2 (A1.ext X2) (A2.weak X1.dom) h3 λF3 H3 w X3 R3 A3=>?_;exact q F3 H3 w (X12.trans X3) R3 (A3.weak X12.dom)
theorem nB{op:Operator}{r:R2}{g:En->Rv->Rv->Option Rv}(hr:eG X (RZ op) r)(ho:fY K r g)(ha:PE X a (fE K fa))(hb:PE X b (fE K fb)):PE X (.BinOp a op b pos) (fE K (aB g fa fb)):=(LK hr ha hb).mono λ_ _ _ h=>oP ho h
theorem J4{op:CmpOp}{r:R2}{g:En->Rv->Rv->Option Rv}(hr:eG X (RI op) r)(ho:fY K r g)(ha:PE X a (fE K fa))(hb:PE X b (fE K fb))(hm:Ur op b=false):PE X (.Compare a [op] [b] pos) (fE K (aB g fa fb)):=(Gz hr ha hb hm).mono λ_ _ _ h=>oP ho h
theorem LW{r:R2}{g:En->Rv->Rv->Option Rv}(hr:E2 X r)(ho:fY K r g)(ha:PE X a (fE K fa))(hb:PE X b (fE K fb))(hs:pN b):PE X (.Subscript a b pos) (fE K (aB g fa fb)):=(Ic hr ha hb hs).mono λ_ _ _ h=>oP ho h
def s_(g:En->Rv->Option Rv)(fa:FE):FE:=λe=>(fa e).bind λp=>(g p.2 p.1).map λz=>(z,p.2)
def KS(K:QU)(r:V->Hp->VK->Prop)(g:En->Rv->Option Rv):Prop:=∀(σ:L2.St) (H0 F H:Hp) (e:En) (x z:Rv) (v:V) (Q:VK),aR K F H σ e->bG K σ H0 F H e x v->g e x=some z->(∀F' H' w,dF σ F H e F' H' e->aR K F' H' σ e->bG K σ H F' H' e z w->Q w H')->r v H Q
theorem ze{r:V->Hp->VK->Prop}{g:En->Rv->Option Rv}(ho:KS K r g){σ:L2.St}{H:Hp}{Q:VK}(h:fE K (s_ g fa) σ H Q):NQ r (fE K fa) σ H Q:=by obtain⟨F,e,z,e2,R,hf,q⟩:=h;unfold s_ at hf;obtain⟨⟨x,e1⟩,h1,hf⟩:=QI hf;obtain⟨z',h3,hf⟩:=QJ hf;cases hf;refine⟨F,e,x,_,R,h1,λF1 H1 v X1 R1 A1=>?_⟩;refine ho σ H F1 H1 _ x _ v Q R1 A1 h3 λF3 H3 w X3 R3 A3=>?_;exact q F3 H3 w (X1.trans X3) R3 (A3.weak X1.dom)
theorem LX{op:UnaryOp}{r:V->Hp->VK->Prop}{g:En->Rv->Option Rv}(hr:MG X (unaryOp op) r)(ho:KS K r g)(ha:PE X a (fE K fa)):PE X (.UnaryOp op a pos) (fE K (s_ g fa)):=(LM hr ha).mono λ_ _ _ h=>ze ho h
def dZ:Rv->Option Bool|.d (.bool b)=>some b|_=>none
theorem lG{σ:L2.St}{H0 F H:Hp}{e:En}{r:Rv}{v:V}{b:Bool}(h:bG K σ H0 F H e r v)(q:dZ r=some b):v=.bl b:=by
 unfold dZ at q;split at q;·cases q;exact dH.mp (show DA K F (.bool _) v from h)
 ·cases q
theorem eZ{σ:L2.St}{H0 F H:Hp}{e:En}{b:Bool}:bG K σ H0 F H e (.d (.bool b)) (.bl b):=(dH (K:=K) (F:=F)).mpr rfl
def aF(f:FE):FT:=λe=>(f e).bind λp=>(dZ p.1).map λb=>(b,p.2)
theorem sI{σ:L2.St}{H:Hp}{Q:Bool->Hp->Prop}(h:fT K (aF fa) σ H Q):fE K fa σ H λx H'=>∃k,x=.bl k/\Q k H':=by obtain⟨F,e,b,e1,R,hf,q⟩:=h;unfold aF at hf;obtain⟨⟨x,e1'⟩,h1,hf⟩:=QI hf;obtain⟨b',h3,hf⟩:=QJ hf;cases hf;exact⟨F,e,x,_,R,h1,λF1 H1 v X1 R1 A1=>⟨_,lG A1 h3,q F1 H1 X1 R1⟩⟩
theorem J_{op:CmpOp}{r:R2}{g:En->Rv->Rv->Option Rv}(hr:eG X (RI op) r)(ho:fY K r g)(ha:PE X a (fE K fa))(hb:PE X b (fE K fb))(hm:Ur op b=false):PT X (.Compare a [op] [b] pos) (fT K (aF (aB g fa fb))):=(GO hr ha hb hm).mono λσ H Q h=>by obtain⟨F,e,z,e2,R,hf,q⟩:=sI h;exact oP ho ⟨F,e,z,e2,R,hf,q⟩
theorem dq{e:QT}(h:PE X e (fE K fa))(he:∀whole,isTrue e X.env whole=(do let v<-whole;TC e.pos;Ti [v] (truthy v))):PT X e (fT K (aF fa)):=(yP h he).mono λ_ _ _ h=>sI h
def pM(f g:FT):FT:=λe=>(f e).bind λp=>if p.1=true then g p.2 else some (false,p.2)
def sN(f g:FT):FT:=λe=>(f e).bind λp=>if p.1=true then some (true,p.2) else g p.2
def iN(f:FT):FT:=λe=>(f e).map λp=>(!p.1,p.2)
theorem Hv{σ:L2.St}{H:Hp}{Q:Bool->Hp->Prop}(h:fT K (pM ft fu) σ H Q):Mi (fT K ft) (fT K fu) σ H Q:=by obtain⟨F,e,b,e1,R,hf,q⟩:=h;unfold pM at hf;obtain⟨⟨x,e1'⟩,h1,hf⟩:=QI hf;refine⟨F,e,x,e1',R,h1,λF1 H1 X1 R1=>?_⟩;cases x with|true=>exact⟨F1,e1',b,e1,R1,hf,λF2 H2 X2 R2=>q F2 H2 (X1.trans X2) R2⟩|false=>cases hf;exact q F1 H1 X1 R1
theorem KM{σ:L2.St}{H:Hp}{Q:Bool->Hp->Prop}(h:fT K (sN ft fu) σ H Q):Nx (fT K ft) (fT K fu) σ H Q:=by obtain⟨F,e,b,e1,R,hf,q⟩:=h;unfold sN at hf;obtain⟨⟨x,e1'⟩,h1,hf⟩:=QI hf;refine⟨F,e,x,e1',R,h1,λF1 H1 X1 R1=>?_⟩;cases x with|false=>exact⟨F1,e1',b,e1,R1,hf,λF2 H2 X2 R2=>q F2 H2 (X1.trans X2) R2⟩|true=>cases hf;exact q F1 H1 X1 R1
theorem Hy{σ:L2.St}{H:Hp}{Q:Bool->Hp->Prop}(h:fT K (iN ft) σ H Q):Kx (fT K ft) σ H Q:=by obtain⟨F,e,b,e1,R,hf,q⟩:=h;unfold iN at hf;obtain⟨⟨x,e1'⟩,h1,hf⟩:=QJ hf;cases hf;exact⟨F,e,x,_,R,h1,λF1 H1 X1 R1=>q F1 H1 X1 R1⟩
variable{dg:List QT}
theorem zS(ha:PT X a (fT K ft)):PW X (.BoolOp .And [a] pos) (fT K ft):=GV ha
theorem j6(ha:PT X a (fT K ft)):PW X (.BoolOp .Or [a] pos) (fT K ft):=DS ha
theorem D9(ha:PT X a (fT K ft))(hb:PW X (.BoolOp .And (b::dg) pos) (fT K fu)):PW X (.BoolOp .And (a::b::dg) pos) (fT K (pM ft fu)):=(JY ha hb).mono λ_ _ _ h=>Hv h
theorem kl(ha:PT X a (fT K ft))(hb:PW X (.BoolOp .Or (b::dg) pos) (fT K fu)):PW X (.BoolOp .Or (a::b::dg) pos) (fT K (sN ft fu)):=(Ie ha hb).mono λ_ _ _ h=>KM h
theorem gp(ha:PT X a (fT K ft)):PT X (.UnaryOp .Not a pos) (fT K (iN ft)):=(DL ha).mono λ_ _ _ h=>Hy h
theorem rS{e:QT}(h:PW X e (fT K ft)):PT X e (fT K ft):=h.pt
def ky(f g:FE):FE:=λe=>(f e).bind λp=>(dZ p.1).bind λb=>if b=true then g p.2 else some (.d (.bool false),p.2)
def zc(f g:FE):FE:=λe=>(f e).bind λp=>(dZ p.1).bind λb=>if b=true then some (.d (.bool true),p.2) else g p.2
def l6(f:FE):FE:=λe=>(f e).bind λp=>(dZ p.1).map λb=>(.d (.bool (!b)),p.2)
theorem yR(ha:PE X a (fE K fa))(hb:PE X (.BoolOp .And (b::dg) pos) (fE K fb)):PE X (.BoolOp .And (a::b::dg) pos) (fE K (ky fa fb)):=(Dj ha hb).mono λσ H Q h=>by obtain⟨F,e,z,e2,R,hf,q⟩:=h;unfold ky at hf;obtain⟨⟨x,e1⟩,h1,hf⟩:=QI hf;obtain⟨b,h2,hf⟩:=QI hf;refine⟨F,e,x,e1,R,h1,λF1 H1 v X1 R1 A1=>⟨b,lG A1 h2,?_⟩⟩;cases b with|true=>exact⟨F1,e1,z,e2,R1,hf,λF2 H2 w X2 R2 A2=>q F2 H2 w (X1.trans X2) R2 (A2.weak X1.dom)⟩|false=>cases hf;exact q F1 H1 _ X1 R1 eZ
theorem D1{op}(h:PE X a (fE K fa)):PE X (.BoolOp op [a] pos) (fE K fa):=Dp h
theorem J5(ha:PE X a (fE K fa)):PE X (.UnaryOp .Not a pos) (fE K (l6 fa)):=(JQ ha).mono λσ H Q h=>by obtain⟨F,e,z,e2,R,hf,q⟩:=h;unfold l6 at hf;obtain⟨⟨x,e1⟩,h1,hf⟩:=QI hf;obtain⟨b,h2,hf⟩:=QJ hf;cases hf;exact⟨F,e,x,_,R,h1,λF1 H1 v X1 R1 A1=>⟨b,lG A1 h2,q F1 H1 _ X1 R1 eZ⟩⟩
def KL(t:FT)(f g:FE):FE:=λe=>(t e).bind λp=>if p.1=true then f p.2 else g p.2
def iD(g g':En->Rv->Rv->Option Rv)(fa fb fc:FE):FE:=λe=>(fa e).bind λp=>(fb p.2).bind λq=>(g q.2 p.1 q.1).bind λz=>(dZ z).bind λk=>if k=true then(fc q.2).bind λw=>(g' w.2 q.1 w.1).map λz'=>(z',w.2) else some (.d (.bool false),q.2)
theorem uO{r r':R2}{g g':En->Rv->Rv->Option Rv}{fc:FE}(ho:fY K r g)(ho':fY K r' g'){σ:L2.St}{H:Hp}{Q:VK}(h:fE K (iD g g' fa fb fc) σ H Q):yY r r' (fE K fa) (fE K fb) (fE K fc) σ H Q:=by obtain⟨F,e,z,e4,R,hf,q⟩:=h;unfold iD at hf;obtain⟨⟨x,e1⟩,h1,hf⟩:=QI hf;obtain⟨⟨y,e2⟩,h2,hf⟩:=QI hf;obtain⟨z',h3,hf⟩:=QI hf;obtain⟨k,h4,hf⟩:=QI hf;refine⟨F,e,x,e1,R,h1,λF1 H1 v X1 R1 A1=>⟨F1,e1,y,e2,R1,h2,λF2 H2 u X2 R2 A2=>?_⟩⟩;have X12:=X1.trans X2;refine ho σ H F2 H2 e2 x y z' v u _ R2 (A1.ext X2) (A2.weak X1.dom) h3 λF3 H3 w X3 R3 A3=>⟨k,lG A3 h4,?_⟩;have X13:=X12.trans X3;cases k with|false=>cases hf;exact q F3 H3 _ X13 R3 eZ|true=>obtain⟨⟨w',e3⟩,h5,hf⟩:=QI hf;obtain⟨z2,h6,hf⟩:=QJ hf;cases hf;refine⟨F3,_,w',_,R3,h5,λF4 H4 u4 X4 R4 A4=>?_⟩;have X14:=X13.trans X4;refine ho' σ H F4 H4 _ y w' _ u u4 Q R4 (((A2.weak X1.dom).ext X3).ext X4) (A4.weak X13.dom) h6 λF5 H5 w5 X5 R5 A5=>?_;exact q F5 H5 w5 (X14.trans X5) R5 (A5.weak X14.dom)
theorem DZ{op op':CmpOp}{r r':R2}{g g':En->Rv->Rv->Option Rv}{fc:FE}(hr:eG X (RI op) r)(ho:fY K r g)(hr':eG X (RI op') r')(ho':fY K r' g')(ha:PE X a (fE K fa))(hb:PE X b (fE K fb))(hc:PE X c (fE K fc))(hm:lastMarks [op,op'] [b,c]=false):PE X (.Compare a [op,op'] [b,c] pos) (fE K (iD g g' fa fb fc)):=(Dl hr hr' ha hb hc hm).mono λ_ _ _ h=>uO ho ho' h
theorem D8{op op':CmpOp}{r r':R2}{g g':En->Rv->Rv->Option Rv}{fc:FE}(hr:eG X (RI op) r)(ho:fY K r g)(hr':eG X (RI op') r')(ho':fY K r' g')(ha:PE X a (fE K fa))(hb:PE X b (fE K fb))(hc:PE X c (fE K fc))(hm:lastMarks [op,op'] [b,c]=false):PT X (.Compare a [op,op'] [b,c] pos) (fT K (aF (iD g g' fa fb fc))):=(DK hr hr' ha hb hc hm).mono λσ H Q h=>by obtain⟨F,e,z,e2,R,hf,q⟩:=sI h;exact uO ho ho' ⟨F,e,z,e2,R,hf,q⟩
def ai:FA:=λe=>some ([],e)
def aa(fa:FE)(fs:FA):FA:=λe=>(fa e).bind λp=>(fs p.2).map λq=>(p.1::q.1,q.2)
theorem ac:PA X [] (fA K ai):=io.mono λσ H Q h=>by obtain⟨F,e,r,e',R,hf,q⟩:=h;cases hf;exact q F H [] (dF.refl _ _ _ _) R rfl
theorem Nm(ha:PE X a (fE K fa))(hr:PA X es (fA K fs))(h:Vg a=false):PA X (a::es) (fA K (aa fa fs)):=(Gw ha hr h).mono λσ H Q h=>by obtain⟨F,e,z,e2,R,hf,q⟩:=h;unfold aa at hf;obtain⟨⟨x,e1⟩,h1,hf⟩:=QI hf;obtain⟨⟨xs,e2'⟩,h2,hf⟩:=QJ hf;cases hf;refine⟨F,e,x,e1,R,h1,λF1 H1 v X1 R1 A1=>⟨F1,e1,xs,_,R1,h2,λF2 H2 vs X2 R2 A2=>?_⟩⟩;exact q F2 H2 (v::vs) (X1.trans X2) R2 ⟨v,vs,rfl,A1.ext X2,A2.weak X1.dom⟩
def bF(fs:FA):FE:=λe=>(fs e).bind λp=>(gU p.1).bind λds=>if ds.length<=1000 then some (.d (.tuple ds),p.2) else none
def cD(fs:FA):FE:=λe=>(fs e).bind λp=>(gU p.1).bind λds=>if ds.length<=1000 then some (.l ds,p.2) else none
theorem aT{x1}(h:PA X es (fA K fs)):PE X (.Tuple es x1 pos) (fE K (bF fs)):=(Ds h).mono λσ H Q h=>by
 obtain⟨F,e,z,e2,R,hf,q⟩:=h;unfold bF at hf;obtain⟨⟨rs,e1⟩,h1,hf⟩:=QI hf;obtain⟨ds,h2,hf⟩:=QI hf;split at hf;case isFalse=>cases hf
 case isTrue hl=>cases hf;refine⟨F,e,rs,_,R,h1,λF1 H1 vs X1 R1 A1=>?_⟩;obtain⟨F2,R2,s2,d2,f2⟩:=ce.frozen R1 A1 h2;have hlen:=d2.len;refine⟨Uy (uD ↥0),λp hp=>?_⟩;obtain⟨R3,X3⟩:=R2.newT (vs:=vs) hp;exact q _ _ _ ((X1.frz s2 f2).trans X3) R3 (bH.mpr ⟨p,vs,rfl,.inl (.inl ao),aI.mono X3.sf d2⟩)
theorem bj(h:PA X es (fA K fs)):PE X (.List es pos) (fE K (cD fs)):=(Do h).mono λσ H Q h=>by
 obtain⟨F,e,z,e2,R,hf,q⟩:=h;unfold cD at hf;obtain⟨⟨rs,e1⟩,h1,hf⟩:=QI hf;obtain⟨ds,h2,hf⟩:=QI hf;split at hf;case isFalse=>cases hf
 case isTrue hl=>cases hf;refine⟨F,e,rs,_,R,h1,λF1 H1 vs X1 R1 A1=>?_⟩;obtain⟨F2,R2,s2,d2,f2⟩:=ce.frozen R1 A1 h2;have hlen:=d2.len;refine⟨Uy (uD ↥0),λp hp=>?_⟩;obtain⟨R3,X3,hF,no⟩:=R2.newL (vs:=vs) hp;exact q _ _ _ ((X1.frz s2 f2).trans X3) R3 ⟨p,vs,rfl,X1.dom p hp,hF,ao,d2,no⟩
def eD(K:QU)(r:List V->Hp->VK->Prop)(g:En->List Rv->Option Rv):Prop:=∀(σ:L2.St) (H0 F H:Hp) (e:En) (xs:List Rv) (z:Rv) (vs:List V) (Q:VK),aR K F H σ e->ce K σ H0 F H e xs vs->g e xs=some z->(∀F' H' w,dF σ F H e F' H' e->aR K F' H' σ e->bG K σ H F' H' e z w->Q w H')->r vs H Q
def aH(g:En->List Rv->Option Rv)(fs:FA):FE:=λe=>(fs e).bind λp=>(g p.2 p.1).map λz=>(z,p.2)
theorem xP{r:List V->Hp->VK->Prop}{g:En->List Rv->Option Rv}(ho:eD K r g){σ:L2.St}{H:Hp}{Q:VK}(h:fE K (aH g fs) σ H Q):Nv r (fA K fs) σ H Q:=by obtain⟨F,e,z,e2,R,hf,q⟩:=h;unfold aH at hf;obtain⟨⟨x,e1⟩,h1,hf⟩:=QI hf;obtain⟨z',h3,hf⟩:=QJ hf;cases hf;refine⟨F,e,x,_,R,h1,λF1 H1 vs X1 R1 A1=>?_⟩;refine ho σ H F1 H1 _ x _ vs Q R1 A1 h3 λF3 H3 w X3 R3 A3=>?_;exact q F3 H3 w (X1.trans X3) R3 (A3.weak X1.dom)
theorem DY{x:Str}{p pos:Pos}{id:String}{r:List V->Hp->VK->Prop}{g:En->List Rv->Option Rv}(hc:du X (.builtin id) r)(ho:eD K r g)(hg:Gl X x)(hm:X.mg x=none)(hv:SC x=some (.builtin id))(ha:PA X (a::es) (fA K fs))(hn:x≠"__name__")(hdb:(x==("__debug__":Str))=false)(he:Rg (a::es) X.env=(false,Rj a X.env)::Rg es X.env)(hpl:(RF pos (Rg es X.env)).any (·.1)=false):PE X (.Call (.Name x p) (a::es) [] pos) (fE K (aH g fs)):=(lb hc hg hm hv ha hn hdb he hpl).mono λ_ _ _ h=>xP ho h
theorem Bp{x:Str}{p pos:Pos}{T:String}{r:List V->Hp->VK->Prop}{g:En->List Rv->Option Rv}(hc:du X (.type T) r)(ho:eD K r g)(hg:Gl X x)(hm:X.mg x=none)(hv:SC x=some (.type T))(ha:PA X (a::es) (fA K fs))(hn:x≠"__name__")(hdb:(x==("__debug__":Str))=false)(he:Rg (a::es) X.env=(false,Rj a X.env)::Rg es X.env)(hpl:(RF pos (Rg es X.env)).any (·.1)=false):PE X (.Call (.Name x p) (a::es) [] pos) (fE K (aH g fs)):=(Bk hc hg hm hv ha hn hdb he hpl).mono λ_ _ _ h=>xP ho h
end
mutual
theorem DA.reads{X:Cx}{pins:List (QQ×Obj)}{σ:L2.St}{H:Hp}{s:QS}(I:av X pins σ H s):∀{d:QR}{v:V}{u:QP},d.canLay0=true->DA X.K H d v->aS v u->∃as,Reads s.heap u d as|.none,_,_,_,q,r=>by simp only[DA]at q;subst q;cases r;exact⟨_,.none⟩|.bool b,_,_,_,q,r=>by simp only[DA]at q;subst q;cases r;exact⟨_,.bool b⟩|.int i,_,_,_,q,r=>by simp only[DA]at q;subst q;obtain⟨t,rfl⟩:=r;exact⟨_,.int i t⟩|.str x,_,_,_,q,r=>by simp only[DA]at q;subst q;obtain⟨t,rfl⟩:=r;exact⟨_,.str x t⟩|.tuple ds,_,_,c,q,r=>by simp only[DA]at q;obtain⟨a,xs,e,hs,rr⟩:=q;subst e;cases r;obtain⟨its,rv,⟨o,ho,hc,n,hd⟩,hz⟩:=I.tuple hs;obtain⟨as,q⟩:=aI.reads I (by simpa[Sm]using c) rr rv;exact⟨_,.tuple ho hc hd q⟩|.list ds,_,_,c,q,r=>by simp only[DA]at q;obtain⟨a,xs,e,hs,rr⟩:=q;subst e;cases r;obtain⟨its,rv,ht,hz⟩:=I.list hs;obtain⟨o,ho,hc,n,hd⟩:=ht.isList;obtain⟨as,q⟩:=aI.reads I (by simpa[Sm]using c) rr rv;exact⟨_,.list ho hc hd q⟩|.dict _,_,_,c,_,_=>by simp[Sm]at c
theorem aI.reads{X:Cx}{pins:List (QQ×Obj)}{σ:L2.St}{H:Hp}{s:QS}(I:av X pins σ H s):∀{ds:List QR}{xs:List V}{us:List QP},SB ds=true->aI X.K H ds xs->aN xs us->∃as,Ut s.heap us ds as|[],_,_,_,q,r=>by simp only[aI]at q;subst q;cases r;exact⟨_,.nil⟩|d::ds,_,_,c,q,r=>by simp only[aI]at q;simp only[SB,RE]at c;obtain⟨x,rr,e,a,b⟩:=q;subst e;cases r with|cons p p'=>obtain⟨as,q1⟩:=DA.reads I c.1 a p;obtain⟨bs,q2⟩:=aI.reads I c.2 b p';exact⟨_,.cons q1 q2⟩
end
def lU(e:En):Rv->Option QR|.d x=>some x|.l xs=>some (.list xs)|.s i=>match e[i]? with|some (some (.l xs))=>some (.list xs)|_=>none
theorem qE{K:QU}{σ:L2.St}{H0 F H:Hp}{e:En}{r:Rv}{v:V}{d:QR}(R:aR K F H σ e)(h:bG K σ H0 F H e r v)(q:lU e r=some d):DA K H d v:=by cases r with|d x=>cases q;exact DA.mono R.sm h|l xs=>cases q;obtain⟨l,vs,rfl,h1,h2,h3,h4,_⟩:=h;exact cU.mpr ⟨l,vs,rfl,.inl (.inl h3),aI.mono R.sm h4⟩|s i=>obtain⟨h1,ys,h2⟩:=h;simp only[lU,h2]at q;cases q;obtain⟨l,vs,e1,e2,e3,e4⟩:=R.own i _ h2;rw[h1]at e1;cases e1;exact cU.mpr ⟨l,vs,rfl,.inl (.inl e3),aI.mono R.sm e4⟩
section
variable{X:Cx}{K:QU}
def bo:Rv->Option Int|.d (.int i)=>some i|_=>none
theorem bO{σ:L2.St}{H0 F H:Hp}{e:En}{r:Rv}{v:V}{i:Int}(h:bG K σ H0 F H e r v)(q:bo r=some i):v=.int i:=by
 unfold bo at q;split at q;·cases q;exact bc.mp (show DA K F (.int _) v from h)
 ·cases q
theorem oH{σ:L2.St}{H0 F H:Hp}{e:En}{i:Int}:bG K σ H0 F H e (.d (.int i)) (.int i):=(bc (K:=K) (F:=F)).mpr rfl
def gI(C:Int->Int->Bool)(f:Int->Int->QR):En->Rv->Rv->Option Rv:=λ_ x y=>(bo x).bind λi=>(bo y).bind λj=>if C i j=true then some (.d (f i j)) else none
theorem rL{C:Int->Int->Prop}{c:Int->Int->Bool}{g:Int->Int->V}{f:Int->Int->QR}(hc:∀i j,c i j=true->C i j)(hf:∀F i j,DA K F (f i j) (g i j)):fY K (rI C g) (gI c f):=by
 intro σ H0 F H e x y z v u Q R A B hg q;unfold gI at hg;obtain⟨i,h1,hg⟩:=QI hg;obtain⟨j,h2,hg⟩:=QI hg;split at hg;case isFalse=>cases hg
 case isTrue hh=>cases hg;exact⟨i,j,bO A h1,bO B h2,hc i j hh,q F H _ (dF.refl _ _ _ _) R (hf F i j)⟩
theorem jZ{g:Int->Int->V}{f:Int->Int->QR}(hf:∀F i j,DA K F (f i j) (g i j)):fY K (xu g) (gI (λ_ _=>true) f):=by intro σ H0 F H e x y z v u Q R A B hg q;obtain⟨i,j,h1,h2,h3,h4⟩:=rL (K:=K) (C:=λ_ _=>True) (c:=λ_ _=>true) (g:=g) (f:=f) (λ_ _ _=>trivial) hf σ H0 F H e x y z v u Q R A B hg q;exact⟨i,j,h1,h2,h4⟩
def E7(g g':En->Rv->Rv->Option Rv):En->Rv->Rv->Option Rv:=λe x y=>(g e x y).or (g' e x y)
theorem fY.or{r r':R2}{g g':En->Rv->Rv->Option Rv}(h:fY K r g)(h':fY K r' g'):fY K (λx y H Q=>r x y H Q\/r' x y H Q) (E7 g g'):=by intro σ H0 F H e x y z v u Q R A B hg q;unfold E7 at hg;cases e1:g e x y with|some w=>rw[e1]at hg;cases hg;exact .inl (h σ H0 F H e x y _ v u Q R A B e1 q)|none=>rw[e1]at hg;exact .inr (h' σ H0 F H e x y _ v u Q R A B hg q)
def HV:=gI (λ_ _=>true) λi j=>.int (i+j)
def kW:=gI (λ_ _=>true) λi j=>.int (i-j)
def j8(i:Int):Bool:=decide (-(2^64)<i)&&decide (i<2^64)
def K9(n:Nat)(i:Int):Bool:=decide (i.natAbs<2^n)
theorem mP{n:Nat}{i:Int}:K9 n i=true↔Bt n i:=by unfold K9 Bt;exact decide_eq_true_iff
def oy(i j:Int):Bool:=j8 i||j8 j||(K9 4000 i&&K9 4000 j)
def qV:=gI oy λi j=>.int (i*j)
def fF:=gI (λ_ j=>j !=0&&K9 8000 j) λi j=>.int (i.fdiv j)
def a':=gI (λ_ j=>j !=0) λi j=>.int (i.fmod j)
def yN(i j:Int):Bool:=decide (0<=j)&&decide (j<=1000000)&&j8 i
def vt:=gI yN λi j=>.int (i^j.toNat)
def FL:=gI yN λi j=>.int (i*2^j.toNat)
theorem mD{i:Int}(h:j8 i=true):-(2^64)<i/\i<2^64:=by unfold j8 at h;rw[RE,decide_eq_true_iff,decide_eq_true_iff]at h;exact h
theorem zO{i j:Int}(h:yN i j=true):BS i j:=by unfold yN at h;rw[RE,RE,decide_eq_true_iff,decide_eq_true_iff]at h;have:=mD h.2;exact⟨h.1.1,h.1.2,by lia⟩
def zg(i j:Int):Prop:=Ff i j\/HE i j
theorem Gr:eG X (RZ .Mult) (rI zg λi j=>.int (i*j)):=by
 intro pins s σ H x y v u Q I rx ry h;obtain⟨i,j,e1,e2,h1,q⟩:=h;rcases h1 with h1|h1;·exact JE pins s σ H x y v u Q I rx ry ⟨i,j,e1,e2,h1,q⟩
 ·exact Gs pins s σ H x y v u Q I rx ry ⟨i,j,e1,e2,h1,q⟩
theorem Gc{i j:Int}(h:oy i j=true):zg i j:=by
 unfold oy at h;rw[Bool.or_eq_true,Bool.or_eq_true,RE]at h;rcases h with (h|h)|h;·exact .inl (.inl (mD h))
 ·exact .inl (.inr (mD h))
 ·exact .inr ⟨mP.mp h.1,mP.mp h.2⟩
theorem Jp:fY K (rI zg λi j=>.int (i*j)) qV:=rL (λ_ _ h=>Gc h) λ_ _ _=>bc.mpr rfl
theorem Mh:fY K (xu λi j=>.int (i-j)) kW:=jZ λ_ _ _=>bc.mpr rfl
theorem IT:fY K (rI HD λi j=>.int (i.fdiv j)) fF:=rL (λi j h=>by rw[RE]at h;exact⟨by simpa using h.1,mP.mp h.2⟩) λ_ _ _=>bc.mpr rfl
theorem LA:fY K (rI (λ_ j=>j≠0) λi j=>.int (i.fmod j)) a':=rL (λi j h=>by simpa using h) λ_ _ _=>bc.mpr rfl
theorem LO:fY K (rI BS λi j=>.int (i^j.toNat)) vt:=rL (λ_ _ h=>zO h) λ_ _ _=>bc.mpr rfl
theorem Mb:fY K (rI BS λi j=>.int (i*2^j.toNat)) FL:=rL (λ_ _ h=>zO h) λ_ _ _=>bc.mpr rfl
def zz:En->Rv->Rv->Option Rv:=λe x y=>match gu e x,gu e y with|some (false,xs),some (false,ys)=>if xs.length+ys.length<=1000000 then some (.d (.tuple (xs++ys))) else none|_,_=>none
theorem IP:fY K (D_ K) zz:=by intro σ H0 F H e x y z v u Q R A B hg q;unfold zz at hg;match h1:gu e x,h2:gu e y,hg with
 |some (false,xs),some (false,ys),hg=>
  obtain⟨p,vs,rfl,d1,s1⟩:=et R A h1;obtain⟨p',us,rfl,d2,s2⟩:=et R B h2;dsimp only at hg;split at hg;case isFalse=>cases hg
  case isTrue hl=>cases hg;have l1:=d1.len;have l2:=d2.len;have sl:Rm=16777216:=Se;refine⟨p,p',vs,us,rfl,rfl,s1,s2,by lia,λt H' sm hT=>?_⟩;obtain⟨F',R',X',hF⟩:=R.growT sm hT;exact q F' H' _ X' R' (bH.mpr ⟨t,_,rfl,hF,(d1.append d2).mono X'.sf⟩)
def A8(e:En):Rv->Option (List QR)
 |.l xs=>some xs|.s i=>match e[i]? with|some (some (.l xs))=>some xs|_=>none
 |_=>none
theorem vE{σ:L2.St}{H0 F H:Hp}{e:En}{r:Rv}{v:V}(R:aR K F H σ e)(h:bG K σ H0 F H e r v){xs:List QR}(q:A8 e r=some xs):∃p vs,v=.ref p/\F p=none/\H p=some (.lst vs)/\aI K F xs vs:=by cases r with|d x=>cases q|l ys=>cases q;obtain⟨l,vs,e1,h1,h2,h3,h4,_⟩:=h;exact⟨l,vs,e1,h2,h3,h4⟩|s i=>obtain⟨h1,ys,h2⟩:=h;simp only[A8,h2]at q;cases q;obtain⟨l,vs,e1,e2,e3,e4⟩:=R.own i _ h2;rw[h1]at e1;cases e1;exact⟨l,vs,rfl,e2,e3,e4⟩
def CA:En->Rv->Rv->Option Rv:=λe x y=>(A8 e x).bind λxs=>(A8 e y).bind λys=>if xs.length+ys.length<=1000000 then some (.l (xs++ys)) else none
theorem IM:fY K J' CA:=by
 intro σ H0 F H e x y z v u Q R A B hg q;unfold CA at hg;obtain⟨xs,h1,hg⟩:=QI hg;obtain⟨ys,h2,hg⟩:=QI hg;split at hg;case isFalse=>cases hg
 case isTrue hl=>cases hg;obtain⟨p,vs,rfl,f1,s1,d1⟩:=vE R A h1;obtain⟨p',us,rfl,f2,s2,d2⟩:=vE R B h2;have l1:=d1.len;have l2:=d2.len;have sl:Rm=16777216:=Se;refine⟨p,p',vs,us,rfl,rfl,s1,s2,by lia,λt ht=>?_⟩;obtain⟨R3,X3,hF,no⟩:=R.newL (vs:=vs++us) ht;exact q _ _ _ X3 R3 ⟨t,_,rfl,ht,hF,ao,d1.append d2,no⟩
def cZ:En->Rv->Rv->Option Rv:=E7 HV (E7 zz CA)
def Ik(K:QU):R2:=λx y H Q=>xu (λi j=>.int (i+j)) x y H Q\/(D_ K x y H Q\/J' x y H Q)
theorem Gj:eG X (RZ .Add) (Ik X.K):=Jy.or (Gk.or JA)
theorem K4:fY K (Ik K) cZ:=fY.or (jZ λ_ _ _=>bc.mpr rfl) (fY.or IP IM)
def qX:En->Rv->Rv->Option Rv:=λe x y=>match gu e x,bo y with|some (false,[d]),some k=>if 0<=k/\k<=100000 then some (.d (.tuple (Rk k.toNat d))) else none|_,_=>none
theorem aI.rep{F:Hp}{d:QR}{v:V}(h:DA K F d v):∀n,aI K F (Rk n d) (Rk n v)|0=>aI.nil|n+1=>aI.cons h (aI.rep h n)
theorem Kg:fY K (Eb K) qX:=by intro σ H0 F H e x y z v u Q R A B hg q;unfold qX at hg;match h1:gu e x,h2:bo y,hg with
 |some (false,[d]),some k,hg=>
  obtain⟨p,vs,rfl,d1,s1⟩:=et R A h1;dsimp only at hg;split at hg;case isFalse=>cases hg
  case isTrue hl=>cases hg;have hd:=d1;simp only[aI]at hd;obtain⟨w,r,e1,hw,e2⟩:=hd;subst e2 e1;refine⟨p,k,w,rfl,bO B h2,s1,hl.1,hl.2,λt H' sm hT=>?_⟩;obtain⟨F',R',X',hF⟩:=R.growT sm hT;exact q F' H' _ X' R' (bH.mpr ⟨t,_,rfl,hF,(aI.rep hw _).mono X'.sf⟩)
def wR:En->Rv->Rv->Option Rv:=λe x y=>(A8 e x).bind λxs=>(bo y).bind λk=>if-100000<=k/\k<=100000/\xs.length*k.toNat<=1000000 then some (.l (Rk k.toNat xs).flatten) else none
theorem aI.reps{F:Hp}{ds:List QR}{vs:List V}(h:aI K F ds vs):∀n,aI K F (Rk n ds).flatten (Rk n vs).flatten|0=>aI.nil|n+1=>by simpa[Ui]using aI.append h (aI.reps h n)
theorem Kf:fY K Kd wR:=by
 intro σ H0 F H e x y z v u Q R A B hg q;unfold wR at hg;obtain⟨xs,h1,hg⟩:=QI hg;obtain⟨k,h2,hg⟩:=QI hg;split at hg;case isFalse=>cases hg
 case isTrue hl=>cases hg;obtain⟨p,vs,rfl,f1,s1,d1⟩:=vE R A h1;have l1:=d1.len;have sl:Rm=16777216:=Se;refine⟨p,k,vs,rfl,bO B h2,s1,by lia,by lia,by rw[<-l1];lia,λt ht=>?_⟩;obtain⟨R3,X3,hF,no⟩:=R.newL (vs:=(Rk k.toNat vs).flatten) ht;exact q _ _ _ X3 R3 ⟨t,_,rfl,ht,hF,ao,aI.reps d1 _,no⟩
def ja:En->Rv->Rv->Option Rv:=E7 qV (E7 qX wR)
def Il(K:QU):R2:=λx y H Q=>rI zg (λi j=>.int (i*j)) x y H Q\/(Eb K x y H Q\/Kd x y H Q)
theorem Gq:eG X (RZ .Mult) (Il X.K):=Gr.or (Gu.or JH)
theorem LB:fY K (Il K) ja:=fY.or Jp (fY.or Kg Kf)
def HX:=gI (λ_ _=>true) λi j=>.bool (decide (i<j))
def IU:=gI (λ_ _=>true) λi j=>.bool (decide (i<=j))
def CD:=gI (λ_ _=>true) λi j=>.bool (decide (j<i))
def FH:=gI (λ_ _=>true) λi j=>.bool (decide (j<=i))
theorem Nj:fY K (xu λi j=>.bl (decide (i<j))) HX:=jZ λ_ _ _=>dH.mpr rfl
theorem Nh:fY K (xu λi j=>.bl (decide (i<=j))) IU:=jZ λ_ _ _=>dH.mpr rfl
theorem M9:fY K (xu λi j=>.bl (decide (j<i))) CD:=jZ λ_ _ _=>dH.mpr rfl
theorem M8:fY K (xu λi j=>.bl (decide (j<=i))) FH:=jZ λ_ _ _=>dH.mpr rfl
def Ka(K:QU)(neg:Bool):R2:=λx y H Q=>∃a b,DA K H a x/\DA K H b y/\SI a=true/\SI b=true/\Q (.bl (if neg then !PyData.eqv a b else Ss a b)) H
theorem JC{k:Nat}(hr:bE k X.A):eG X (RI .Eq) (Ka X.K false):=by intro pins s σ H x y v u Q I rx ry h;obtain⟨a,b,ha,hb,s1,s2,q⟩:=h;obtain⟨as,ra⟩:=DA.reads I (Wh s1) ha rx;obtain⟨bs,rb⟩:=DA.reads I (Wh s2) hb ry;exact SeqAt.compareEq_shaped ra rb s1 s2 hr.units ⟨.bl _,H,I,rfl,q⟩
theorem JF{k:Nat}(hr:bE k X.A):eG X (RI .NotEq) (Ka X.K true):=by intro pins s σ H x y v u Q I rx ry h;obtain⟨a,b,ha,hb,s1,s2,q⟩:=h;obtain⟨as,ra⟩:=DA.reads I (Wh s1) ha rx;obtain⟨bs,rb⟩:=DA.reads I (Wh s2) hb ry;exact SeqAt.compareNe_shaped ra rb s1 s2 hr.units ⟨.bl _,H,I,rfl,q⟩
def cN(neg:Bool):En->Rv->Rv->Option Rv:=λe x y=>(lU e x).bind λa=>(lU e y).bind λb=>if (SI a&&SI b)=true then some (.d (.bool (if neg then !PyData.eqv a b else Ss a b))) else none
theorem HS{neg:Bool}:fY K (Ka K neg) (cN neg):=by
 intro σ H0 F H e x y z v u Q R A B hg q;unfold cN at hg;obtain⟨a,h1,hg⟩:=QI hg;obtain⟨b,h2,hg⟩:=QI hg;split at hg;case isFalse=>cases hg
 case isTrue hl=>cases hg;rw[RE]at hl;exact⟨a,b,qE R A h1,qE R B h2,hl.1,hl.2,q F H _ (dF.refl _ _ _ _) R eZ⟩
def Kb(K:QU)(neg:Bool):R2:=λx y H Q=>∃a xs,DA K H a x/\(DA K H (.list xs) y\/DA K H (.tuple xs) y)/\a.canLay0=true/\a.depth<=60/\SB xs=true/\Q (.bl (if neg then !(xs.any λy=>Ss y a) else xs.any λy=>Ss y a)) H
theorem JD{k:Nat}(hr:bE k X.A):eG X (RI .In) (Kb X.K false):=by
 intro pins s σ H x y v u Q I rx ry h;obtain⟨a,xs,ha,hb,s1,s2,s3,q⟩:=h;obtain⟨as,ra⟩:=DA.reads I s1 ha rx;have hu:=hr.units;rcases hb with hb|hb;·obtain⟨bs,rb⟩:=DA.reads I (by simpa[Sm]using s3) hb ry;exact PySem.SeqAt.in_list_reads rb ra s3 s1 ↥0 ⟨.bl _,H,I,rfl,q⟩
 ·obtain⟨bs,rb⟩:=DA.reads I (by simpa[Sm]using s3) hb ry;exact PySem.SeqAt.in_tuple_reads rb ra s3 s1 ↥0 ⟨.bl _,H,I,rfl,q⟩
theorem Bj{k:Nat}(hr:bE k X.A):eG X (RI .NotIn) (Kb X.K true):=by
 intro pins s σ H x y v u Q I rx ry h;obtain⟨a,xs,ha,hb,s1,s2,s3,q⟩:=h;obtain⟨as,ra⟩:=DA.reads I s1 ha rx;have hu:=hr.units;rcases hb with hb|hb;·obtain⟨bs,rb⟩:=DA.reads I (by simpa[Sm]using s3) hb ry;exact PySem.SeqAt.notIn_list_reads rb ra s3 s1 ↥0 ⟨.bl _,H,I,rfl,q⟩
 ·obtain⟨bs,rb⟩:=DA.reads I (by simpa[Sm]using s3) hb ry;exact PySem.SeqAt.notIn_tuple_reads rb ra s3 s1 ↥0 ⟨.bl _,H,I,rfl,q⟩
def AK(neg:Bool):En->Rv->Rv->Option Rv:=λe x y=>(lU e x).bind λa=>(gu e y).bind λp=>if (a.canLay0&&decide (a.depth<=60)&&SB p.2)=true then some (.d (.bool (if neg then !(p.2.any λy=>Ss y a) else p.2.any λy=>Ss y a))) else none
theorem Lj{neg:Bool}:fY K (Kb K neg) (AK neg):=by
 intro σ H0 F H e x y z v u Q R A B hg q;unfold AK at hg;obtain⟨a,h1,hg⟩:=QI hg;obtain⟨⟨b,xs⟩,h2,hg⟩:=QI hg;split at hg;case isFalse=>cases hg
 case isTrue hl=>cases hg;rw[RE,RE,decide_eq_true_iff]at hl;obtain⟨p,vs,rfl,d1,s1⟩:=et R B h2;refine⟨a,xs,qE R A h1,?_,hl.1.1,hl.1.2,hl.2,q F H _ (dF.refl _ _ _ _) R eZ⟩;cases b with|true=>exact .inl (cU.mpr ⟨p,vs,rfl,s1,d1.mono R.sm⟩)|false=>exact .inr (bH.mpr ⟨p,vs,rfl,s1,d1.mono R.sm⟩)
def eE:En->Rv->Rv->Option Rv:=λe x y=>(gu e x).bind λp=>(bo y).bind λi=>(atI p.2 i).map .d
def LZ(K:QU):R2:=λx y H Q=>Kc K x y H Q\/L4 K x y H Q
theorem Nc:E2 X (LZ X.K):=zH.or I0
theorem aI.atI{F:Hp}{ds:List QR}{vs:List V}(h:aI K F ds vs){i:Int}{d:QR}(q:atI ds i=some d):∃v,L2.atI vs i=some v/\DA K F d v:=by unfold L2.atI at q⊢;obtain⟨j,h1,h2⟩:=QI q;obtain⟨v,h3,h4⟩:=h.get h2;exact⟨v,by rw[<-h.len,h1];exact h3,h4⟩
theorem Nf:fY K (LZ K) eE:=by intro σ H0 F H e x y z v u Q R A B hg q;unfold eE at hg;obtain⟨⟨b,xs⟩,h1,hg⟩:=QI hg;obtain⟨i,h2,hg⟩:=QI hg;obtain⟨d,h3,hg⟩:=QJ hg;cases hg;obtain⟨p,vs,rfl,d1,s1⟩:=et R A h1;obtain⟨w,h4,h5⟩:=d1.atI h3;have fin:=q F H w (dF.refl _ _ _ _) R h5;cases b with|true=>exact .inl ⟨p,vs,i,w,rfl,bO B h2,s1,h4,fin⟩|false=>exact .inr ⟨p,vs,i,w,rfl,bO B h2,s1,h4,fin⟩
end
end L2
namespace HT
open PySem PySem.Spec PyProof.Rows
section
variable{prog:QZ}{w:QW}{A:Rf}{E:QP->QS->Prop}{s:QS}
theorem getItem_tuple_all{t sl:QQ}{items:Array QP}{vl vu:QP}{lo hi:Option Int}{Q:QP->QS->Prop}(ht:IsTup s.heap t items)(hs:s.heap.IsSliceOf sl vl vu .none)(pl:IsPart vl lo)(pu:IsPart vu hi)(hw:sIx items.size 0 lo=0/\sIx items.size items.size hi=items.size)(h:Q (.ref t) s):QX (QY prog w) A (Tq (.ref t) (.ref sl)) Q E s:=by
 obtain⟨os,hos,hcs,hds⟩:=id hs;have hTs:s.TypeIs (.ref sl) "slice":=⟨os,hos,hcs⟩;unfold Tq;try with_reducible refine Up ?_
 first|refine QV (Rl ?_)|skip
 refine QV (wpAny_sequenceKey ht.typeIs ⋯ ?_);refine QV (UB (name:=RY "__getitem__") ht.typeIs UC (Uh UC ht.typeIs entry_tuple_getitem ?_ (args_tuple_getitem _ _)));show QX _ _ (WM (.ref t)>>=_) _ _ s;refine QV (tupleItemsOf_ ht ?_);refine QV (wpAny_typeOf hTs ?_);rw[if_pos ⋯];refine QV (jG hs pl pu ?_);have hno:(((sIx items.size 0 lo:Nat):Int)==0&&(1:Int)==1&&(sIx items.size items.size hi-sIx items.size 0 lo)==items.size)=true:=by rw[hw.1,hw.2];simp
 show QX _ _ (if (((sIx items.size 0 lo:Nat):Int)==0&&(1:Int)==1&&(sIx items.size items.size hi-sIx items.size 0 lo)==items.size)=true then _ else _) _ _ s;rw[if_pos hno];unfold Builtin.Tuple.tupleIsExact;refine QV (QV (wpAny_typeOf ht.typeIs (Rl ?_)));rw[if_pos ⋯];exact QV (Uq (Rl ⟨_,rfl,Rl h⟩))
end
end HT
namespace L2
open PySem PySem.Spec PyProof.Rows
section
variable{X:Cx}{K:QU}{a:QT}{fa:FE}{lo hi:Option QT}{pos p2:Pos}
def cutD(xs:List QR)(lo hi:Option Int):List QR:=(xs.drop (HT.sIx xs.length 0 lo)).take (HT.sIx xs.length xs.length hi-HT.sIx xs.length 0 lo)
def L9(K:QU):V->Option Int->Option Int->Hp->VK->Prop:=λx lo hi H Q=>∃a xs,x=.ref a/\dX K H a xs/\(HT.sIx xs.length 0 lo=0/\HT.sIx xs.length xs.length hi=xs.length)/\Q (.ref a) H
theorem He:Fj X (L9 X.K):=by
 intro pins s σ H x v vl vu lo hi sl Q I rx hs pl pu h;obtain⟨a,xs,rfl,hx,hw,q⟩:=h;cases rx;obtain⟨its,r,ht,hz⟩:=I.tuple hx;have hlen:its.toArray.size=xs.length:=by rw[Ry];exact r.length.symm
 refine⟨"tuple",_,UC.lookup,ht.typeIs,?_⟩;exact HT.getItem_tuple_all ht hs pl pu (by rw[hlen];exact hw) ⟨.ref a,H,I,rfl,q⟩
def Np(K:QU):V->Option Int->Option Int->Hp->VK->Prop:=λx lo hi H Q=>L8 K x lo hi H Q\/(L9 K x lo hi H Q\/L7 K x lo hi H Q)
theorem Nr:Fj X (Np X.K):=Ks.or (He.or Hd)
abbrev FO:=En->Option (Option Int×En)
def fO(K:QU)(f:FO):TO:=λσ H Q=>∃F e o e',aR K F H σ e/\f e=some (o,e')/\∀F' H',dF σ F H e F' H' e'->aR K F' H' σ e'->Q o H'
theorem PO.mono{e:Option QT}{t t':TO}(h:PO X e t)(m:∀σ H Q,t' σ H Q->t σ H Q):PO X e t':=λpins s σ H Q I q=>h pins s σ H Q I (m σ H Q q)
def gw:FO:=λe=>some (none,e)
def fQ(f:FE):FO:=λe=>(f e).bind λp=>(bo p.1).map λi=>(some i,p.2)
theorem iX:PO X none (fO K gw):=GI.mono λσ H Q h=>by obtain⟨F,e,o,e',R,hf,q⟩:=h;cases hf;exact q F H (dF.refl _ _ _ _) R
theorem iY(h:PE X a (fE K fa)):PO X (some a) (fO K (fQ fa)):=(GJ h).mono λσ H Q h=>by obtain⟨F,e,o,e',R,hf,q⟩:=h;unfold fQ at hf;obtain⟨⟨x,e1⟩,h1,hf⟩:=QI hf;obtain⟨i,h2,hf⟩:=QJ hf;cases hf;exact⟨F,e,x,_,R,h1,λF1 H1 v X1 R1 A1=>⟨i,bO A1 h2,q F1 H1 X1 R1⟩⟩
def Le(e:En)(x:Rv)(lo hi:Option Int):Option Rv:=(gu e x).map λp=>if p.1=true then .l (cutD p.2 lo hi) else .d (.tuple (cutD p.2 lo hi))
def wd(fa:FE)(fl fh:FO):FE:=λe=>(fa e).bind λp=>(fl p.2).bind λl=>(fh l.2).bind λh=>(Le h.2 p.1 l.1 h.1).map λz=>(z,h.2)
theorem Co{F:Hp}{ds:List QR}{vs:List V}(h:aI K F ds vs)(lo hi:Option Int):aI K F (cutD ds lo hi) (sS vs lo hi):=by unfold cutD sS;rw[h.len];exact(h.drop _).take _
theorem Fu{α:Type}{xs:List α}{lo hi:Option Int}(h:HT.sIx xs.length 0 lo=0/\HT.sIx xs.length xs.length hi=xs.length):(xs.drop (HT.sIx xs.length 0 lo)).take (HT.sIx xs.length xs.length hi-HT.sIx xs.length 0 lo)=xs:=by rw[h.1,h.2];simp
theorem D2{fl fh:FO}(he:PE X a (fE X.K fa))(hl:PO X lo (fO X.K fl))(hh:PO X hi (fO X.K fh)):PE X (.Subscript a (.Slice lo hi none p2) pos) (fE X.K (wd fa fl fh)):=(Dr Nr he hl hh).mono λσ H Q h=>by obtain⟨F,e,z,e',R,hf,q⟩:=h;unfold wd at hf;obtain⟨⟨x,e1⟩,h1,hf⟩:=QI hf;obtain⟨⟨l,e2⟩,h2,hf⟩:=QI hf;obtain⟨⟨u,e3⟩,h3,hf⟩:=QI hf;obtain⟨z',h4,hf⟩:=QJ hf;cases hf;refine⟨F,e,x,e1,R,h1,λF1 H1 v X1 R1 A1=>⟨F1,e1,l,e2,R1,h2,λF2 H2 X2 R2=>⟨F2,e2,u,_,R2,h3,λF3 H3 X3 R3=>?_⟩⟩⟩;have X12:=X1.trans X2;have X13:=X12.trans X3;have A3:=(A1.ext X2).ext X3;unfold Le at h4;obtain⟨⟨b,xs⟩,h5,h4⟩:=QJ h4;obtain⟨p,vs,rfl,d1,s1⟩:=et R3 A3 h5;cases b with|true=>rw[if_pos rfl]at h4;cases h4;refine .inr (.inr ⟨p,vs,rfl,s1,λt ht=>?_⟩);obtain⟨R4,X4,hF,no⟩:=R3.newL (vs:=sS vs l u) ht;exact q _ _ _ (X13.trans X4) R4 ⟨t,_,rfl,X13.dom _ ht,hF,ao,Co d1 l u,no⟩|false=>
 rw[if_neg ↥1]at h4;cases h4;by_cases hw:HT.sIx vs.length 0 l=0/\HT.sIx vs.length vs.length u=vs.length
 ·refine .inr (.inl ⟨p,vs,rfl,s1,hw,?_⟩);have e5:cutD xs l u=xs:=by unfold cutD;exact Fu (by rw[d1.len];exact hw)
  rw[e5]at q;obtain⟨F4,R4,X4,hF⟩:=R3.growT (aw.refl _) s1;exact q _ _ _ (X13.trans X4) R4 (bH.mpr ⟨p,vs,rfl,hF,d1.mono X4.sf⟩)
 ·refine .inl ⟨p,vs,rfl,s1,hw,λt ht=>?_⟩;obtain⟨R4,X4⟩:=R3.newT (vs:=sS vs l u) ht;exact q _ _ _ (X13.trans X4) R4 (bH.mpr ⟨t,_,rfl,.inl (.inl ao),(Co d1 l u).mono X4.sf⟩)
end
section
variable{X:Cx}{K:QU}
theorem nI{σ:L2.St}{H0 F H:Hp}{e:En}{x:Rv}{vs:List V}(h:ce K σ H0 F H e [x] vs):∃v,vs=[v]/\bG K σ H0 F H e x v:=by obtain⟨v,ws,rfl,h1,h2⟩:=h;have h2':ws=[]:=h2;subst h2';exact⟨v,rfl,h1⟩
theorem vP{σ:L2.St}{H0 F H:Hp}{e:En}{x y:Rv}{vs:List V}(h:ce K σ H0 F H e [x,y] vs):∃v u,vs=[v,u]/\bG K σ H0 F H e x v/\bG K σ H0 F H e y u:=by obtain⟨v,ws,rfl,h1,h2⟩:=h;obtain⟨u,rfl,h3⟩:=nI h2;exact⟨v,u,rfl,h1,h3⟩
def g1(g:En->Rv->Option Rv):En->List Rv->Option Rv:=λe xs=>match xs with|[x]=>g e x|_=>none
def g2(g:En->Rv->Rv->Option Rv):En->List Rv->Option Rv:=λe xs=>match xs with|[x,y]=>g e x y|_=>none
theorem iO{r:List V->Hp->VK->Prop}{g:En->Rv->Option Rv}(h:KS K (λv H Q=>r [v] H Q) g):eD K r (g1 g):=by intro σ H0 F H e xs z vs Q R A hg q;unfold g1 at hg;match xs,hg with|[x],hg=>obtain⟨v,rfl,h1⟩:=nI A;exact h σ H0 F H e x z v Q R h1 hg q
theorem zr{r:List V->Hp->VK->Prop}{g:En->Rv->Rv->Option Rv}(h:fY K (λv u H Q=>r [v,u] H Q) g):eD K r (g2 g):=by intro σ H0 F H e xs z vs Q R A hg q;unfold g2 at hg;match xs,hg with|[x,y],hg=>obtain⟨v,u,rfl,h1,h2⟩:=vP A;exact h σ H0 F H e x y z v u Q R h1 h2 hg q
def ee:En->Rv->Option Rv:=λe x=>(gu e x).map λp=>.d (.int p.2.length)
theorem Lu:eD K (λxs H Q=>∃p ys,xs=[.ref p]/\(i6 K H p ys\/dX K H p ys)/\Q (.int ys.length) H) (g1 ee):=iO λσ H0 F H e x z v Q R A hg q=>by
 obtain⟨⟨b,xs⟩,h5,h4⟩:=QJ hg;obtain⟨p,vs,rfl,d1,s1⟩:=et R A h5;cases h4;refine⟨p,vs,rfl,?_,?_⟩;·cases b with|true=>exact .inl s1|false=>exact .inr s1
 ·rw[<-d1.len];exact q F H _ (dF.refl _ _ _ _) R oH
def AJ:En->Rv->Option Rv:=λ_ x=>(bo x).map λi=>.d (.int (if i<0 then-i else i))
theorem K3:eD K (λxs H Q=>∃i,xs=[.int i]/\Q (.int (if i<0 then-i else i)) H) (g1 AJ):=iO λσ H0 F H e x z v Q R A hg q=>by obtain⟨i,h5,h4⟩:=QJ hg;cases h4;exact⟨i,by rw[bO A h5],q F H _ (dF.refl _ _ _ _) R oH⟩
def wO:En->Rv->Option Rv:=λ_ x=>match x with|.d (.int i)=>some (.d (.int i))|.d (.bool k)=>some (.d (.int (if k then 1 else 0)))|_=>none
theorem Lk:eD K (λxs H Q=>(∃i,xs=[.int i]/\Q (.int i) H)\/∃k,xs=[.bl k]/\Q (.int (if k then 1 else 0)) H) (g1 wO):=iO λσ H0 F H e x z v Q R A hg q=>by
 unfold wO at hg;split at hg;·cases hg;exact .inl ⟨_,by rw[bc.mp (show DA K F (.int _) v from A)],q F H _ (dF.refl _ _ _ _) R oH⟩
 ·cases hg;exact .inr ⟨_,by rw[dH.mp (show DA K F (.bool _) v from A)],q F H _ (dF.refl _ _ _ _) R oH⟩
 ·cases hg
def CF:=gI (λ_ _=>true) λi j=>.int (if j<i then j else i)
def AL:=gI (λ_ _=>true) λi j=>.int (if j>i then j else i)
theorem Lz:eD K (λxs H Q=>∃i j,xs=[.int i,.int j]/\Q (.int (if j<i then j else i)) H) (g2 CF):=zr λσ H0 F H e x y z v u Q R A B hg q=>by obtain⟨i,j,h1,h2,h3⟩:=jZ (K:=K) (g:=λi j=>.int (if j<i then j else i)) (λ_ _ _=>bc.mpr rfl) σ H0 F H e x y z v u Q R A B hg q;exact⟨i,j,by rw[h1,h2],h3⟩
theorem Ly:eD K (λxs H Q=>∃i j,xs=[.int i,.int j]/\Q (.int (if j>i then j else i)) H) (g2 AL):=zr λσ H0 F H e x y z v u Q R A B hg q=>by obtain⟨i,j,h1,h2,h3⟩:=jZ (K:=K) (g:=λi j=>.int (if j>i then j else i)) (λ_ _ _=>bc.mpr rfl) σ H0 F H e x y z v u Q R A B hg q;exact⟨i,j,by rw[h1,h2],h3⟩
def bI:En->Rv->Option Rv:=λe x=>(gu e x).map λp=>.d (.tuple p.2)
theorem Ht:eD K (λxs H Q=>∃p ys,xs=[.ref p]/\((i6 K H p ys/\∀l,H l=none->Q (.ref l) (upd H l (.tup ys)))\/(dX K H p ys/\Q (.ref p) H))) (g1 bI):=iO λσ H0 F H e x z v Q R A hg q=>by obtain⟨⟨b,xs⟩,h5,h4⟩:=QJ hg;obtain⟨p,vs,rfl,d1,s1⟩:=et R A h5;cases h4;refine⟨p,vs,rfl,?_⟩;cases b with|true=>refine .inl ⟨s1,λt ht=>?_⟩;obtain⟨R4,X4⟩:=R.newT (vs:=vs) ht;exact q _ _ _ X4 R4 (bH.mpr ⟨t,_,rfl,.inl (.inl ao),d1.mono X4.sf⟩)|false=>obtain⟨F4,R4,X4,hF⟩:=R.growT (aw.refl _) s1;exact .inr ⟨s1,q _ _ _ X4 R4 (bH.mpr ⟨p,vs,rfl,hF,d1.mono X4.sf⟩)⟩
def HW:En->Rv->Option Rv:=λe x=>(gu e x).map λp=>.l p.2
theorem Jk:eD K (λxs H Q=>∃p ys,xs=[.ref p]/\(i6 K H p ys\/dX K H p ys)/\∀l,H l=none->Q (.ref l) (upd H l (.lst ys))) (g1 HW):=iO λσ H0 F H e x z v Q R A hg q=>by
 obtain⟨⟨b,xs⟩,h5,h4⟩:=QJ hg;obtain⟨p,vs,rfl,d1,s1⟩:=et R A h5;cases h4;refine⟨p,vs,rfl,?_,λt ht=>?_⟩;·cases b with|true=>exact .inl s1|false=>exact .inr s1
 ·obtain⟨R4,X4,hF,no⟩:=R.newL (vs:=vs) ht;exact q _ _ _ X4 R4 ⟨t,_,rfl,ht,hF,ao,d1,no⟩
def wU:List QR->Option (List Int)|[]=>some []|.int i::r=>(wU r).map (i::·)|_=>none
theorem wV:∀{ds:List QR}{ns:List Int},wU ds=some ns->ds=ns.map .int|[],_,h=>by cases h;rfl|.int i::r,_,h=>by obtain⟨ns,h1,rfl⟩:=QJ h;rw[wV h1];rfl
theorem t9:∀(ns:List Int),wU (ns.map .int)=some ns|[]=>rfl|i::r=>by simp[wU,t9 r]
def uV:List QR->Option (List Bool)|[]=>some []|.bool i::r=>(uV r).map (i::·)|_=>none
theorem tP:∀{ds:List QR}{ns:List Bool},uV ds=some ns->ds=ns.map .bool|[],_,h=>by cases h;rfl|.bool i::r,_,h=>by obtain⟨ns,h1,rfl⟩:=QJ h;rw[tP h1];rfl
def qY(g:List QR->Option QR):En->Rv->Option Rv:=λe x=>match gu e x with|some (true,xs)=>(g xs).map .d|_=>none
theorem Kq{r:List V->Hp->VK->Prop}{g:List QR->Option QR}(h:∀(F H:Hp) (p:QQ) (xs:List QR) (vs:List V) (d:QR) (Q:VK),aI K F xs vs->i6 K H p vs->g xs=some d->(∀v,(∀F,DA K F d v)->Q v H)->r [.ref p] H Q):eD K r (g1 (qY g)):=iO λσ H0 F H e x z v Q R A hg q=>by
 unfold qY at hg;split at hg;case h_2=>cases hg
 case h_1 xs h5=>obtain⟨p,vs,rfl,d1,s1⟩:=et R A h5;obtain⟨d,h6,hg⟩:=QJ hg;cases hg;exact h F H p xs vs d Q d1 s1 h6 λv hv=>q F H v (dF.refl _ _ _ _) R (hv F)
def wM:List QR->Option QR:=λxs=>(uV xs).map λns=>.bool (ns.all id)
theorem K5:eD K (λxs H Q=>∃(l:QQ) (bs:List Bool),xs=[.ref l]/\i6 K H l (bs.map V.bl)/\Q (.bl (bs.all id)) H) (g1 (qY wM)):=Kq λF H p xs vs d Q d1 s1 hg q=>by obtain⟨ns,h1,h2⟩:=QJ hg;cases h2;rw[tP h1]at d1;rw[aI.bools.mp d1]at s1;exact⟨p,ns,rfl,s1,q _ λ_=>dH.mpr rfl⟩
def eP:En->Rv->Option Rv:=λe x=>match gu e x with|some (false,xs)=>(wU xs).bind λns=>if ns.length<64 then some (.l ((i4 ns).map .int)) else none|_=>none
def Ed(K:QU):List V->Hp->VK->Prop:=λxs H Q=>∃(a:QQ) (ns:List Int),xs=[.ref a]/\dX K H a (ns.map V.int)/\ns.length<64/\∀(l:QQ) (H':Hp),aw H H'->H l=none->H' l=some (.lst ((i4 ns).map V.int))->Q (.ref l) H'
theorem yd:du X (.builtin "sorted") (Ed X.K):=by intro pins s σ H xs us Q I rv h;obtain⟨a,ns,e1,e2,e3,q⟩:=h;exact wu pins s σ H xs us Q I rv ⟨a,ns,e1,e2,e3,λl ns' H' sm hn hl hp hs=>q l H' sm hn (by rw[<-EH hp hs];exact hl)⟩
theorem Hf:eD K (Ed K) (g1 eP):=iO λσ H0 F H e x z v Q R A hg q=>by
 unfold eP at hg;split at hg;case h_2=>cases hg
 case h_1 xs h5=>
 obtain⟨p,vs,rfl,d1,s1⟩:=et R A h5;obtain⟨ns,h6,hg⟩:=QI hg;split at hg;case isFalse=>cases hg
 case isTrue hl=>cases hg;rw[wV h6]at d1;have s1':dX K H p vs:=s1;rw[aI.ints.mp d1]at s1';refine⟨p,ns,rfl,s1',hl,λl H' sm hn hl'=>?_⟩;obtain⟨R4,X4⟩:=R.same sm;exact q F H' _ X4 R4 ⟨l,_,rfl,hn,R.freeF hn,hl',aI.ints.mpr rfl,λz=>R.ownH l ((R.sameOwn sm l).mp z) hn⟩
mutual
def ed:QR->Bool|.tuple ds=>cH ds|.list _=>false|.dict _=>false|_=>true
def cH:List QR->Bool|[]=>true|d::r=>ed d&&cH r
end
mutual
def k_:QR->Bool|.list _=>false|.tuple ds=>ng ds|.dict kvs=>vH kvs|_=>true
def ng:List QR->Bool|[]=>true|d::r=>k_ d&&ng r
def vH:List (QR×QR)->Bool|[]=>true|p::r=>C9 p&&vH r
def C9:QR×QR->Bool|(_,d)=>k_ d
end
mutual
theorem jf.reads{X:Cx}{pins:List (QQ×Obj)}{σ:L2.St}{H:Hp}{s:QS}(I:av X pins σ H s):∀{d:QR}{v:V}{u:QP},jf X.K H d v->aS v u->Reads s.heap u d []|.none,_,_,q,r=>by simp only[jf]at q;subst q;cases r;exact .none|.bool b,_,_,q,r=>by simp only[jf]at q;subst q;cases r;exact .bool b|.int i,_,_,q,r=>by simp only[jf]at q;subst q;obtain⟨t,rfl⟩:=r;exact .int i t|.str x,_,_,q,_=>by simp only[jf]at q|.tuple ds,_,_,q,r=>by simp only[jf]at q;obtain⟨a,xs,rfl,h,q⟩:=q;obtain⟨its,rv,⟨o,ho,hc,n,hd⟩,hz⟩:=I.tuple h;rw[show _=Value.ref a from r];exact .tuple ho hc hd (gA.reads I q rv)|.list ds,_,_,q,_=>by simp only[jf]at q|.dict ds,_,_,q,_=>by simp only[jf]at q
theorem gA.reads{X:Cx}{pins:List (QQ×Obj)}{σ:L2.St}{H:Hp}{s:QS}(I:av X pins σ H s):∀{ds:List QR}{vs:List V}{us:List QP},gA X.K H ds vs->aN vs us->Ut s.heap us ds []|[],_,_,q,r=>by simp only[gA]at q;subst q;cases r;exact .nil|d::ds,_,_,q,r=>by simp only[gA]at q;obtain⟨x,xs,rfl,h1,h2⟩:=q;cases r with|cons r1 r2=>exact ReadsAll.cons (as:=[]) (bs:=[]) (jf.reads I h1 r1) (gA.reads I h2 r2)
end
theorem rV{X:Cx}{pins:List (QQ×Obj)}{σ:L2.St}{H:Hp}{s:QS}(I:av X pins σ H s):∀{m:List (Int×pB)}{es:List DictEntry}{vs:List (dh×QP)}{P:QZ}{w:QW},(∀p∈m,p.2.ok X.K H)->KV (m.map λp=>((Sum.inl p.1:dh),p.2.toV)) vs->Pairs (bQ P w) es vs->Ut s.heap (es.map (·.key)) (m.map λp=>PyData.int p.1) []/\Ut s.heap (es.map (·.val)) (m.map λp=>p.2.toD) []|[],es,vs,P,w,_,r,q=>by cases r;cases q;exact⟨.nil,.nil⟩|p::m,es,vs,P,w,ok,r,q=>by rw[Rn]at r;cases r with|@cons a b as bs h1 t=>cases q with|@cons e kv es' kvs' h2 h3 h4=>
 obtain⟨z1,z2⟩:=h1;obtain⟨c1,c2⟩:=rV I (λp hp=>ok p (Td _ hp)) t h4;have k1:rg (Sum.inl p.1) e.key=true:=by have:b.1=Sum.inl p.1:=z1.symm;rw[<-this];exact h2
 rcases bx k1 with⟨i,t',e1,e2⟩|⟨x,t',e1,e2⟩
 ·cases e1;refine⟨?_,?_⟩;·simp only[Rn,e2];exact ReadsAll.cons (as:=[]) (bs:=[]) (.int p.1 t') c1
  ·simp only[Rn,h3];refine ReadsAll.cons (as:=[]) (bs:=[]) ?_ c2;have ok0:=ok p (Tz ..);obtain⟨k,at_⟩:=p;cases at_ with
   |vp a x y=>rw[show b.2=Value.ref a from z2];obtain⟨its,rv,⟨o,ho,hc,n,hd⟩,hz⟩:=I.tuple (show dX X.K H a _ from ok0);match its,rv,hd with|_,.cons r1 (.cons r2 .nil),hd=>obtain⟨t1,rfl⟩:=r1;obtain⟨t2,rfl⟩:=r2;exact .tuple ho hc hd (ReadsAll.cons (as:=[]) (bs:=[]) (.int _ _) (ReadsAll.cons (as:=[]) (bs:=[]) (.int _ _) .nil))
   |vd x d=>exact jf.reads I ok0 z2|vi n=>obtain⟨tk,z2⟩:=z2;rw[z2];exact .int n tk|vb x=>rw[show b.2=Value.bool x from z2];exact .bool x|vn=>rw[show b.2=Value.none from z2];exact .none
 ·cases e1
mutual
theorem DA.readsR{X:Cx}{pins:List (QQ×Obj)}{σ:L2.St}{H:Hp}{s:QS}(I:av X pins σ H s):∀{d:QR}{v:V}{u:QP},DA X.K H d v->aS v u->∃as,Reads s.heap u d as/\(k_ d=true->So∉as)
 |.none,_,_,q,r=>by simp only[DA]at q;subst q;cases r;exact⟨_,.none,λ_=>by simp⟩|.bool b,_,_,q,r=>by simp only[DA]at q;subst q;cases r;exact⟨_,.bool b,λ_=>by simp⟩|.int i,_,_,q,r=>by simp only[DA]at q;subst q;obtain⟨t,rfl⟩:=r;exact⟨_,.int i t,λ_=>by simp⟩|.str x,_,_,q,r=>by simp only[DA]at q;subst q;obtain⟨t,rfl⟩:=r;exact⟨_,.str x t,λ_=>by simp⟩|.tuple ds,_,_,q,r=>by simp only[DA]at q;obtain⟨a,xs,e,hs,rr⟩:=q;subst e;cases r;obtain⟨its,rv,⟨o,ho,hc,n,hd⟩,hz⟩:=I.tuple hs;obtain⟨as,q,z⟩:=aI.readsR I rr rv;exact⟨_,.tuple ho hc hd q,λc=>z (by simpa[k_]using c)⟩|.list ds,_,_,q,r=>by simp only[DA]at q;obtain⟨a,xs,e,hs,rr⟩:=q;subst e;cases r;obtain⟨its,rv,ht,hz⟩:=I.list hs;obtain⟨o,ho,hc,n,hd⟩:=ht.isList;obtain⟨as,q,z⟩:=aI.readsR I rr rv;exact⟨_,.list ho hc hd q,λc=>by simp[k_]at c⟩|.dict kvs,_,_,q,r=>by
  simp only[DA]at q;rcases q with⟨a,m,e,hs,rfl,ok⟩|⟨a,m,e,hs,rr,_⟩
  ·subst e;cases r;obtain⟨_,hS,vs,kv,o,es,ep,ho,hx,hd,_,hp,_⟩:=(show bv X.prog X.w H s.heap a (.dK (m.map λp=>(Sum.inl p.1,p.2.toV))) from I.hok a _ hs);obtain⟨c1,c2⟩:=rV I ok kv hp;refine⟨_,Reads.dict (as:=[]) (bs:=[]) ho hx.1 hd ?_ ?_,λ_=>?_⟩;·rw[SH];exact c1
   ·rw[SH];exact c2
   ·have:a≠So:=by simpa using hS
    simpa using this.symm
  ·subst e;cases r;obtain⟨⟨z,hS,nd,xs,rel,o,es,ep,ho,hx,hd,he⟩,_⟩:=(show bv X.prog X.w H s.heap a (E5 a m) from I.hok a _ hs);obtain⟨bs,c1,c2,z2⟩:=dD.readsR I rr rel;refine⟨_,Reads.dict (as:=[]) (bs:=bs) ho hx.1 hd ?_ ?_,λc=>?_⟩;·rw[he,SH];exact c1
   ·rw[he,SH];exact c2
   ·have:a≠So:=by simpa using hS
    have:=z2 (by simpa[k_]using c);simp only[Sl,Tw,SN,RC,not_or];exact⟨λe=>(by assumption:a≠So) e.symm,this⟩
theorem aI.readsR{X:Cx}{pins:List (QQ×Obj)}{σ:L2.St}{H:Hp}{s:QS}(I:av X pins σ H s):∀{ds:List QR}{xs:List V}{us:List QP},aI X.K H ds xs->aN xs us->∃as,Ut s.heap us ds as/\(ng ds=true->So∉as)|[],_,_,q,r=>by simp only[aI]at q;subst q;cases r;exact⟨_,.nil,λ_=>by simp⟩|d::ds,_,_,q,r=>by simp only[aI]at q;obtain⟨x,rr,e,a,b⟩:=q;subst e;cases r with|cons p p'=>
 obtain⟨as,q1,z1⟩:=DA.readsR I a p;obtain⟨bs,q2,z2⟩:=aI.readsR I b p';refine⟨_,.cons q1 q2,λc=>?_⟩;simp only[ng,RE]at c;intro z;rcases QL z with z|z;·exact z1 c.1 z
 ·exact z2 c.2 z
theorem dD.readsR{X:Cx}{pins:List (QQ×Obj)}{σ:L2.St}{H:Hp}{s:QS}(I:av X pins σ H s):∀{ps:List (QR×QR)}{m:SD}{xs:List (SK×QQ×QP)},dD X.K H ps m->sL m xs->∃bs,Ut s.heap (xs.map λx=>Value.ref x.2.1) (ps.map (·.1)) []/\Ut s.heap (xs.map (·.2.2)) (ps.map (·.2)) bs/\(vH ps=true->So∉bs)|[],_,_,q,r=>by simp only[dD]at q;subst q;cases r;exact⟨[],.nil,.nil,λ_=>by simp⟩|(k,d)::ps,_,_,q,r=>by simp only[dD,we]at q;obtain⟨q0,m',e,⟨ek,hat,hd⟩,b⟩:=q;subst e;cases r with|@cons _ x _ xs h t=>
 obtain⟨as,q1,z1⟩:=DA.readsR I hd h.2.2;obtain⟨bs,c1,c2,z2⟩:=dD.readsR I b t;have kr:Reads s.heap (.ref x.2.1) k []:=by rw[ek,<-h.2.1];exact(I.sk hat).reads
 refine⟨as++bs,.cons (as:=[]) (bs:=[]) kr c1,.cons q1 c2,λc=>?_⟩;simp only[vH,C9,RE]at c;intro z;rcases QL z with z|z;·exact z1 c.1 z
 ·exact z2 c.2 z
end
def nU(d:QR):Bool:=(ed d||(!d.hasDict||k_ d))&&d.showable&&decide (d.depth<=60)&&decide (d.shown.length<=Rm)
def o5:En->Rv->Option Rv:=λ_ x=>match x with|.d d=>if nU d=true then some (.d (.str d.shown)) else none|_=>none
def Ec(K:QU):List V->Hp->VK->Prop:=λxs H Q=>∃x d,xs=[x]/\DA K H d x/\(d.hasDict=true->k_ d=true)/\d.showable=true/\d.depth<=60/\d.shown.length<=Rm/\Q (.str d.shown) H
mutual
theorem oY:∀(d:QR),ed d=true->d.hasDict=false|.none,_=>rfl|.bool _,_=>rfl|.int _,_=>rfl|.str _,_=>rfl|.tuple ds,h=>by simp only[PyData.hasDict];exact mV ds (by simpa[ed]using h)|.list ds,h=>by simp[ed]at h|.dict _,h=>by simp[ed]at h
theorem mV:∀(ds:List QR),cH ds=true->PyData.hasDictAll ds=false|[],_=>rfl|d::r,h=>by simp only[cH,RE]at h;simp only[PyData.hasDictAll,oY d h.1,mV r h.2,Bool.or_self]
end
theorem yc{X:Cx}{k:Nat}(hr:bE k X.A):du X (.builtin "repr") (Ec X.K):=by
 intro pins s σ H xs us Q I r h;obtain⟨x,d,rfl,ha,hdl,hsh,hdp,hsz,q⟩:=h;obtain⟨u,rfl,ru⟩:∃u,us=[u]/\aS x u:=by cases r with|cons p p'=>cases p';exact⟨_,rfl,p⟩
 have hun:=hr.un;obtain⟨as,rd,hm⟩:=DA.readsR I ha ru;have fin:∀a,u=.ref a->QX (QY X.prog X.w) X.A (call (.builtin "repr") [u]) (EP X pins σ Q) X.xe s:=λa e=>by subst e;exact repr_of_reads' rd hsh (λz=>hm (hdl z)) hr.gd ↥0 (λ_ _ e=>e) (λh' u tk hk=>⟨.str _,H,I.kept hk,⟨_,rfl⟩,q⟩) hsz
 cases d with|none=>simp only[DA]at ha;subst ha;cases ru;exact P.repr_of_none ⟨.str _,H,I.tok _,⟨_,rfl⟩,q⟩|bool b=>simp only[DA]at ha;subst ha;cases ru;exact P.repr_of_bool ⟨.str _,H,I.tok _,⟨_,rfl⟩,q⟩|int i=>simp only[DA]at ha;subst ha;obtain⟨t,rfl⟩:=ru;simp only[PyData.showable,decide_eq_true_eq]at hsh;exact P.repr_of_int hsh ⟨.str _,H,I.tok _,⟨_,rfl⟩,q⟩|str y=>simp only[DA]at ha;subst ha;obtain⟨t,rfl⟩:=ru;exact P.repr_of_str ⟨.str _,H,I.tok _,⟨_,rfl⟩,q⟩ hsz|list ds=>obtain⟨a,_,e,_⟩:=cU.mp ha;subst e;exact fin a ru|dict ds=>simp only[DA]at ha;rcases ha with⟨a,_,e,_⟩|⟨a,_,e,_⟩<;>(subst e;exact fin a ru)|tuple ds=>obtain⟨a,_,e,_⟩:=bH.mp ha;subst e;exact fin a ru
theorem Ki:eD K (Ec K) (g1 o5):=iO λσ H0 F H e x z v Q R A hg q=>by
 unfold o5 at hg;split at hg;case h_2=>cases hg
 case h_1 d=>
 split at hg;case isFalse=>cases hg
 case isTrue hl=>cases hg;unfold nU at hl;rw[RE,RE,RE,decide_eq_true_iff,decide_eq_true_iff]at hl;refine⟨v,d,rfl,DA.mono R.sm A,λz=>?_,hl.1.1.2,hl.1.2,hl.2,q F H _ (dF.refl _ _ _ _) R ((qC (K:=K) (F:=F)).mpr rfl)⟩;have c:=hl.1.1.1;cases hf:ed d with|true=>rw[oY d hf]at z;cases z|false=>rw[hf,z]at c;simpa using c
end
section
variable{K:QU}{σ:L2.St}{H0 F H F' H':Hp}{e e':En}
theorem aR.upd1(R:aR K F H σ e){σ':L2.St}(i:Nat)(hl:σ'.length=e'.length)(hσ:∀j,j≠i->σ'[j]?=σ[j]?)(he:∀j,j≠i->e'[j]?=e[j]?)(sF:aw F F')(sm:aw F' H')(hf:∀j a,j≠i->Fp σ e H j a->F' a=none)(hh:∀j a o,j≠i->Fp σ e H j a->H a=some o->H' a=some o)(hd:∀x,e'[i]?=some (some (.d x))->∃v,σ'[i]?=some (some v)/\DA K F' x v)(ho:∀xs,e'[i]?=some (some (.l xs))->∃l vs,σ'[i]?=some (some (.ref l))/\F' l=none/\H' l=some (.lst vs)/\aI K F' xs vs)(hn:∀xss,e'[i]?=some (some (.n xss))->∃(l:QQ) (bs:List QQ),σ'[i]?=some (some (.ref l))/\F' l=none/\H' l=some (.lst (bs.map V.ref))/\bs.length=xss.length/\bs.Nodup/\l∉bs/\∀(k:Nat) (b:QQ) (ys:List QR),bs[k]?=some b->xss[k]?=some ys->F' b=none/\∃us,H' b=some (.lst us)/\aI K F' ys us)(hi:∀a j,j≠i->Fp σ' e' H' i a->¬Fp σ e H j a):aR K F' H' σ' e'/\∀j a,j≠i->(Fp σ' e' H' j a↔Fp σ e H j a):=by
 have fs:∀j a,j≠i->(Fp σ' e' H' j a↔Fp σ e H j a):=by
  intro j a hj;have key:∀xss l,e[j]?=some (some (.n xss))->σ[j]?=some (some (.ref l))->H' l=H l:=λxss l h1 h2=>by obtain⟨l',bs,g1,g2,g3,_⟩:=R.nst j xss h1;rw[h2]at g1;cases g1;rw[g3];exact hh j l _ hj (.inr ⟨xss,l,bs,h1,h2,g3,.inl rfl⟩) g3
  unfold Fp;rw[he j hj,hσ j hj];constructor
  ·rintro(h1|⟨xss,l,bs,h1,h2,h3,h4⟩);·exact .inl h1
   ·exact .inr ⟨xss,l,bs,h1,h2,by rw[<-key xss l h1 h2];exact h3,h4⟩
  ·rintro(h1|⟨xss,l,bs,h1,h2,h3,h4⟩);·exact .inl h1
   ·exact .inr ⟨xss,l,bs,h1,h2,by rw[key xss l h1 h2];exact h3,h4⟩
 refine⟨⟨sm,hl,λj x q=>?_,λj xs q=>?_,λj xss q=>?_,λj k a q1 q2=>?_⟩,fs⟩
 ·by_cases z:j=i;·subst z;exact hd x q
  ·rw[he j z]at q;obtain⟨v,h1,h2⟩:=R.dat j x q;exact⟨v,by rw[hσ j z];exact h1,DA.mono sF h2⟩
 ·by_cases z:j=i;·subst z;exact ho xs q
  ·rw[he j z]at q;obtain⟨l,vs,h1,h2,h3,h4⟩:=R.own j xs q;have o:Fp σ e H j l:=.inl ⟨xs,q,h1⟩;exact⟨l,vs,by rw[hσ j z];exact h1,hf j l z o,hh j l _ z o h3,h4.mono sF⟩
 ·by_cases z:j=i;·subst z;exact hn xss q
  ·rw[he j z]at q;obtain⟨l,bs,h1,h2,h3,h4,h5,h6,h7⟩:=R.nst j xss q;have o:Fp σ e H j l:=.inr ⟨xss,l,bs,q,h1,h3,.inl rfl⟩;refine⟨l,bs,by rw[hσ j z];exact h1,hf j l z o,hh j l _ z o h3,h4,h5,h6,λk b ys g1 g2=>?_⟩;obtain⟨c1,us,c2,c3⟩:=h7 k b ys g1 g2;have ob:Fp σ e H j b:=.inr ⟨xss,l,bs,q,h1,h3,.inr (QO g1)⟩;exact⟨hf j b z ob,us,hh j b _ z ob c2,c3.mono sF⟩
 ·by_cases zj:j=i
  ·subst zj;by_cases zk:k=j;·exact zk.symm
   ·exact absurd ((fs k a zk).mp q2) (hi a k zk q1)
  ·by_cases zk:k=i;·subst zk;exact absurd ((fs j a zj).mp q1) (hi a j zj q2)
   ·exact R.fp j k a ((fs j a zj).mp q1) ((fs k a zk).mp q2)
theorem aR.putL(R:aR K F H σ e){i:Nat}{xs ys:List QR}{l:QQ}{vs:List V}(hi:e[i]?=some (some (.l xs)))(hl:σ[i]?=some (some (.ref l)))(hd:aI K F ys vs):aR K F (upd H l (.lst vs)) σ (e.set i (some (.l ys)))/\dF σ F H e F (upd H l (.lst vs)) (e.set i (some (.l ys))):=by
 obtain⟨l',vs',h1,h2,h3,h4⟩:=R.own i xs hi;rw[hl]at h1;cases h1;have hlt:i<e.length:=(QK hi).1;have fi:Fp σ e H i l:=.inl ⟨xs,hi,hl⟩;have gi:(e.set i (some (Sv.l ys)))[i]?=some (some (.l ys)):=RU hlt;obtain⟨R',fs⟩:=R.upd1 (F':=F) (H':=upd H l (.lst vs)) (e':=e.set i (some (.l ys))) i (by rw[Sy];exact R.len) (λ_ _=>rfl) (λj hj=>Ru (Rz hj)) (aw.refl F) (λb o q=>by
  have z:b≠l:=λz=>by rw[z,h2]at q;cases q
  rw[aq z];exact R.sm b o q) (λj a _ q=>(R.fpAt q).1) (λj a o hj q ha=>by have z:a≠l:=λz=>hj (R.fp j i a q (by rw[z];exact fi));rw[aq z];exact ha) (λx q=>by rw[gi]at q;cases q) (λzs q=>by rw[gi]at q;cases q;exact⟨l,vs,hl,h2,ao,hd⟩) (λxss q=>by rw[gi]at q;cases q) (λa j hj q q2=>by
  rcases q with⟨zs,_,q⟩|⟨xss,_,_,q,_⟩;·rw[hl]at q;cases q;exact hj (R.fp j i _ q2 fi)
  ·rw[gi]at q;cases q);refine⟨R',⟨aw.refl _,λa q=>?_,λ_ _ q _ _=>q,λa ws q=>?_,λa o q n=>?_,λj=>?_,λa⟨j,q⟩=>?_,λ_ _ q _ _=>q⟩⟩
 ·by_cases z:a=l;·rw[z,ao]at q;cases q
  ·rw[aq z]at q;exact q
 ·by_cases z:a=l;·rw[z];exact⟨vs,ao⟩
  ·rw[aq z];exact⟨ws,q⟩
 ·have z:a≠l:=λz=>n ⟨i,by rw[z];exact fi⟩;rw[aq z];exact q
 ·by_cases z:j=i;·subst z;rw[gi];exact⟨λ_=>⟨xs,hi⟩,λ_=>⟨ys,rfl⟩⟩
  ·rw[Ru (Rz z)]
 ·by_cases z:j=i
  ·subst z;rcases q with⟨zs,_,q⟩|⟨xss,_,_,q,_⟩;·rw[hl]at q;cases q;exact .inl ⟨j,fi⟩
   ·rw[gi]at q;cases q
  ·exact .inl ⟨j,(fs j a z).mp q⟩
theorem aR.setD(R:aR K F H σ e)(i:Nat){x:QR}{v:V}(h:DA K F x v):aR K F H (σ.set i (some v)) (e.set i (some (.d x)))/\∀a,bq (σ.set i (some v)) (e.set i (some (.d x))) H a->bq σ e H a:=by
 have gi:∀s,(e.set i (some (Sv.d x)))[i]?=some (some s)->s=.d x/\i<e.length:=λs q=>by
  have hlt:i<e.length:=by have:=(QK q).1;simpa using this
  rw[RU hlt]at q;exact⟨(RG (RG q)).symm,hlt⟩
 have nofp:∀a,¬Fp (σ.set i (some v)) (e.set i (some (.d x))) H i a:=λa q=>by
  rcases q with⟨zs,q,_⟩|⟨xss,_,_,q,_⟩;·cases (gi _ q).1
  ·cases (gi _ q).1
 obtain⟨R',fs⟩:=R.upd1 (F':=F) (H':=H) (σ':=σ.set i (some v)) (e':=e.set i (some (.d x))) i (by rw[Sy,Sy];exact R.len) (λj hj=>Ru (Rz hj)) (λj hj=>Ru (Rz hj)) (aw.refl F) R.sm (λj a _ q=>(R.fpAt q).1) (λj a o _ _ ha=>ha) (λy q=>by obtain⟨z,hlt⟩:=gi _ q;cases z;exact⟨v,RU (by rw[R.len];exact hlt),h⟩) (λzs q=>by cases (gi _ q).1) (λxss q=>by cases (gi _ q).1) (λa j hj q=>absurd q (nofp a));refine⟨R',λa⟨j,q⟩=>?_⟩;by_cases z:j=i;·subst z;exact absurd q (nofp a)
 ·exact⟨j,(fs j a z).mp q⟩
theorem aR.setL(R:aR K F H σ e)(i:Nat){xs:List QR}{l:QQ}{vs:List V}(h1:F l=none)(h2:H l=some (.lst vs))(h3:aI K F xs vs)(h4:¬bq σ e H l):aR K F H (σ.set i (some (.ref l))) (e.set i (some (.l xs)))/\∀a,bq (σ.set i (some (.ref l))) (e.set i (some (.l xs))) H a->bq σ e H a\/a=l:=by
 have gi:∀s,(e.set i (some (Sv.l xs)))[i]?=some (some s)->s=.l xs/\i<e.length:=λs q=>by
  have hlt:i<e.length:=by have:=(QK q).1;simpa using this
  rw[RU hlt]at q;exact⟨(RG (RG q)).symm,hlt⟩
 have onefp:∀a,Fp (σ.set i (some (.ref l))) (e.set i (some (.l xs))) H i a->a=l:=λa q=>by
  rcases q with⟨zs,q,q2⟩|⟨xss,_,_,q,_⟩;·obtain⟨_,hlt⟩:=gi _ q;rw[RU (by rw[R.len];exact hlt)]at q2;cases q2;rfl
  ·cases (gi _ q).1
 obtain⟨R',fs⟩:=R.upd1 (F':=F) (H':=H) (σ':=σ.set i (some (.ref l))) (e':=e.set i (some (.l xs))) i (by rw[Sy,Sy];exact R.len) (λj hj=>Ru (Rz hj)) (λj hj=>Ru (Rz hj)) (aw.refl F) R.sm (λj a _ q=>(R.fpAt q).1) (λj a o _ _ ha=>ha) (λy q=>by cases (gi _ q).1) (λzs q=>by obtain⟨z,hlt⟩:=gi _ q;cases z;exact⟨l,vs,RU (by rw[R.len];exact hlt),h1,h2,h3⟩) (λxss q=>by cases (gi _ q).1) (λa j hj q q2=>h4 ⟨j,by rw[onefp a q]at q2;exact q2⟩);refine⟨R',λa⟨j,q⟩=>?_⟩;by_cases z:j=i;·subst z;exact .inr (onefp a q)
 ·exact .inl ⟨j,(fs j a z).mp q⟩
end
section
variable{X:Cx}{K:QU}{o a:QT}{es:List QT}{fo:FE}{fs:FA}{name:Str}{apos cpos:Pos}{id:String}
def tw(K:QU)(r:V->List V->Hp->VK->Prop)(g:List QR->List QR->Option (QR×List QR)):Prop:=∀(F H:Hp) (l:QQ) (xs ys ds:List QR) (z:QR) (vs us:List V) (Q:VK),F l=none->aw F H->H l=some (.lst vs)->aI K F xs vs->aI K F ds us->g xs ds=some (z,ys)->(∀w ws,DA K F z w->aI K F ys ws->Q w (upd H l (.lst ws)))->r (.ref l) us H Q
def bz(g:List QR->List QR->Option (QR×List QR))(fo:FE)(fs:FA):FE:=λe=>(fo e).bind λp=>match p.1 with
 |.s i=>(fs p.2).bind λq=>(gU q.1).bind λds=>match q.2[i]? with|some (some (.l xs))=>(g xs ds).map λz=>(.d z.1,q.2.set i (some (.l z.2)))|_=>none
 |_=>none
theorem xR{r:V->List V->Hp->VK->Prop}{g:List QR->List QR->Option (QR×List QR)}(hm:tw K r g){σ:L2.St}{H:Hp}{Q:VK}(h:fE K (bz g fo fs) σ H Q):NP K "list" r (fE K fo) (fA K fs) σ H Q:=by obtain⟨F,e,z,e',R,hf,q⟩:=h;unfold bz at hf;obtain⟨⟨x,e1⟩,h1,hf⟩:=QI hf;match x,h1,hf with|.s i,h1,hf=>dsimp only at hf;obtain⟨⟨rs,e2⟩,h2,hf⟩:=QI hf;obtain⟨ds,h3,hf⟩:=QI hf;refine⟨F,e,_,e1,R,h1,λF1 H1 v X1 R1 A1=>?_⟩;obtain⟨g1,zs,g2⟩:=A1;obtain⟨l,vs,c1,c2,c3,c4⟩:=R1.own i zs g2;rw[g1]at c1;cases c1;refine⟨.inl ⟨rfl,vs,.inl (.inl c3)⟩,F1,e1,rs,e2,R1,h2,λF2 H2 us X2 R2 A2=>?_⟩;match h4:e2[i]?,hf with|some (some (.l xs)),hf=>dsimp only at hf;obtain⟨⟨zd,ys⟩,h5,hf⟩:=QJ hf;cases hf;obtain⟨F3,R3,s3,d3,f3⟩:=ce.frozen R2 A2 h3;obtain⟨l',vs',k1,k2,k3,k4⟩:=R3.own i xs h4;rw[g1]at k1;cases k1;refine hm F3 H2 l xs ys ds zd vs' us Q k2 R3.sm k3 k4 d3 h5 λw ws hw hws=>?_;obtain⟨R4,X4⟩:=R3.putL h4 g1 hws;exact q _ _ _ ((X1.trans (X2.frz s3 f3)).trans X4) R4 hw
theorem Ij{r:V->List V->Hp->VK->Prop}{g:List QR->List QR->Option (QR×List QR)}(slot:Slot "list" name id)(hty:typeOf (.builtin id)=pure (.type "method_descriptor"))(hm:ME X id r)(hf:tw X.K r g)(ho:PE X o (fE X.K fo))(ha:PA X (a::es) (fA X.K fs))(hbase:TJ o name X.env (Rj o X.env)=Rj o X.env)(hfew:((RF cpos (Rg (a::es) X.env)).all (λx=>!x.1)&&(backToKw cpos (UE [] X.env)).all (λx=>x.1.isSome)&&decide ((a::es).length+([]:List Sw).length+(if ([]:List Sw).isEmpty then 0 else 1)<30))=true)(hline:(apos.endLine==cpos.line)=true)(hs:Rg (a::es) X.env=(false,Rj a X.env)::Rg es X.env)(hplain:(RF cpos (Rg es X.env)).any (·.1)=false):PE X (.Call (.Attribute o name apos) (a::es) [] cpos) (fE X.K (bz g fo fs)):=(Dk Wi slot hty hm ho ha hbase hfew hline hs hplain).mono λ_ _ _ h=>xR hf h
theorem J3{r:V->List V->Hp->VK->Prop}{g:List QR->List QR->Option (QR×List QR)}(slot:Slot "list" name id)(hty:typeOf (.builtin id)=pure (.type "method_descriptor"))(hm:ME X id r)(hf:tw X.K r g)(ho:PE X o (fE X.K fo))(hbase:TJ o name X.env (Rj o X.env)=Rj o X.env)(hline:(apos.endLine==cpos.line)=true):PE X (.Call (.Attribute o name apos) [] [] cpos) (fE X.K (bz g fo ai)):=(JM Wi slot hty hm ho hbase hline).mono λσ H Q h=>by obtain⟨F,e,r',e',R,hf',q⟩:=xR hf h;refine⟨F,e,r',e',R,hf',λF1 H1 v X1 R1 A1=>?_⟩;obtain⟨ty,G,e2,rs,e3,R2,h2,q2⟩:=q F1 H1 v X1 R1 A1;cases h2;exact⟨ty,q2 G H1 [] (dF.refl _ _ _ _) R2 rfl⟩
def bi:List QR->List QR->Option (QR×List QR):=λxs ds=>match ds with|[d]=>if xs.length<1000000 then some (.none,xs++[d]) else none|_=>none
theorem B0:tw K zT bi:=by intro F H l xs ys ds z vs us Q hF sm hl d1 d2 hg q;unfold bi at hg;match ds,hg,d2 with
 |[d],hg,d2=>
  simp only[aI]at d2;obtain⟨w,r,rfl,hw,rfl⟩:=d2;dsimp only at hg;split at hg;case isFalse=>cases hg
  case isTrue hlt=>cases hg;have:=d1.len;have sl:Rm=16777216:=Se;exact⟨l,vs,w,rfl,rfl,hl,by lia,q _ _ (mU.mpr rfl) (d1.append (aI.one hw))⟩
def m9:List QR->List QR->Option (QR×List QR):=λxs ds=>match ds with|[]=>(xs[xs.length-1]?).map λd=>(d,xs.dropLast)|_=>none
theorem aI.dropLast{F:Hp}{ds:List QR}{vs:List V}(h:aI K F ds vs):aI K F ds.dropLast vs.dropLast:=by rw[List.dropLast_eq_take,List.dropLast_eq_take,h.len];exact h.take _
theorem LN:tw K L5 m9:=by intro F H l xs ys ds z vs us Q hF sm hl d1 d2 hg q;unfold m9 at hg;match ds,hg,d2 with|[],hg,d2=>simp only[aI]at d2;subst d2;obtain⟨d,h1,h2⟩:=QJ hg;cases h2;obtain⟨v,g1,g2⟩:=d1.get h1;rw[d1.len]at g1;exact⟨l,vs,v,rfl,rfl,hl,g1,q _ _ g2 d1.dropLast⟩
def eS:List QR->List QR->Option (QR×List QR):=λxs ds=>match ds with|[.int i]=>if 0<=i/\i<1000000000 then(xs[i.toNat]?).map λd=>(d,xs.eraseIdx i.toNat) else none|_=>none
theorem GK:tw K Ea eS:=by intro F H l xs ys ds z vs us Q hF sm hl d1 d2 hg q;unfold eS at hg;match ds,hg,d2 with
 |[.int i],hg,d2=>
  simp only[aI,DA]at d2;obtain⟨w,r,rfl,rfl,rfl⟩:=d2;dsimp only at hg;split at hg;case isFalse=>cases hg
  case isTrue hlt=>obtain⟨d,h1,h2⟩:=QJ hg;cases h2;obtain⟨v,g1,g2⟩:=d1.get h1;have hlt2:i.toNat<vs.length:=(QK g1).1;exact⟨l,vs,i,i.toNat,v,rfl,rfl,hl,by lia,by lia,seqIndex_of hlt.1 ↥0,g1,q _ _ g2 (d1.erase _)⟩
end
inductive Fl where|nx (e:En)|bk (e:En)|ct (e:En)|rt (r:Rv) (e:En)
abbrev FS:=En->Option Fl
structure cP (W:List Nat) (σ:L2.St) (F H:Hp) (e:En) (σ':L2.St) (F' H':Hp) (e':En):Prop where
 sf:aw F F'
 dom:∀a,H' a=none->H a=none
 fr:∀a vs,F a=none->H a=some (.lst vs)->¬bq σ e H a->F' a=none
 lst:∀a vs,H a=some (.lst vs)->∃vs',H' a=some (.lst vs')tmp:∀a o,H a=some o->¬bq σ e H a->H' a=some o
 own:∀a,bq σ' e' H' a->bq σ e H a\/H a=none
 wr:∀j,j∉W->σ'[j]?=σ[j]?
 fd:∀a (m:DI),F a=none->H a=some m.1->¬bq σ e H a->F' a=none
section
variable{K:QU}{W W1 W2:List Nat}{σ σ1 σ2 σ':L2.St}{H0 F H F1 H1 F2 H2 F' H':Hp}{e e1 e2 e':En}
theorem cP.refl:cP W σ F H e σ F H e:=⟨aw.refl _,λ_ h=>h,λ_ _ h _ _=>h,λ_ vs h=>⟨vs,h⟩,λ_ _ h _=>h,λ_ h=>.inl h,λ_ _=>rfl,λ_ _ h _ _=>h⟩
theorem dF.s(x:dF σ F H e F' H' e'):cP W σ F H e σ F' H' e':=⟨x.sf,x.dom,x.fr,x.lst,x.tmp,x.ow,λ_ _=>rfl,x.fd⟩
theorem cP.trans(x:cP W σ F H e σ1 F1 H1 e1)(y:cP W σ1 F1 H1 e1 σ2 F2 H2 e2):cP W σ F H e σ2 F2 H2 e2:=⟨x.sf.trans y.sf,λa h=>x.dom a (y.dom a h),λa vs h n no=>let⟨vs',q⟩:=x.lst a vs n;y.fr a vs' (x.fr a vs h n no) q (λz=>(x.own a z).elim no λz=>by rw[n]at z;cases z),λa vs h=>let⟨vs',q⟩:=x.lst a vs h;y.lst a vs' q,λa o h n=>y.tmp a o (x.tmp a o h n) (λz=>(x.own a z).elim n λz=>by rw[h]at z;cases z),λa h=>(y.own a h).elim (x.own a) (λz=>.inr (x.dom a z)),λj h=>(y.wr j h).trans (x.wr j h),λa m h n no=>y.fd a m (x.fd a m h n no) (x.tmp a _ n no) (λz=>(x.own a z).elim no λz=>by rw[n]at z;cases z)⟩
theorem cP.mono(x:cP W1 σ F H e σ' F' H' e')(h:∀j,j∈W1->j∈W):cP W σ F H e σ' F' H' e':=⟨x.sf,x.dom,x.fr,x.lst,x.tmp,x.own,λj n=>x.wr j λz=>n (h j z),x.fd⟩
end
def qP(K:QU)(W:List Nat)(σ:L2.St)(F H:Hp)(e:En)(D:pD):Fl->Prop|.nx e'=>∀F' H' σ',cP W σ F H e σ' F' H' e'->aR K F' H' σ' e'->D.nx σ' H'|.bk e'=>∀F' H' σ',cP W σ F H e σ' F' H' e'->aR K F' H' σ' e'->D.bk σ' H'|.ct e'=>∀F' H' σ',cP W σ F H e σ' F' H' e'->aR K F' H' σ' e'->D.ct σ' H'|.rt r e'=>∀F' H' σ' v,cP W σ F H e σ' F' H' e'->aR K F' H' σ' e'->bG K σ' H F' H' e' r v->D.rt v H'
def fS(K:QU)(f:FS)(W:List Nat):TS:=λD σ H=>∃F e fl,aR K F H σ e/\f e=some fl/\qP K W σ F H e D fl
theorem PS.mono{X:Cx}{st:Rh}{t t':TS}(h:PS X st t)(m:∀D σ H,t' D σ H->t D σ H):PS X st t':=λpins s σ H D I q=>h pins s σ H D I (m D σ H q)
theorem kc.mono{X:Cx}{st:List Rh}{t t':TS}(h:kc X st t)(m:∀D σ H,t' D σ H->t D σ H):kc X st t':=λpins s σ H D I q=>h pins s σ H D I (m D σ H q)
theorem qP.later{K:QU}{W W1 W2:List Nat}{σ σ1:L2.St}{F H F1 H1:Hp}{e e1:En}{D:pD}{fl:Fl}(h:qP K W σ F H e D fl)(x:cP W1 σ F H e σ1 F1 H1 e1)(h1:∀j,j∈W1->j∈W)(h2:∀j,j∈W2->j∈W):qP K W2 σ1 F1 H1 e1 D fl:=by cases fl with|nx e'=>exactλF' H' σ' y R=>h F' H' σ' ((x.mono h1).trans (y.mono h2)) R|bk e'=>exactλF' H' σ' y R=>h F' H' σ' ((x.mono h1).trans (y.mono h2)) R|ct e'=>exactλF' H' σ' y R=>h F' H' σ' ((x.mono h1).trans (y.mono h2)) R|rt r e'=>exactλF' H' σ' v y R A=>h F' H' σ' v ((x.mono h1).trans (y.mono h2)) R (A.weak x.dom)
section
variable{X:Cx}{K:QU}{W W1 W2:List Nat}{st:Rh}{dg:List Rh}{f g:FS}{a b:QT}{fa:FE}{ft:FT}{pos:Pos}
def bX:FS:=λe=>some (.nx e)
def ay(f g:FS):FS:=λe=>(f e).bind λfl=>match fl with|.nx e1=>g e1|fl=>some fl
theorem aX:kc X [] (fS K bX []):=pX.mono λD σ H h=>by obtain⟨F,e,fl,R,hf,q⟩:=h;cases hf;exact q F H σ cP.refl R
theorem ag(h1:PS X st (fS K f W1))(h2:kc X dg (fS K g W2)):kc X (st::dg) (fS K (ay f g) (W1++W2)):=(jv h1 h2).mono λD σ H h=>by obtain⟨F,e,fl,R,hf,q⟩:=h;unfold ay at hf;obtain⟨fl1,h1,hf⟩:=QI hf;have s1:∀j,j∈W1->j∈W1++W2:=λj h=>Si.mpr (.inl h);have s2:∀j,j∈W2->j∈W1++W2:=λj h=>Si.mpr (.inr h);refine⟨F,e,fl1,R,h1,?_⟩;cases fl1 with|nx e1=>exactλF' H' σ' x R'=>⟨F',e1,fl,R',hf,q.later x s1 s2⟩|bk e1=>cases hf;exactλF' H' σ' x R'=>q F' H' σ' (x.mono s1) R'|ct e1=>cases hf;exactλF' H' σ' x R'=>q F' H' σ' (x.mono s1) R'|rt r e1=>cases hf;exactλF' H' σ' v x R' A=>q F' H' σ' v (x.mono s1) R' A
theorem aj(h1:PS X st (fS K f W)):kc X [st] (fS K f W):=j2 h1
def cM(fa:FE):FS:=λe=>(fa e).map λp=>.nx p.2
theorem cw(he:PE X a (fE K fa))(hs:SV a none pos.line X.env=pure false):PS X (.Expr a pos) (fS K (cM fa) []):=(GN he hs).mono λD σ H h=>by obtain⟨F,e,fl,R,hf,q⟩:=h;obtain⟨⟨x,e1⟩,h1,hf⟩:=QJ hf;cases hf;exact⟨F,e,x,e1,R,h1,λF1 H1 v X1 R1 A1=>q F1 H1 σ X1.s R1⟩
def bh(fa:FE):FS:=λe=>(fa e).map λp=>.rt p.1 p.2
theorem aL(he:PE X a (fE K fa)):PS X (.Return (some a) pos) (fS K (bh fa) []):=(rO he).mono λD σ H h=>by obtain⟨F,e,fl,R,hf,q⟩:=h;obtain⟨⟨x,e1⟩,h1,hf⟩:=QJ hf;cases hf;exact⟨F,e,x,e1,R,h1,λF1 H1 v X1 R1 A1=>q F1 H1 σ v X1.s R1 A1⟩
def ir(ft:FT)(f g:FS):FS:=λe=>(ft e).bind λp=>if p.1=true then f p.2 else g p.2
theorem bU{c:QT}{bs cs:List Rh}(hc:PT X c (fT K ft))(ha:kc X bs (fS K f W1))(hb:kc X cs (fS K g W2)):PS X (.If c bs cs pos) (fS K (ir ft f g) (W1++W2)):=(zP hc ha hb).mono λD σ H h=>by obtain⟨F,e,fl,R,hf,q⟩:=h;unfold ir at hf;obtain⟨⟨x,e1⟩,h1,hf⟩:=QI hf;refine⟨F,e,x,e1,R,h1,λF1 H1 X1 R1=>?_⟩;cases x with|true=>exact⟨F1,e1,fl,R1,hf,q.later (W1:=[]) X1.s (λj h=>by cases h) λj h=>Si.mpr (.inl h)⟩|false=>exact⟨F1,e1,fl,R1,hf,q.later (W1:=[]) X1.s (λj h=>by cases h) λj h=>Si.mpr (.inr h)⟩
def vN(i:Nat)(r:Rv)(e:En):Option En:=match r with|.d x=>some (e.set i (some (.d x)))|.l xs=>some (e.set i (some (.l xs)))|.s _=>none
theorem DP{σ:L2.St}{H F H1 F1:Hp}{e e1 e2:En}{i:Nat}{r:Rv}{v:V}(R:aR K F H σ e)(X1:dF σ F H e F1 H1 e1)(R1:aR K F1 H1 σ e1)(A1:bG K σ H F1 H1 e1 r v)(h:vN i r e1=some e2):cP [i] σ F H e (σ.set i (some v)) F1 H1 e2/\aR K F1 H1 (σ.set i (some v)) e2:=by
 have wr:∀j,j∉[i]->(σ.set i (some v))[j]?=σ[j]?:=λj n=>Ru (λz=>n (by simp[z]))
 cases r with|d x=>cases h;obtain⟨R2,o2⟩:=R1.setD i A1;exact⟨⟨X1.sf,X1.dom,X1.fr,X1.lst,X1.tmp,λa h=>X1.ow a (o2 a h),wr,X1.fd⟩,R2⟩|l xs=>
  cases h;obtain⟨l,vs,rfl,h1,h2,h3,h4,h5⟩:=A1;obtain⟨R2,o2⟩:=R1.setL i h2 h3 h4 h5;refine⟨⟨X1.sf,X1.dom,X1.fr,X1.lst,X1.tmp,λa h=>?_,wr,X1.fd⟩,R2⟩;rcases o2 a h with z|z;·exact X1.ow a z
  ·exact .inr (by rw[z];exact h1)|s j=>cases h
def aW(i:Nat)(fa:FE):FS:=λe=>(fa e).bind λp=>(vN i p.1 p.2).map .nx
theorem aA{i:Nat}{x:Str}{pos':Pos}(hN:X.N.Nodup)(hi:X.N[i]?=some x)(hx:HI X.env.scope x)(he:PE X a (fE K fa))(hs:SV a (some (.Name x pos')) pos.line X.env=pure false)(hf:X.fn x=true\/X.env.scope.names.lookup x=some .local):PS X (.Assign [.Name x pos'] a pos) (fS K (aW i fa) [i]):=(rP hN hi hx he hs hf).mono λD σ H h=>by obtain⟨F,e,fl,R,hf,q⟩:=h;unfold aW at hf;obtain⟨⟨r,e1⟩,h1,hf⟩:=QI hf;obtain⟨e2,h2,hf⟩:=QJ hf;cases hf;refine⟨F,e,r,e1,R,h1,λF1 H1 v X1 R1 A1=>?_⟩;obtain⟨x,R2⟩:=DP R X1 R1 A1 h2;exact q F1 H1 _ x R2
abbrev FG:=QR->En->Option En
def fG(K:QU)(g:FG)(W:List Nat):TG:=λv σ H Q=>∃F e x e',aR K F H σ e/\DA K F x v/\g x e=some e'/\∀σ',cP W σ F H e σ' F H e'->aR K F H σ' e'->Q σ' H
abbrev HG:=List QR->En->Option En
def MJ(K:QU)(g:HG)(W:List Nat):E6:=λvs σ H Q=>∃F e xs e',aR K F H σ e/\aI K F xs vs/\g xs e=some e'/\∀σ',cP W σ F H e σ' F H e'->aR K F H σ' e'->Q σ' H
theorem PG.mono{tg:QT}{t t':TG}(h:PG X tg t)(m:∀v σ H Q,t' v σ H Q->t v σ H Q):PG X tg t':=λpins s σ H v u Q I r q=>h pins s σ H v u Q I r (m v σ H Q q)
theorem BN.mono{tg:List QT}{t t':E6}(h:BN X tg t)(m:∀v σ H Q,t' v σ H Q->t v σ H Q):BN X tg t':=λpins s σ H v u Q I r q=>h pins s σ H v u Q I r (m v σ H Q q)
def ah(i:Nat):FG:=λx e=>some (e.set i (some (.d x)))
def bN:HG:=λxs e=>match xs with|[]=>some e|_=>none
def aG(g:FG)(gs:HG):HG:=λxs e=>match xs with|x::r=>(g x e).bind λe1=>gs r e1|_=>none
def bV(gs:HG):FG:=λx e=>match x with|.tuple xs=>gs xs e|_=>none
theorem ax{i:Nat}{x:Str}(hN:X.N.Nodup)(hi:X.N[i]?=some x)(hx:HI X.env.scope x)(hf:X.fn x=true\/X.env.scope.names.lookup x=some .local):PG X (.Name x pos) (fG K (ah i) [i]):=(GC hN hi hx hf).mono λv σ H Q h=>by obtain⟨F,e,x,e',R,hx,hg,q⟩:=h;cases hg;obtain⟨R2,o2⟩:=R.setD i hx;exact q _ ⟨aw.refl _,λ_ h=>h,λ_ _ h _ _=>h,λ_ vs h=>⟨vs,h⟩,λ_ _ h _=>h,λa h=>.inl (o2 a h),λj n=>Ru (λz=>n (by simp[z])),λ_ _ h _ _=>h⟩ R2
theorem eh:BN X [] (MJ K bN []):=GE.mono λv σ H Q h=>by
 obtain⟨F,e,x,e',R,hx,hg,q⟩:=h;unfold bN at hg;split at hg;·cases hg;simp only[aI]at hx;exact⟨hx,q σ cP.refl R⟩
 ·cases hg
theorem aU{es:List QT}{g1:FG}{gs:HG}(h1:PG X a (fG K g1 W1))(h2:BN X es (MJ K gs W2))(hs:(SL (a::es) X.env).map (·.2)=SE a X.env::(SL es X.env).map (·.2)):BN X (a::es) (MJ K (aG g1 gs) (W1++W2)):=(Du h1 h2 hs).mono λv σ H Q h=>by obtain⟨F,e,xs,e',R,hx,hg,q⟩:=h;unfold aG at hg;match xs,hg,hx with|x::r,hg,hx=>simp only[aI]at hx;obtain⟨w,ws,e1,hw,hr⟩:=hx;dsimp only at hg;obtain⟨e1',h3,h4⟩:=QI hg;refine⟨w,ws,e1,F,e,x,e1',R,hw,h3,λσ1 x1 R1=>⟨F,e1',r,e',R1,hr,h4,λσ2 x2 R2=>?_⟩⟩;exact q σ2 ((x1.mono λj h=>Si.mpr (.inl h)).trans (x2.mono λj h=>Si.mpr (.inr h))) R2
theorem ip{es:List QT}{k n:Nat}{gs:HG}(hK:X.K=K)(hc:X.calm=true)(h:BN X es (MJ K gs W))(hl:∀xs e e',gs xs e=some e'->xs.length=n)(hn:(SL es X.env).length=n)(hst:(SL es X.env).findIdx? (·.1)=none):PG X (.Tuple es k pos) (fG K (bV gs) W):=(GD hK hc h hn hst).mono λv σ H Q h=>by obtain⟨F,e,x,e',R,hx,hg,q⟩:=h;unfold bV at hg;match x,hg,hx with|.tuple xs,hg,hx=>obtain⟨p,vs,e1,e2,e3⟩:=bH.mp hx;exact⟨p,vs,e1,R.sm.tup e2,by rw[<-e3.len];exact hl xs e e' hg,F,e,xs,e',R,e3,hg,q⟩
theorem hZ(xs:List QR)(e e':En)(h:bN xs e=some e'):xs.length=0:=by
 unfold bN at h;split at h;·rfl
 ·cases h
theorem ba{g:FG}{gs:HG}{n:Nat}(hl:∀xs e e',gs xs e=some e'->xs.length=n)(xs:List QR)(e e':En)(h:aG g gs xs e=some e'):xs.length=n+1:=by unfold aG at h;match xs,h with|x::r,h=>obtain⟨e1,h3,h4⟩:=QI h;simp[hl r e1 e' h4]
def kB(fa:FE)(g:FG):FS:=λe=>(fa e).bind λp=>match p.1 with|.d x=>(g x p.2).map .nx|_=>none
theorem mz{tg:QT}{g:FG}(he:PE X a (fE K fa))(hg:PG X tg (fG K g W))(hs:US [tg] a pos.line X.env=pure false)(hw:UT [tg] a X.env=pure none)(h1:(SL [tg] X.env).map (·.2)=[SE tg X.env]):PS X (.Assign [tg] a pos) (fS K (kB fa g) W):=(yO he hg hs hw h1).mono λD σ H h=>by obtain⟨F,e,fl,R,hf,q⟩:=h;unfold kB at hf;obtain⟨⟨r,e1⟩,h1,hf⟩:=QI hf;match r,h1,hf with|.d x,h1,hf=>obtain⟨e2,h2,hf⟩:=QJ hf;cases hf;exact⟨F,e,_,e1,R,h1,λF1 H1 v X1 R1 A1=>⟨F1,e1,x,e2,R1,A1,h2,λσ' x2 R2=>q F1 H1 σ' (X1.s.trans x2) R2⟩⟩
def r8(i j:Nat)(fs:FA):FS:=λe=>(fs e).bind λp=>match p.1 with|[.d x,.d y]=>some (.nx ((p.2.set i (some (.d x))).set j (some (.d y))))|_=>none
theorem D5{i j:Nat}{x y:Str}{fs:FA}{px py pt:Pos}{kt k2 pt2}(hc:X.calm=true)(hN:X.N.Nodup)(hi:X.N[i]?=some x)(hj:X.N[j]?=some y)(hij:i≠j)(hx:X.env.scope.names.lookup x=some .local)(hy:X.env.scope.names.lookup y=some .local)(ha:PA X [a,b] (fA K fs))(hw:UT [.Tuple [.Name x px,.Name y py] kt pt] (.Tuple [a,b] k2 pt2) X.env=pure (some [x,y]))(hs:US [.Tuple [.Name x px,.Name y py] kt pt] (.Tuple [a,b] k2 pt2) pos.line X.env=pure false):PS X (.Assign [.Tuple [.Name x px,.Name y py] kt pt] (.Tuple [a,b] k2 pt2) pos) (fS K (r8 i j fs) [i,j]):=(JV hc hN hi hj hij hx hy ha hw hs).mono λD σ H h=>by obtain⟨F,e,fl,R,hf,q⟩:=h;unfold r8 at hf;obtain⟨⟨rs,e1⟩,h1,hf⟩:=QI hf;refine⟨F,e,rs,e1,R,h1,λF1 H1 vs X1 R1 A1=>?_⟩;match rs,hf,A1 with|[.d x,.d y],hf,A1=>cases hf;obtain⟨v,u,rfl,a1,a2⟩:=vP A1;obtain⟨R2,o2⟩:=R1.setD i a1;obtain⟨R3,o3⟩:=R2.setD j a2;refine⟨v,u,rfl,q F1 H1 _ ⟨X1.sf,X1.dom,X1.fr,X1.lst,X1.tmp,λa h=>X1.ow a (o2 a (o3 a h)),λm n=>?_,X1.fd⟩ R3⟩;rw[Ru (λz=>n (by simp[z])),Ru (λz=>n (by simp[z]))]
def mh:Rv->Option QR|.d x=>some x|.l xs=>some (.list xs)|.s _=>none
theorem lH{r:Rv}{d:QR}(h:mh r=some d):gU [r]=some [d]:=by cases r with|d x=>cases h;rfl|l xs=>cases h;rfl|s i=>cases h
def oM(e:En):Rv->Option (Nat×List QR)
 |.s n=>match e[n]? with|some (some (.l xs))=>some (n,xs)|_=>none
 |_=>none
theorem uC{e:En}{r:Rv}{n:Nat}{xs:List QR}(h:oM e r=some (n,xs)):r=.s n/\e[n]?=some (some (.l xs)):=by
 unfold oM at h;split at h
 ·split at h;·rename_i heq;cases h;exact⟨rfl,heq⟩
  ·cases h
 ·cases h
def G_(fa fo fi:FE):FS:=λe=>(fa e).bind λp=>(mh p.1).bind λd=>(fo p.2).bind λo=>(fi o.2).bind λi=>(bo i.1).bind λk=>(oM i.2 o.1).bind λs=>(yk s.2.length k).map λj=>.nx (i.2.set s.1 (some (.l (s.2.set j d))))
theorem J9{o i:QT}{fo fi:FE}{ps:Pos}(he:PE X a (fE K fa))(ho:PE X o (fE K fo))(hi:PE X i (fE K fi))(ha:∀v,SE (.Subscript o i ps) X.env v=(do
 let ov<-Ti [v] (Rj o X.env)let iv<-Ti [v,ov] (Rj i X.env)TC ps
 Ti [v,ov,iv] (setItem ov iv v)release [v,ov,iv] []))(hs:US [.Subscript o i ps] a pos.line X.env=pure false)(hw:UT [.Subscript o i ps] a X.env=pure none)(h1:(SL [.Subscript o i ps] X.env).map (·.2)=[SE (.Subscript o i ps) X.env]):PS X (.Assign [.Subscript o i ps] a pos) (fS K (G_ fa fo fi) []):=(yO he (Dt ho hi xH ha) hs hw h1).mono λD σ H h=>by obtain⟨F,e,fl,R,hf,q⟩:=h;unfold G_ at hf;obtain⟨⟨r,e1⟩,g1,hf⟩:=QI hf;obtain⟨d,g2,hf⟩:=QI hf;obtain⟨⟨ro,e2⟩,g3,hf⟩:=QI hf;obtain⟨⟨ri,e3⟩,g4,hf⟩:=QI hf;obtain⟨k,g5,hf⟩:=QI hf;obtain⟨⟨n,xs⟩,g6,hf⟩:=QI hf;obtain⟨j,g7,hf⟩:=QJ hf;cases hf;obtain⟨z6,g6'⟩:=uC g6;dsimp only at z6 g6';subst z6;refine⟨F,e,r,e1,R,g1,λF1 H1 v X1 R1 A1=>?_⟩;refine⟨F1,e1,_,e2,R1,g3,λF2 H2 u X2 R2 A2=>⟨F2,e2,ri,e3,R2,g4,λF3 H3 w X3 R3 A3=>?_⟩⟩;have X12:=X1.trans X2;have X13:=X12.trans X3;have A1':=(A1.ext X2).ext X3;obtain⟨F4,R4,s4,d4,f4⟩:=ce.frozen R3 (rs:=[r]) (vs:=[v]) ⟨v,[],rfl,A1',rfl⟩ (lH g2);obtain⟨h1,_⟩:=A2;obtain⟨l,vs,k1,k2,k3,k4⟩:=R4.own n xs g6';rw[h1]at k1;cases k1;simp only[aI]at d4;obtain⟨v',r',e',hv,_⟩:=d4;cases e';refine⟨l,vs,k,j,rfl,bO A3 g5,k3,by rw[<-k4.len];exact g7,?_⟩;obtain⟨R5,X5⟩:=R4.putL g6' h1 (k4.set hv j);exact q _ _ σ ((X13.frz s4 f4).trans X5).s R5
def gv(ft:FT)(f:FS):Nat->FS|0,_=>none|n+1,e=>(ft e).bind λp=>if p.1=true then(f p.2).bind λfl=>match fl with|.nx e1=>gv ft f n e1|.ct e1=>gv ft f n e1|.bk e1=>some (.nx e1)|.rt r e1=>some (.rt r e1)else some (.nx p.2)
def iz(n:Nat)(ft:FT)(f:FS):FS:=gv ft f n
theorem lc{n:Nat}{c:QT}{body:List Rh}(hp:PassesOwn (QY X.prog X.w) X.A X.env X.xe)(hc:PT X c (fT K ft))(hb:kc X body (fS K f W)):PS X (.While c body [] pos) (fS K (iz n ft f) W):=(DH hp hc hb).mono λD σ H h=>by refine⟨λm σ H=>∃F e fl,aR K F H σ e/\gv ft f m e=some fl/\qP K W σ F H e D fl,⟨n,h⟩,?_⟩;rintro m σ H⟨F,e,fl,R,hf,q⟩;cases m with|zero=>cases hf|succ m=>
 unfold gv at hf;obtain⟨⟨x,e1⟩,h1,hf⟩:=QI hf;refine⟨F,e,x,e1,R,h1,λF1 H1 X1 R1=>?_⟩;have sub:∀j,j∈([]:List Nat)->j∈W:=λj h=>by cases h
 cases x with|false=>rw[if_neg ↥1]at hf;cases hf;exact AS (q F1 H1 σ X1.s R1)|true=>rw[if_pos rfl]at hf;refine AU ?_;obtain⟨fl1,h2,hf⟩:=QI hf;have q1:qP K W σ F1 H1 e1 D fl:=q.later (W1:=[]) X1.s sub λj h=>h;refine⟨λσ' H'=>∃F' e',aR K F' H' σ' e'/\gv ft f m e'=some fl/\qP K W σ' F' H' e' D fl,λσ' H'⟨F',e',r1,r2,r3⟩=>⟨m,Nat.lt_succ_self m,F',e',fl,r1,r2,r3⟩,F1,e1,fl1,R1,h2,?_⟩;cases fl1 with|nx e2=>exactλF2 H2 σ2 x R2=>⟨F2,e2,R2,hf,q1.later x (λj h=>h) λj h=>h⟩|ct e2=>exactλF2 H2 σ2 x R2=>⟨F2,e2,R2,hf,q1.later x (λj h=>h) λj h=>h⟩|bk e2=>cases hf;exactλF2 H2 σ2 x R2=>q1 F2 H2 σ2 x R2|rt r e2=>cases hf;exactλF2 H2 σ2 v x R2 A=>q1 F2 H2 σ2 v x R2 A
end
theorem PI.mono{X:Cx}{tg iter:QT}{t t':TI}(h:PI X tg iter t)(m:∀σ H R,t' σ H R->t σ H R):PI X tg iter t':=λpins s σ H R I q=>h pins s σ H R I (m σ H R q)
theorem PI.or{X:Cx}{tg iter:QT}{t t':TI}(h:PI X tg iter t)(h':PI X tg iter t'):PI X tg iter (λσ H R=>t σ H R\/t' σ H R):=λpins s σ H R I q=>by
 rcases q with q|q;·exact h pins s σ H R I q
 ·exact h' pins s σ H R I q
abbrev gB:=List (Nat×List QR)
def x4(K:QU)(σ:L2.St)(F H:Hp)(own:gB):Prop:=∀p∈own,∃l vs,σ[p.1]?=some (some (.ref l))/\H l=some (.lst vs)/\aI K F p.2 vs
def Ap(K:QU)(σ:L2.St)(J:It)(items:List QR)(own:gB)(F0:Hp):Prop:=∀F H,aw F0 F->aw F H->x4 K σ F H own->(∀i,i<items.length->J.go i H)/\(∀i,items.length<=i->J.stop i H)/\∀i d x H',items[i]?=some d->J.yld i H x H'->∃F',aw H H'/\aw F F'/\aw F' H'/\(∀a,F a=none->H a≠none->F' a=none)/\DA K F' d x
abbrev FI:=En->Option (List QR×gB×En)
def keeps(own:gB)(e:En):Prop:=∀p∈own,e[p.1]?=some (some (.l p.2))
def fI(K:QU)(f:FI):TI:=λσ H R=>∃F e items own e',aR K F H σ e/\f e=some (items,own,e')/\∀J F' H',dF σ F H e F' H' e'->aR K F' H' σ e'->keeps own e'->Ap K σ J items own F'->R J H'
section
variable{K:QU}{σ:L2.St}{H0 F H F' H':Hp}{e e':En}
theorem aR.held(R:aR K F H σ e){own:gB}(h:keeps own e):x4 K σ F H own:=λp hp=>by obtain⟨l,vs,h1,h2,h3,h4⟩:=R.own p.1 p.2 (h p hp);exact⟨l,vs,h1,h3,h4⟩
theorem aR.step(R:aR K F H σ e)(s:aw H H')(sF:aw F F')(sm:aw F' H')(fz:∀a,F a=none->H a≠none->F' a=none):aR K F' H' σ e/\dF σ F H e F' H' e:=by obtain⟨R',o'⟩:=R.keep sF sm (λa⟨i,h⟩=>by obtain⟨h1,vs,h2⟩:=R.fpAt h;exact fz a h1 (by rw[h2];simp)) λa o _ h=>s a o h;exact⟨R',⟨sF,λa h=>s.free h,λa vs h1 h2 _=>fz a h1 (by rw[h2];simp),λa vs h=>⟨vs,s _ _ h⟩,λa o h _=>s a o h,λ_=>Iff.rfl,λa h=>.inl ((o' a).mp h),λa m h1 h2 _=>fz a h1 (by rw[h2];simp)⟩⟩
inductive BW (K:QU) (σ:L2.St) (F:Hp) (p:QQ):Bool->List QR->gB->Prop|tup{xs vs}:dX K F p vs->aI K F xs vs->BW K σ F p false xs []|lst{xs vs}:i6 K F p vs->aI K F xs vs->BW K σ F p true xs []|own{i xs}:σ[i]?=some (some (.ref p))->BW K σ F p true xs [(i,xs)]
theorem BW.at{p:QQ}{b:Bool}{xs:List QR}{own:gB}{F0:Hp}(h:BW K σ F0 p b xs own)(s0:aw F0 F)(s1:aw F H){own':gB}(hh:x4 K σ F H own')(hs:∀q∈own,q∈own'):∃vs,aI K F xs vs/\(if b=true then i6 K H p vs else dX K H p vs):=by cases h with|tup h1 h2=>exact⟨_,h2.mono s0,(s0.trans s1).tup h1⟩|lst h1 h2=>exact⟨_,h2.mono s0,(s0.trans s1).seq h1⟩|@own i xs h1=>obtain⟨l,vs,g1,g2,g3⟩:=hh (i,xs) (hs (i,xs) ↥1);dsimp only at g1 g3;rw[h1]at g1;cases g1;exact⟨vs,g3,.inl (.inl g2)⟩
def vU(e:En):Rv->Option (Bool×List QR×gB)
 |.d (.tuple xs)=>some (false,xs,[])|.d (.list xs)=>some (true,xs,[])|.l xs=>some (true,xs,[])|.s i=>match e[i]? with|some (some (.l xs))=>some (true,xs,[(i,xs)])|_=>none
 |_=>none
theorem vV{r:Rv}{v:V}{b:Bool}{xs:List QR}{own:gB}(R:aR K F H σ e)(A:bG K σ H0 F H e r v)(h:vU e r=some (b,xs,own)):∃F' p,aR K F' H σ e/\aw F F'/\(∀a,F a=none->H0 a≠none->F' a=none)/\v=.ref p/\BW K σ F' p b xs own/\keeps own e:=by cases r with
 |d x=>cases x with|tuple ds=>cases h;obtain⟨a,ys,e1,e2,e3⟩:=bH.mp A;exact⟨F,a,R,aw.refl _,λ_ h _=>h,e1,.tup e2 e3,λp hp=>by cases hp⟩|list ds=>cases h;obtain⟨a,ys,e1,e2,e3⟩:=cU.mp A;exact⟨F,a,R,aw.refl _,λ_ h _=>h,e1,.lst e2 e3,λp hp=>by cases hp⟩|_=>cases h
 |l ys=>cases h;obtain⟨F',R',s',d',f'⟩:=A.frozen R;obtain⟨a,ys,e1,e2,e3⟩:=cU.mp d';exact⟨F',a,R',s',f',e1,.lst e2 e3,λp hp=>by cases hp⟩|s i=>obtain⟨h1,ys,h2⟩:=A;simp only[vU,h2]at h;cases h;obtain⟨l,vs,e1,e2,e3,e4⟩:=R.own i _ h2;rw[h1]at e1;cases e1;exact⟨F,l,R,aw.refl _,λ_ h _=>h,rfl,.own h1,λp hp=>by simp only[Uk]at hp;subst hp;exact h2⟩
theorem t_{p:QQ}{xs:List QR}{own:gB}{F0:Hp}(h:BW K σ F0 p true xs own):Ap K σ (MS K p) xs own F0:=by intro F H s0 s1 hh;obtain⟨vs,d,q⟩:=h.at s0 s1 hh λ_ h=>h;have q:i6 K H p vs:=q;refine⟨λi hi=>⟨vs,vs[i]'(by rw[<-d.len];exact hi),q,RS _⟩,λi hi=>⟨vs,q,by rw[<-d.len];exact hi⟩,λi x v H' hx hy=>?_⟩;obtain⟨rfl,hy⟩:=hy;obtain⟨w,g1,g2⟩:=d.get hx;have e:=hy vs q;rw[g1]at e;cases e;exact⟨F,aw.refl _,aw.refl _,s1,λ_ h _=>h,g2⟩
theorem CO{p:QQ}{xs:List QR}{own:gB}{F0:Hp}(h:BW K σ F0 p false xs own):Ap K σ (MT K p) xs own F0:=by intro F H s0 s1 hh;obtain⟨vs,d,q⟩:=h.at s0 s1 hh λ_ h=>h;have q:dX K H p vs:=q;refine⟨λi hi=>⟨vs,vs[i]'(by rw[<-d.len];exact hi),q,RS _⟩,λi hi=>⟨vs,q,by rw[<-d.len];exact hi⟩,λi x v H' hx hy=>?_⟩;obtain⟨rfl,hy⟩:=hy;obtain⟨w,g1,g2⟩:=d.get hx;have e:=hy vs q;rw[g1]at e;cases e;exact⟨F,aw.refl _,aw.refl _,s1,λ_ h _=>h,g2⟩
theorem xc{p:QQ}{x y:V}{a b:QR}(s1:aw F H)(hp:H p=none)(hx:DA K F a x)(hy:DA K F b y):∃F',aw H (upd H p (.tup [x,y]))/\aw F F'/\aw F' (upd H p (.tup [x,y]))/\(∀c,F c=none->H c≠none->F' c=none)/\DA K F' (.tuple [a,b]) (.ref p):=by
 have hF:F p=none:=s1.free hp;have sF:aw F (upd F p (.tup [x,y])):=aw.new hF;refine⟨upd F p (.tup [x,y]),aw.new hp,sF,λb o q=>?_,λc h n=>?_,bH.mpr ⟨p,_,rfl,.inl (.inl ao),.cons (DA.mono sF hx) (.one (DA.mono sF hy))⟩⟩
 ·by_cases z:b=p;·subst z;rw[ao]at q⊢;exact q
  ·rw[aq z]at q⊢;exact s1 _ _ q
 ·have z:c≠p:=λz=>n (by rw[z];exact hp);rw[aq z];exact h
def kg:Nat->List QR->List QR|_,[]=>[]|n,x::r=>.tuple [.int n,x]::kg (n+1) r
theorem n_:∀{xs:List QR}{n i:Nat},(kg n xs)[i]?=(xs[i]?).map λx=>.tuple [.int ((n+i:Nat):Int),x]|[],n,i=>by simp[kg]|x::r,n,0=>by simp[kg]|x::r,n,i+1=>by simp only[kg,List.getElem?_cons_succ];rw[n_ (xs:=r) (n:=n+1) (i:=i)];congr 1;funext y;rw[show n+1+i=n+(i+1) by lia]
theorem tU:∀(xs:List QR) (n:Nat),(kg n xs).length=xs.length|[],_=>rfl|x::r,n=>by simp[kg,tU r (n+1)]
def mF:List QR->List QR->List QR|x::r,y::s=>.tuple [x,y]::mF r s|_,_=>[]
theorem xS:∀{xs ys:List QR}{i:Nat}{d:QR},(mF xs ys)[i]?=some d->∃x y,xs[i]?=some x/\ys[i]?=some y/\d=.tuple [x,y]|[],ys,i,d,h=>by simp[mF]at h|x::r,[],i,d,h=>by simp[mF]at h|x::r,y::s,0,d,h=>by simp only[mF,List.getElem?_cons_zero]at h;cases h;exact⟨x,y,rfl,rfl,rfl⟩|x::r,y::s,i+1,d,h=>by simp only[mF,List.getElem?_cons_succ]at h;obtain⟨a,b,h1,h2,h3⟩:=xS h;exact⟨a,b,by simpa using h1,by simpa using h2,h3⟩
theorem xT:∀(xs ys:List QR),(mF xs ys).length=min xs.length ys.length|[],ys=>by simp[mF]|x::r,[]=>by simp[mF]|x::r,y::s=>by simp[mF,xT r s]
theorem CP{P Q:Hp->QQ->List V->Prop}{J:It}{l1 l2:QQ}{b1 b2:Bool}{xs ys:List QR}{own1 own2:gB}{F0:Hp}(h1:BW K σ F0 l1 b1 xs own1)(h2:BW K σ F0 l2 b2 ys own2)(hP:∀H vs,(if b1=true then i6 K H l1 vs else dX K H l1 vs)->P H l1 vs)(hQ:∀H vs,(if b2=true then i6 K H l2 vs else dX K H l2 vs)->Q H l2 vs)(go:∀i H vs us x y,P H l1 vs->Q H l2 us->vs[i]?=some x->us[i]?=some y->J.go i H)(stop:∀i H vs us,P H l1 vs->Q H l2 us->(vs.length<=i\/us.length<=i)->J.stop i H)(yld:∀i H v H',J.yld i H v H'->∃p x y,v=.ref p/\H p=none/\H'=upd H p (.tup [x,y])/\∀xs ys,P H l1 xs->Q H l2 ys->xs[i]?=some x/\ys[i]?=some y):Ap K σ J (mF xs ys) (own1++own2) F0:=by intro F H s0 s1 hh;obtain⟨vs,d1,q1⟩:=h1.at s0 s1 hh λ_ h=>Si.mpr (.inl h);obtain⟨us,d2,q2⟩:=h2.at s0 s1 hh λ_ h=>Si.mpr (.inr h);have q1:=hP H vs q1;have q2:=hQ H us q2;have l1':=d1.len;have l2':=d2.len;rw[xT];refine⟨λi hi=>go i H vs us (vs[i]'↥0) (us[i]'↥0) q1 q2 (RS _) (RS _),λi hi=>stop i H vs us q1 q2 ↥0,λi x v H' hx hy=>?_⟩;obtain⟨t,a,b,rfl,ht,rfl,hy3⟩:=yld i H v H' hy;obtain⟨x',y',hx2,hy',rfl⟩:=xS hx;obtain⟨w,g1,g2⟩:=d1.get hx2;obtain⟨w',g3,g4⟩:=d2.get hy';obtain⟨e1,e2⟩:=hy3 vs us q1 q2;rw[g1]at e1;cases e1;rw[g3]at e2;cases e2;exact xc s1 ht g2 g4
def bf(lo:Int)(n:Nat):List QR:=(To n).map fun(i:Nat)=>.int (lo+(i:Int))
theorem yj{lo:Int}{n:Nat}{F0:Hp}:Ap K σ (MB lo n) (bf lo n) [] F0:=by intro F H s0 s1 hh;unfold bf;rw[Rq,List.length_range];refine⟨λi hi=>hi,λi hi=>hi,λi x v H' hx hy=>?_⟩;obtain⟨rfl,rfl⟩:=hy;rw[RK]at hx;obtain⟨k,h1,rfl⟩:=QJ hx;have h2:=(QK h1).2;simp at h2;subst h2;exact⟨F,aw.refl _,aw.refl _,s1,λ_ h _=>h,bc.mpr rfl⟩
end
inductive MR (K:QU) (own:gB) (σ0:L2.St) (F1:Hp) (P:En->Prop) (G:L2.St->Hp->Hp->En->Prop) (σ:L2.St) (H:Hp):Prop|mk{F:Hp}{e:En}(R:aR K F H σ e) (kp:keeps own e) (hσ:∀p∈own,σ[p.1]?=σ0[p.1]?) (sF:aw F1 F) (hf:P e) (q:G σ F H e):MR K own σ0 F1 P G σ H
section
variable{X:Cx}{K:QU}{tg a b:QT}{es:List QT}{fa:FE}{fs:FA}{pos p tp:Pos}{k0:Nat}
def iJ(fa:FE):FI:=λe=>(fa e).bind λp=>(vU p.2 p.1).map λs=>(s.2.1,s.2.2,p.2)
theorem ej(hK:X.K=K)(h:PE X a (fE K fa)):PI X tg a (fI K (iJ fa)):=((xo (tg:=tg) hK h).or (GG (tg:=tg) hK h)).mono λσ H R hh=>by obtain⟨F,e,items,own,e',R0,hf,q⟩:=hh;unfold iJ at hf;obtain⟨⟨r,e1⟩,h1,hf⟩:=QI hf;obtain⟨⟨b,xs,ow⟩,h2,hf⟩:=QJ hf;cases hf;cases b with|true=>refine .inl ⟨F,e,r,e1,R0,h1,λF1 H1 v X1 R1 A1=>?_⟩;obtain⟨F2,p,R2,s2,f2,rfl,sc,kp⟩:=vV R1 A1 h2;obtain⟨vs,_,c⟩:=sc.at (aw.refl _) R2.sm (R2.held kp) λ_ h=>h;exact⟨p,rfl,⟨vs,c⟩,q _ F2 H1 (X1.frz s2 f2) R2 kp (t_ sc)⟩|false=>refine .inr ⟨F,e,r,e1,R0,h1,λF1 H1 v X1 R1 A1=>?_⟩;obtain⟨F2,p,R2,s2,f2,rfl,sc,kp⟩:=vV R1 A1 h2;obtain⟨vs,_,c⟩:=sc.at (aw.refl _) R2.sm (R2.held kp) λ_ h=>h;exact⟨p,rfl,⟨vs,c⟩,q _ F2 H1 (X1.frz s2 f2) R2 kp (CO sc)⟩
def zB(fs:FA):FI:=λe=>(fs e).bind λp=>match p.1 with|[r]=>(vU p.2 r).map λs=>(kg 0 s.2.1,s.2.2,p.2)|_=>none
def Ej(j:Int):Bool:=decide (-1000000<=j)&&decide (j<=1000000)
theorem Ek{j:Int}(h:Ej j=true):-1000000<=j/\j<=1000000:=by unfold Ej at h;rw[RE,decide_eq_true_iff,decide_eq_true_iff]at h;exact h
def cI(fs:FA):FI:=λe=>(fs e).bind λp=>match p.1 with|[r]=>(bo r).bind λj=>if Ej j=true then some (bf 0 j.toNat,[],p.2) else none|_=>none
theorem cC(hg:Gl X "range")(hm:X.mg "range"=none)(ha:PA X [a] (fA K fs))(hs:Rg [a] X.env=[(false,Rj a X.env)]):PI X tg (.Call (.Name "range" p) [a] [] pos) (fI K (cI fs)):=(Bm hg hm ha hs).mono λσ H R hh=>by obtain⟨F,e,items,own,e',R0,hf,q⟩:=hh;unfold cI at hf;obtain⟨⟨rs,e1⟩,h1,hf⟩:=QI hf;match rs,h1,hf with
 |[r],h1,hf=>
 obtain⟨j,h2,hf⟩:=QI hf;split at hf;case isFalse=>cases hf
 case isTrue hj=>cases hf;refine⟨F,e,_,e1,R0,h1,λF1 H1 vs X1 R1 A1=>?_⟩;obtain⟨v,rfl,A2⟩:=nI A1;have:=Ek hj;exact⟨j,by rw[bO A2 h2],by lia,by lia,q _ F1 H1 X1 R1 (λ_ h=>by cases h) yj⟩
open Classical in noncomputable def iI(own:gB)(g:FG)(f:FS):List QR->FS|[],e=>some (.nx e)|x::r,e=>(g x e).bind λe1=>(f e1).bind λfl=>match fl with|.nx e2=>if keeps own e2 then iI own g f r e2 else none|.ct e2=>if keeps own e2 then iI own g f r e2 else none|.bk e2=>some (.nx e2)|.rt v e2=>some (.rt v e2)
def cO(W:List Nat)(fi:FI)(g:FG)(f:FS):FS:=λe=>(fi e).bind λp=>if (p.2.1.all λq=>!W.contains q.1)=true then iI p.2.1 g f p.1 p.2.2 else none
theorem el{W1 W2:List Nat}{iter:QT}{body:List Rh}{fi:FI}{g:FG}{f:FS}(hp:PassesOwn (QY X.prog X.w) X.A X.env X.xe)(hc:X.calm=true)(hi:PI X tg iter (fI K fi))(hg:PG X tg (fG K g W1))(hb:kc X body (fS K f W2))(hs:∀x,SF iter X.env x=pure x):PS X (.For tg iter body [] pos) (fS K (cO (W1++W2) fi g f) (W1++W2)):=(DE hp hc hi hg hb hs).mono λD σ0 H0 hh=>by
 obtain⟨F0,e0,fl,R0,hf,q0⟩:=hh;unfold cO at hf;obtain⟨⟨items,own,e1⟩,h1,hf⟩:=QI hf;dsimp only at hf;split at hf;case isFalse=>cases hf
 case isTrue hW=>
 have hW':∀p∈own,p.1∉W1++W2:=λp hp=>by have:=RV.mp hW p hp;simpa using this
 refine⟨F0,e0,items,own,e1,R0,h1,λJ F1 H1 X1 R1 kp ok=>?_⟩;have s1:∀j,j∈W1->j∈W1++W2:=λj h=>Si.mpr (.inl h);have s2:∀j,j∈W2->j∈W1++W2:=λj h=>Si.mpr (.inr h);have q1:qP K (W1++W2) σ0 F1 H1 e1 D fl:=q0.later (W1:=[]) X1.s (λj h=>by cases h) λj h=>h;refine⟨λi m σ H=>m=items.length-i/\i<=items.length/\MR K own σ0 F1 (λe=>iI own g f (items.drop i) e=some fl) (λσ F H e=>qP K (W1++W2) σ F H e D fl) σ H,⟨items.length,by simp,SY _,.mk R1 kp (λ_ _=>rfl) (aw.refl _) hf q1⟩,?_⟩;rintro i m σ H⟨rfl,hi,⟨R,kp,hσ,sF,hf,q⟩⟩;rename_i F e;have held:x4 K σ0 F H own:=λp hp=>by obtain⟨l,vs,g1,g2⟩:=R.held kp p hp;exact⟨l,vs,by rw[<-hσ p hp];exact g1,g2⟩
 obtain⟨go,stop,yld⟩:=ok F H sF R.sm held;by_cases hlt:i<items.length
 ·have hd:items.drop i=items[i]::items.drop (i+1):=Uu hlt;rw[hd]at hf;unfold iI at hf;obtain⟨e2,h2,hf⟩:=QI hf;obtain⟨fl2,h3,hf⟩:=QI hf;refine .inr ⟨go i hlt,MR K own σ0 F1 (λe=>iI own g f (items.drop (i+1)) e=some fl) (λσ F H e=>qP K (W1++W2) σ F H e D fl),λσ' H' r=>⟨items.length-(i+1),by lia,rfl,hlt,r⟩,λx H' hy=>?_⟩;obtain⟨F',sH,sF',sm',fz,hx⟩:=yld i items[i] x H' (RS hlt) hy;obtain⟨R',X'⟩:=R.step sH sF' sm' fz;refine⟨F',e,items[i],e2,R',hx,h2,λσ2 x2 R2=>⟨F',e2,fl2,R2,h3,?_⟩⟩;have q2:qP K (W1++W2) σ2 F' H' e2 D fl:=(q.later (W1:=[]) (W2:=W1++W2) X'.s (λj h=>by cases h) λj h=>h).later x2 s1 λj h=>h
  have w2:∀p∈own,σ2[p.1]?=σ0[p.1]?:=λp hp=>(x2.wr p.1 λz=>hW' p hp (s1 _ z)).trans (hσ p hp);cases fl2 with|nx e3=>
   intro F3 H3 σ3 x3 R3;dsimp only at hf;split at hf;case isFalse=>cases hf
   case isTrue kp3=>exact .mk R3 kp3 (λp hp=>(x3.wr p.1 λz=>hW' p hp (s2 _ z)).trans (w2 p hp)) (sF.trans (sF'.trans x3.sf)) hf (q2.later x3 s2 λj h=>h)|ct e3=>
   intro F3 H3 σ3 x3 R3;dsimp only at hf;split at hf;case isFalse=>cases hf
   case isTrue kp3=>exact .mk R3 kp3 (λp hp=>(x3.wr p.1 λz=>hW' p hp (s2 _ z)).trans (w2 p hp)) (sF.trans (sF'.trans x3.sf)) hf (q2.later x3 s2 λj h=>h)|bk e3=>cases hf;exactλF3 H3 σ3 x3 R3=>q2 F3 H3 σ3 (x3.mono s2) R3|rt r e3=>cases hf;exactλF3 H3 σ3 v x3 R3 A3=>q2 F3 H3 σ3 v (x3.mono s2) R3 A3
 ·have hd:items.drop i=[]:=Vx ↥0;rw[hd]at hf;cases hf;exact .inl ⟨stop i ↥0,q F H σ cP.refl R⟩
end
def AR:Option (Option Sv)->Bool|some (some (.l _))=>true|_=>false
theorem zE{s:Option (Option Sv)}:AR s=true↔∃xs,s=some (some (.l xs)):=by
 unfold AR;split;·simp
 ·rename_i h;constructor;·intro z;cases z
  ·rintro⟨xs,rfl⟩;exact absurd rfl (h xs)
def oO(pos:Nat->Option Nat)(ei e:En):En:=e.mapIdx λi s=>match s with
 |some (.l xs)=>match pos i with|some k=>(ei[k]?).join|none=>some (.l xs)
 |s=>s
theorem b_{pos:Nat->Option Nat}{ei e:En}{i:Nat}:(oO pos ei e)[i]?=(e[i]?).map λs=>match s with
 |some (.l xs)=>match pos i with|some k=>(ei[k]?).join|none=>some (.l xs)
 |s=>s:=by unfold oO;rw[List.getElem?_mapIdx]
structure wj (σ:L2.St) (e:En) (σi:L2.St) (ei:En) (pos:Nat->Option Nat):Prop where
 a:∀(i k:Nat) (xs:List QR),e[i]?=some (some (.l xs))->pos i=some k->σi[k]?=σ[i]?
 b:∀(k:Nat) (ys:List QR),ei[k]?=some (some (.l ys))->∃(i:Nat) (xs:List QR),e[i]?=some (some (.l xs))/\pos i=some k/\σi[k]?=σ[i]?
section
variable{K:QU}{σ σi σi':L2.St}{F H F' H':Hp}{e ei ei':En}{pos:Nat->Option Nat}
def KY(e:En):Prop:=∀(i:Nat) (xss:List (List QR)),e[i]?≠some (some (.n xss))
theorem wj.own(s:wj σ e σi ei pos)(hn:KY ei){a:QQ}{H H':Hp}(h:bq σi ei H a):∃(i k:Nat) (xs:List QR),e[i]?=some (some (.l xs))/\pos i=some k/\σ[i]?=some (some (.ref a)):=by
 obtain⟨k,⟨ys,h1,h2⟩|⟨xss,_,_,h1,_⟩⟩:=h;·obtain⟨i,xs,g1,g2,g3⟩:=s.b k ys h1;exact⟨i,k,xs,g1,g2,by rw[<-g3];exact h2⟩
 ·exact absurd h1 (hn k xss)
theorem sE(R:aR K F H σ e)(s:wj σ e σi ei pos)(hnn:KY ei)(sf:aw F F')(dom:∀a,H' a=none->H a=none)(fr:∀a vs,F a=none->H a=some (.lst vs)->¬bq σi ei H a->F' a=none)(lst:∀a vs,H a=some (.lst vs)->∃vs',H' a=some (.lst vs'))(tmp:∀a o,H a=some o->¬bq σi ei H a->H' a=some o)(fd:∀a (m:DI),F a=none->H a=some m.1->¬bq σi ei H a->F' a=none)(R':aR K F' H' σi' ei')(hσ:∀(i k:Nat) (xs:List QR),e[i]?=some (some (.l xs))->pos i=some k->σi'[k]?=σi[k]?)(hsh:∀(i k:Nat) (xs:List QR),e[i]?=some (some (.l xs))->pos i=some k->∃ys,ei'[k]?=some (some (.l ys))):aR K F' H' σ (oO pos ei' e)/\dF σ F H e F' H' (oO pos ei' e)/\∀a,bq σ (oO pos ei' e) H' a->bq σ e H a:=by
 have shp:∀i:Nat,(∃xs,(oO pos ei' e)[i]?=some (some (.l xs)))↔(∃xs,e[i]?=some (some (.l xs))):=by intro i;rw[b_];match h:e[i]? with
  |none=>simp|some none=>simp|some (some (.d x))=>simp|some (some (.n x))=>simp|some (some (.l xs))=>
   simp only[Su];constructor;·intro _;exact⟨xs,rfl⟩
   ·intro _;match hp:pos i with|none=>exact⟨xs,rfl⟩|some k=>obtain⟨ys,g⟩:=hsh i k xs h hp;exact⟨ys,by show some ((ei'[k]?).join)=_;rw[g];rfl⟩
 have oth:∀(i:Nat) (s:Sv),(∀xs,s≠.l xs)->((oO pos ei' e)[i]?=some (some s)↔e[i]?=some (some s)):=by
  intro i s hs;constructor;·intro h;rw[b_]at h;match h1:e[i]?,h with
   |some (some (.d y)),h=>exact h|some (some (.n y)),h=>exact h|some (some (.l ys)),h=>simp only[Su,Ux]at h;match hp:pos i,h with|none,h=>cases h;exact absurd rfl (hs _)|some k,h=>obtain⟨zs,g⟩:=hsh i k ys h1 hp;change (ei'[k]?).join=_ at h;rw[g]at h;cases h;exact absurd rfl (hs _)
   |some none,h=>simp at h|none,h=>simp at h
  ·intro h;rw[b_,h];cases s with|d y=>rfl|n y=>rfl|l y=>exact absurd rfl (hs y)
 have out:∀i a,Fp σ e H i a->(∀k xs,e[i]?=some (some (.l xs))->pos i≠some k)->¬bq σi ei H a:=by intro i a hi hp z;obtain⟨j,k,ws,d1,d2,d3⟩:=s.own hnn (H':=H') z;have:i=j:=R.fp i j a hi (.inl ⟨ws,d1,d3⟩);subst this;exact hp k ws d1 d2
 have keep:∀i a o,Fp σ e H i a->(∀k xs,e[i]?=some (some (.l xs))->pos i≠some k)->H a=some o->H' a=some o:=λi a o hi hp ha=>tmp a o ha (out i a hi hp);have sown:∀a,bq σi ei H a->bq σ e H a:=λa z=>by obtain⟨j,k,ws,d1,d2,d3⟩:=s.own hnn (H':=H') z;exact⟨j,.inl ⟨ws,d1,d3⟩⟩
 have fs:∀i a,Fp σ (oO pos ei' e) H' i a↔Fp σ e H i a:=by
  intro i a;have key:∀xss l,e[i]?=some (some (.n xss))->σ[i]?=some (some (.ref l))->H' l=H l:=λxss l h1 h2=>by obtain⟨l',bs,g1,g2,g3,_⟩:=R.nst i xss h1;rw[h2]at g1;cases g1;rw[g3];exact keep i l _ (.inr ⟨xss,l,bs,h1,h2,g3,.inl rfl⟩) (λk xs z=>by rw[h1]at z;cases z) g3
  constructor
  ·rintro(⟨xs,h1,h2⟩|⟨xss,l,bs,h1,h2,h3,h4⟩);·obtain⟨ys,h⟩:=(shp i).mp ⟨xs,h1⟩;exact .inl ⟨ys,h,h2⟩
   ·have h1':=(oth i (.n xss) (λ_ z=>nomatch z)).mp h1;exact .inr ⟨xss,l,bs,h1',h2,by rw[<-key xss l h1' h2];exact h3,h4⟩
  ·rintro(⟨xs,h1,h2⟩|⟨xss,l,bs,h1,h2,h3,h4⟩);·obtain⟨ys,h⟩:=(shp i).mpr ⟨xs,h1⟩;exact .inl ⟨ys,h,h2⟩
   ·exact .inr ⟨xss,l,bs,(oth i (.n xss) (λ_ z=>nomatch z)).mpr h1,h2,by rw[key xss l h1 h2];exact h3,h4⟩
 refine⟨⟨R'.sm,?_,λi x h=>?_,λi xs h=>?_,λi xss h=>?_,λi j a h1 h2=>R.fp i j a ((fs i a).mp h1) ((fs j a).mp h2)⟩,⟨sf,dom,λa vs h1 h2 n=>fr a vs h1 h2 λz=>n (sown a z),lst,λa o h n=>tmp a o h λz=>n (sown a z),shp,λa⟨i,h⟩=>.inl ⟨i,(fs i a).mp h⟩,λa m h1 h2 n=>fd a m h1 h2 λz=>n (sown a z)⟩,λa⟨i,h⟩=>⟨i,(fs i a).mp h⟩⟩;·unfold oO;rw[List.length_mapIdx];exact R.len
 ·obtain⟨v,g1,g2⟩:=R.dat i x ((oth i (.d x) (λ_ z=>nomatch z)).mp h);exact⟨v,g1,DA.mono sf g2⟩
 ·obtain⟨ys,h1⟩:=(shp i).mp ⟨xs,h⟩;obtain⟨l,vs,g1,g2,g3,g4⟩:=R.own i ys h1;rw[b_,h1]at h;simp only[Su,Ux]at h;match hp:pos i,h with
  |none,h=>
   cases h;have np:∀k xs,e[i]?=some (some (Sv.l xs))->pos i≠some k:=λk xs _ z=>by rw[hp]at z;cases z
   have fi:Fp σ e H i l:=.inl ⟨_,h1,g1⟩;exact⟨l,vs,g1,fr l vs g2 g3 (out i l fi np),keep i l _ fi np g3,g4.mono sf⟩|some k,h=>obtain⟨zs,c1⟩:=hsh i k ys h1 hp;change (ei'[k]?).join=_ at h;rw[c1]at h;cases h;obtain⟨l',vs',d1,d2,d3,d4⟩:=R'.own k _ c1;rw[hσ i k ys h1 hp,s.a i k ys h1 hp]at d1;exact⟨l',vs',d1,d2,d3,d4⟩
 ·have h1:=(oth i (.n xss) (λ_ z=>nomatch z)).mp h;obtain⟨l,bs,g1,g2,g3,g4,g5,g6,g7⟩:=R.nst i xss h1;have np:∀k xs,e[i]?=some (some (Sv.l xs))->pos i≠some k:=λk xs z=>by rw[h1]at z;cases z
  have fi:Fp σ e H i l:=.inr ⟨xss,l,bs,h1,g1,g3,.inl rfl⟩;refine⟨l,bs,g1,fr l _ g2 g3 (out i l fi np),keep i l _ fi np g3,g4,g5,g6,λk b ys q1 q2=>?_⟩;obtain⟨c1,us,c2,c3⟩:=g7 k b ys q1 q2;have fb:Fp σ e H i b:=.inr ⟨xss,l,bs,h1,g1,g3,.inr (QO q1)⟩;exact⟨fr b _ c1 c2 (out i b fb np),us,keep i b _ fb np c2,c3.mono sf⟩
end
def ci(e:En):List Rv->Option (List Sv)|[]=>some []|.d x::r=>(ci e r).map (.d x::·)|.l xs::r=>(ci e r).map (.d (.list xs)::·)|.s i::r=>match e[i]? with|some (some (.l xs))=>(ci e r).map (.l xs::·)|_=>none
def aM:List Rv->List Nat|[]=>[]|.s i::r=>i::aM r|.d _::r=>aM r|.l _::r=>aM r
def my(rs:List Rv)(i:Nat):Option Nat:=rs.findIdx? λr=>match r with|.s j=>j==i|_=>false
def noS:Rv->Prop|.s _=>False|_=>True
abbrev FM:=List Sv->Option (Rv×List Sv)
def iB(K:QU)(n:Nat)(m:FM):Sp:=λvs H Q _=>vs.length=n/\∃F as r as',aR K F H (vs.map some) (as.map some)/\KY (as.map some)/\m as=some (r,as')/\noS r/\∀F' H' v,dF (vs.map some) F H (as.map some) F' H' (as'.map some)->aR K F' H' (vs.map some) (as'.map some)->bG K (vs.map some) H F' H' (as'.map some) r v->Q v H'
def be:List Rv->List Sv->Bool|[],[]=>true|.s _::r,.l _::s=>be r s|.d _::r,_::s=>be r s|.l _::r,_::s=>be r s|_,_=>false
def xg:Rv->Bool|.s _=>false|_=>true
def dY:List Rv->List Sv->En->En|.s i::r,.l ys::s,e=>dY r s (e.set i (some (.l ys)))|.d _::r,_::s,e=>dY r s e|.l _::r,_::s,e=>dY r s e|_,_,e=>e
def cf(n:Nat)(m:FM)(fs:FA):FE:=λe=>(fs e).bind λp=>(ci p.2 p.1).bind λas=>(m as).bind λz=>if p.1.length=n/\(aM p.1).Nodup/\be p.1 z.2=true/\xg z.1=true then some (z.1,dY p.1 z.2 p.2) else none
theorem jY:∀{rs:List Rv}{as:List Sv},be rs as=true->∀(k i:Nat),rs[k]?=some (.s i)->∃ys,as[k]?=some (.l ys)
 |[],[],_,k,i,h=>by simp at h|.s j::r,.l ys::s,h,k,i,hk=>by cases k with|zero=>exact⟨ys,rfl⟩|succ k=>simpa using jY (rs:=r) (as:=s) (by simpa[be]using h) k i (by simpa using hk)
 |.d x::r,y::s,h,k,i,hk=>by cases k with|zero=>simp at hk|succ k=>simpa using jY (rs:=r) (as:=s) (by simpa[be]using h) k i (by simpa using hk)
 |.l x::r,y::s,h,k,i,hk=>by cases k with|zero=>simp at hk|succ k=>simpa using jY (rs:=r) (as:=s) (by simpa[be]using h) k i (by simpa using hk)
 |.s _::_,.d _::_,h,_,_,_=>by simp[be]at h|.s _::_,[],h,_,_,_=>by simp[be]at h|.d _::_,[],h,_,_,_=>by simp[be]at h|.l _::_,[],h,_,_,_=>by simp[be]at h
theorem oF{r0:Rv}{rs:List Rv}{i:Nat}:my (r0::rs) i=if (match r0 with|.s j=>j==i|_=>false)=true then some 0 else(my rs i).map (·+1):=by unfold my;rw[List.findIdx?_cons]
theorem oG{rs:List Rv}{i k:Nat}(h:my rs i=some k):rs[k]?=some (.s i):=by
 unfold my at h;rw[WQ]at h;obtain⟨hk,h1,_⟩:=h;rw[RS hk];split at h1;·rename_i heq;rw[heq];have:=eq_of_beq h1;rw[this]
 ·cases h1
theorem gN:∀{rs:List Rv}{i:Nat},i∈aM rs↔Rv.s i∈rs|[],i=>by simp[aM]|.s j::r,i=>by simp[aM,gN (rs:=r)]|.d x::r,i=>by simp[aM,gN (rs:=r)]|.l x::r,i=>by simp[aM,gN (rs:=r)]
theorem iA:∀{rs:List Rv}{i k j:Nat},(aM rs).Nodup->rs[k]?=some (.s i)->rs[j]?=some (.s i)->k=j
 |[],i,k,j,_,h,_=>by simp at h|.s m::r,i,k,j,hn,h1,h2=>by simp only[aM,Ue]at hn;cases k with
  |zero=>simp at h1;subst h1;cases j with|zero=>rfl|succ j=>exact absurd (gN.mpr (QO (by simpa using h2))) hn.1
  |succ k=>cases j with|zero=>simp at h2;subst h2;exact absurd (gN.mpr (QO (by simpa using h1))) hn.1|succ j=>have:=iA (rs:=r) (i:=i) (k:=k) (j:=j) hn.2 (by simpa using h1) (by simpa using h2);lia
 |.d x::r,i,k,j,hn,h1,h2=>by cases k with|zero=>simp at h1|succ k=>cases j with|zero=>simp at h2|succ j=>have:=iA (rs:=r) (i:=i) (k:=k) (j:=j) (by simpa[aM]using hn) (by simpa using h1) (by simpa using h2);lia
 |.l x::r,i,k,j,hn,h1,h2=>by cases k with|zero=>simp at h1|succ k=>cases j with|zero=>simp at h2|succ j=>have:=iA (rs:=r) (i:=i) (k:=k) (j:=j) (by simpa[aM]using hn) (by simpa using h1) (by simpa using h2);lia
theorem Dz{rs:List Rv}{i:Nat}(h:i∉aM rs):my rs i=none:=by unfold my;rw[Wj];intro r hr;cases r with|d x=>rfl|l x=>rfl|s j=>have:j≠i:=λz=>h (by rw[<-z];exact gN.mpr hr);simpa using this
theorem pS:∀{rs:List Rv}{as:List Sv}{e:En},(aM rs).Nodup->be rs as=true->(∀j∈aM rs,∃xs,e[j]?=some (some (.l xs)))->dY rs as e=oO (my rs) (as.map some) e
 |[],[],e,_,_,_=>by refine Ul λi=>?_;rw[b_];have:my [] i=none:=rfl;rw[this];simp only[dY];match e[i]? with|none=>rfl|some none=>rfl|some (some (.d x))=>rfl|some (some (.l x))=>rfl|some (some (.n x))=>rfl
 |.d x::r,y::s,e,hn,hl,hs=>by rw[show dY (.d x::r) (y::s) e=dY r s e from rfl,pS (by simpa[aM]using hn) (by simpa[be]using hl) (λj hj=>hs j (by simpa[aM]using hj))];refine Ul λi=>?_;rw[b_,b_,oF];cases my r i<;>simp|.l x::r,y::s,e,hn,hl,hs=>by rw[show dY (.l x::r) (y::s) e=dY r s e from rfl,pS (by simpa[aM]using hn) (by simpa[be]using hl) (λj hj=>hs j (by simpa[aM]using hj))];refine Ul λi=>?_;rw[b_,b_,oF];cases my r i<;>simp|.s k::r,.l ys::s,e,hn,hl,hs=>by
  simp only[aM,Ue]at hn;obtain⟨xs,hk⟩:=hs k (by simp[aM]);have hlt:k<e.length:=(QK hk).1;rw[show dY (.s k::r) (.l ys::s) e=dY r s (e.set k (some (.l ys))) from rfl,pS hn.2 (by simpa[be]using hl) (λj hj=>by have z:k≠j:=λz=>hn.1 (by rw[z];exact hj);rw[Ru z];exact hs j (by simp[aM,hj]))];refine Ul λi=>?_;rw[b_,b_,oF];by_cases z:k=i;·subst z;rw[RU hlt,hk,Dz hn.1];simp
  ·rw[Ru z];have:((match (Rv.s k) with|.s j=>j==i|_=>false)=true)=False:=by simp[z]
   simp only[this,if_false];cases my r i<;>simp|.s _::_,.d _::_,_,_,h,_=>by simp[be]at h|.s _::_,.n _::_,_,_,h,_=>by simp[be]at h|.s _::_,[],_,_,h,_=>by simp[be]at h|.d _::_,[],_,_,h,_=>by simp[be]at h|.l _::_,[],_,_,h,_=>by simp[be]at h|[],_::_,_,_,h,_=>by simp[be]at h
theorem gC{e:En}:∀{rs:List Rv}{as:List Sv},ci e rs=some as->∀j∈aM rs,∃xs,e[j]?=some (some (.l xs))|[],_,_,j,h=>by simp[aM]at h|.d x::rs,as,q,j,h=>by obtain⟨as',q1,rfl⟩:=QJ q;exact gC q1 j (by simpa[aM]using h)|.l x::rs,as,q,j,h=>by obtain⟨as',q1,rfl⟩:=QJ q;exact gC q1 j (by simpa[aM]using h)|.s k::rs,as,q,j,h=>by unfold ci at q;match he:e[k]?,q with
 |some (some (.l xs)),q=>
  obtain⟨as',q1,rfl⟩:=QJ q;simp only[aM,RC]at h;rcases h with rfl|h;·exact⟨xs,he⟩
  ·exact gC q1 j h
theorem mJ{e:En}:∀{rs:List Rv}{as:List Sv}{k i:Nat},ci e rs=some as->rs[k]?=some (.s i)->∃xs,as[k]?=some (.l xs)
 |[],_,k,i,_,h=>by simp at h|.d x::rs,as,k,i,q,h=>by obtain⟨as',q1,rfl⟩:=QJ q;cases k with|zero=>simp at h|succ k=>simpa using mJ (k:=k) (i:=i) q1 (by simpa using h)
 |.l x::rs,as,k,i,q,h=>by obtain⟨as',q1,rfl⟩:=QJ q;cases k with|zero=>simp at h|succ k=>simpa using mJ (k:=k) (i:=i) q1 (by simpa using h)
 |.s j::rs,as,k,i,q,h=>by unfold ci at q;match he:e[j]?,q with|some (some (.l xs)),q=>obtain⟨as',q1,rfl⟩:=QJ q;cases k with|zero=>exact⟨xs,rfl⟩|succ k=>simpa using mJ (k:=k) (i:=i) q1 (by simpa using h)
section
variable{X:Cx}{K:QU}{σ:L2.St}{H0 H:Hp}{e:En}
theorem pP:∀{rs:List Rv}{vs:List V}{as:List Sv}{F:Hp},aR K F H σ e->ce K σ H0 F H e rs vs->ci e rs=some as->∃F',aR K F' H σ e/\aw F F'/\(∀a,F a=none->H0 a≠none->F' a=none)/\vs.length=as.length/\rs.length=as.length/\(∀(k:Nat) (x:QR),as[k]?=some (.d x)->∃v,vs[k]?=some v/\DA K F' x v)/\∀(k:Nat) (xs:List QR),as[k]?=some (.l xs)->∃i,rs[k]?=some (.s i)/\e[i]?=some (some (.l xs))/\∃v,vs[k]?=some v/\σ[i]?=some (some v)
 |[],vs,as,F,R,h,q=>by cases q;have h':vs=[]:=h;subst h';exact⟨F,R,aw.refl _,λ_ h _=>h,rfl,rfl,λk x h=>by simp at h,λk x h=>by simp at h⟩|.d x::rs,_,as,F,R,h,q=>by
  obtain⟨v,ws,rfl,h1,h2⟩:=h;obtain⟨as',q1,rfl⟩:=QJ q;obtain⟨F',R',s',f',l1,l2,d',o'⟩:=pP R h2 q1;refine⟨F',R',s',f',by simp[l1],by simp[l2],λk y hk=>?_,λk ys hk=>?_⟩;·cases k with|zero=>simp at hk;subst hk;exact⟨v,rfl,DA.mono s' h1⟩|succ k=>simpa using d' k y (by simpa using hk)
  ·cases k with|zero=>simp at hk|succ k=>simpa using o' k ys (by simpa using hk)
 |.l xs::rs,_,as,F,R,h,q=>by
  obtain⟨v,ws,rfl,h1,h2⟩:=h;obtain⟨as',q1,rfl⟩:=QJ q;obtain⟨F',R',s',f',l1,l2,d',o'⟩:=pP R h2 q1;have key:∃F2,aR K F2 H σ e/\aw F' F2/\(∀a,F' a=none->H0 a≠none->F2 a=none)/\DA K F2 (.list xs) v:=by obtain⟨l,us,rfl,g1,g2,g3,g4,g5⟩:=h1;cases hl:F' l with|none=>have h1':bG K σ H0 F' H e (.l xs) (.ref l):=⟨l,us,rfl,g1,hl,g3,aI.mono s' g4,g5⟩;obtain⟨F2,R2,s2,d2,f2⟩:=h1'.frozen R';exact⟨F2,R2,s2,f2,d2⟩|some o=>have:=R'.sm _ _ hl;rw[g3]at this;cases this;exact⟨F',R',aw.refl _,λ_ h _=>h,cU.mpr ⟨l,us,rfl,.inl (.inl hl),aI.mono s' g4⟩⟩
  obtain⟨F2,R2,s2,f2,d2⟩:=key;refine⟨F2,R2,s'.trans s2,λa ha hn=>f2 a (f' a ha hn) hn,by simp[l1],by simp[l2],λk y hk=>?_,λk ys hk=>?_⟩;·cases k with|zero=>simp at hk;subst hk;exact⟨v,rfl,d2⟩|succ k=>obtain⟨u,c1,c2⟩:=d' k y (by simpa using hk);exact⟨u,by simpa using c1,DA.mono s2 c2⟩
  ·cases k with|zero=>simp at hk|succ k=>simpa using o' k ys (by simpa using hk)
 |.s i::rs,_,as,F,R,h,q=>by obtain⟨v,ws,rfl,h1,h2⟩:=h;unfold ci at q;match he:e[i]?,q with
  |some (some (.l xs)),q=>
   obtain⟨as',q1,rfl⟩:=QJ q;obtain⟨F',R',s',f',l1,l2,d',o'⟩:=pP R h2 q1;refine⟨F',R',s',f',by simp[l1],by simp[l2],λk y hk=>?_,λk ys hk=>?_⟩;·cases k with|zero=>simp at hk|succ k=>simpa using d' k y (by simpa using hk)
   ·cases k with|zero=>simp at hk;subst hk;exact⟨i,rfl,he,v,rfl,h1.1⟩|succ k=>simpa using o' k ys (by simpa using hk)
theorem gF{α:Type}{l:List α}{k:Nat}{x:α}:(l.map some)[k]?=some (some x)↔l[k]?=some x:=by rw[RK];cases l[k]?<;>simp
theorem bG.noS{σ':L2.St}{e':En}{F H:Hp}{r:Rv}{v:V}(h:bG K σ' H0 F H e' r v)(n:L2.noS r)(ho:∀a,bq σ e H a->H0 a≠none):bG K σ H0 F H e r v:=by cases r with|d x=>exact h|l xs=>obtain⟨l,vs,e1,h1,h2,h3,h4,_⟩:=h;exact⟨l,vs,e1,h1,h2,h3,h4,λz=>ho l z h1⟩|s i=>exact absurd n (by simp[L2.noS])
theorem jL:∀{rs:List Rv}{as:List Sv},ci e rs=some as->KY (as.map some)
 |[],_,q=>by cases q;intro i xss h;simp at h|.d x::rs,as,q=>by obtain⟨as',q1,rfl⟩:=QJ q;have ih:=jL q1;intro i xss h;cases i with|zero=>simp at h|succ i=>exact ih i xss (by simpa using h)
 |.l x::rs,as,q=>by obtain⟨as',q1,rfl⟩:=QJ q;have ih:=jL q1;intro i xss h;cases i with|zero=>simp at h|succ i=>exact ih i xss (by simpa using h)
 |.s j::rs,as,q=>by unfold ci at q;match he:e[j]?,q with|some (some (.l xs)),q=>obtain⟨as',q1,rfl⟩:=QJ q;have ih:=jL q1;intro i xss h;cases i with|zero=>simp at h|succ i=>exact ih i xss (by simpa using h)
theorem KJ{n:Nat}{m:FM}{fs:FA}{Q:VK}{E:XK}(h:fE K (cf n m fs) σ H Q):Ac (iB K n m) [] E (fA K fs) σ H Q:=by
 obtain⟨F,e,z,e',R,hf,q⟩:=h;unfold cf at hf;obtain⟨⟨rs,e1⟩,h1,hf⟩:=QI hf;obtain⟨as,h2,hf⟩:=QI hf;obtain⟨⟨r,as'⟩,h3,hf⟩:=QI hf;split at hf;case isFalse=>cases hf
 case isTrue hc=>
 obtain⟨c1,c2,c3,c4⟩:=hc;cases hf;refine⟨F,e,rs,e1,R,h1,λF1 H1 vs X1 R1 A1=>?_⟩;obtain⟨F2,R2,s2,f2,l1,l2,d2,o2⟩:=pP R1 A1 h2;have X2:=X1.frz s2 f2;rw[Sl];have hn:L2.noS r:=by cases r with|d x=>trivial|l x=>trivial|s i=>cases c4
 have nN:=jL h2;have RA:aR K F2 H1 (vs.map some) (as.map some):=by
  refine⟨R2.sm,by simp[l1],λk x hk=>?_,λk xs hk=>?_,λk xss hk=>absurd hk (nN k xss),λk j l f1 f2=>?_⟩;·obtain⟨v,g1,g2⟩:=d2 k x (gF.mp hk);exact⟨v,gF.mpr g1,g2⟩
  ·obtain⟨i,g1,g2,v,g3,g4⟩:=o2 k xs (gF.mp hk);obtain⟨l,us,k1,k2,k3,k4⟩:=R2.own i xs g2;rw[g4]at k1;cases k1;exact⟨l,us,gF.mpr g3,k2,k3,k4⟩
  ·obtain⟨xs,g1,g3⟩:=f1.resolve_right λ⟨xss,_,_,z,_⟩=>nN k xss z;obtain⟨ys,g2,g4⟩:=f2.resolve_right λ⟨xss,_,_,z,_⟩=>nN j xss z;obtain⟨i1,a1,a2,v1,a3,a4⟩:=o2 k xs (gF.mp g1);obtain⟨i2,b1,b2,v2,b3,b4⟩:=o2 j ys (gF.mp g2);have e1:=gF.mp g3;have e2:=gF.mp g4;rw[a3]at e1;cases e1;rw[b3]at e2;cases e2;have:i1=i2:=R2.inj i1 i2 xs ys l a2 b2 a4 b4;subst this;exact iA c2 a1 b1
 have sub:wj σ e1 (vs.map some) (as.map some) (my rs):=by
  refine⟨λi k xs g1 g2=>?_,λk ys g1=>?_⟩;·have g3:=oG g2;obtain⟨zs,hs⟩:=mJ h2 g3;obtain⟨i',a1,a2,v,a3,a4⟩:=o2 k zs hs;rw[g3]at a1;cases a1;rw[gF.mpr a3,a4]
  ·obtain⟨i,a1,a2,v,a3,a4⟩:=o2 k ys (gF.mp g1);refine⟨i,ys,a2,?_,by rw[gF.mpr a3,a4]⟩;cases hp:my rs i with|none=>unfold my at hp;rw[Wj]at hp;have:=hp _ (QO a1);simp at this|some j=>rw[iA c2 (oG hp) a1]
 refine⟨by rw[l1,<-l2];exact c1,F2,as,r,as',RA,nN,h3,hn,λF' H' v X3 R3 A3=>?_⟩;obtain⟨R4,X4,o4⟩:=sE R2 sub nN X3.sf X3.dom X3.fr X3.lst X3.tmp X3.fd R3 (λ_ _ _ _ _=>rfl) λi k xs g1 g2=>by obtain⟨ys,g3⟩:=jY c3 k i (oG g2);exact⟨ys,gF.mpr g3⟩
 have hb:=pS (e:=e1) c2 c3 (gC h2);rw[<-hb]at R4 X4 o4;exact q F' H' v (X2.trans X4) R4 ((A3.noS hn λa z=>R2.ownH a (o4 a z)).weak X2.dom)
theorem aY{x:Str}{st:Rh}{f:QQ}{fd:RJ}{ps:List Str}{k n:Nat}{m:FM}{a:QT}{es:List QT}{fs:FA}{p pos:Pos}(h:fW X.K X.mg x st f fd ps)(G:bg X.prog X.w X.K X.mg X.base gy k f fd ps (iB K n m))(hr:bE k X.A)(ha:PA X (a::es) (fA K fs))(hg:Gl X x)(hdb:(x==("__debug__":Str))=false)(he:Rg (a::es) X.env=(false,Rj a X.env)::Rg es X.env)(hpl:(RF pos (Rg es X.env)).any (·.1)=false):PE X (.Call (.Name x p) (a::es) [] pos) (fE K (cf n m fs)):=(Nk h G hr ha hg hdb he hpl).mono λ_ _ _ h=>KJ h
def wc:List Sv->En->Option (List Sv)
 |[],_=>some []|.d x::r,e=>(wc r e.tail).map (.d x::·)|.l _::r,e=>match e.head? with|some (some (.l ys))=>(wc r e.tail).map (.l ys::·)|_=>none
 |.n _::_,_=>none
def vh(n:Nat)(e:En):Rv->Option Rv|.s i=>if n<=i then match e[i]? with|some (some (.l xs))=>some (.l xs)|_=>none else none|r=>some r
def lZ(W:List Nat)(as:List Sv):Bool:=W.all λj=>match as[j]? with|some (.l _)=>false|_=>true
def jd(n k:Nat)(W:List Nat)(f:FS):FM:=λas=>if as.length=n/\lZ W as=true then(f (as.map some++Rk k none)).bind λfl=>match fl with|.rt r e=>(vh n e r).bind λr'=>(wc as e).map λas'=>(r',as')|.nx e=>(wc as e).map λas'=>(.d .none,as')|_=>none else none
theorem p9:∀{as as':List Sv}{e:En},wc as e=some as'->as'.length=as.length/\(∀(j:Nat) (x:QR),as'[j]?=some (.d x)↔as[j]?=some (.d x))/\(∀(j:Nat) (ys:List QR),as'[j]?=some (.l ys)->(∃xs,as[j]?=some (.l xs))/\e[j]?=some (some (.l ys)))/\∀(j:Nat) (xs:List QR),as[j]?=some (.l xs)->∃ys,as'[j]?=some (.l ys)
 |[],_,e,h=>by cases h;simp|.d x::r,_,e,h=>by
  obtain⟨s,h1,rfl⟩:=QJ h;obtain⟨g1,g2,g3,g4⟩:=p9 h1;refine⟨by simp[g1],λj y=>?_,λj ys hj=>?_,λj xs hj=>?_⟩;·cases j with|zero=>simp|succ j=>simpa using g2 j y
  ·cases j with|zero=>simp at hj|succ j=>obtain⟨c1,c2⟩:=g3 j ys (by simpa using hj);refine⟨by simpa using c1,?_⟩;rw[List.getElem?_tail]at c2;exact c2
  ·cases j with|zero=>simp at hj|succ j=>simpa using g4 j xs (by simpa using hj)
 |.l xs::r,_,e,h=>by unfold wc at h;match he:e.head?,h with
  |some (some (.l ys)),h=>
   obtain⟨s,h1,rfl⟩:=QJ h;obtain⟨g1,g2,g3,g4⟩:=p9 h1;refine⟨by simp[g1],λj y=>?_,λj zs hj=>?_,λj zs hj=>?_⟩;·cases j with|zero=>simp|succ j=>simpa using g2 j y
   ·cases j with|zero=>simp at hj;subst hj;exact⟨⟨xs,rfl⟩,by rw[List.head?_eq_getElem?]at he;exact he⟩|succ j=>obtain⟨c1,c2⟩:=g3 j zs (by simpa using hj);refine⟨by simpa using c1,?_⟩;rw[List.getElem?_tail]at c2;exact c2
   ·cases j with|zero=>exact⟨ys,rfl⟩|succ j=>simpa using g4 j zs (by simpa using hj)
 |.n x::r,_,e,h=>by simp[wc]at h
end
theorem eY{α:Type}{l:List (Option α)}{k i:Nat}{x:α}(h:(l++Rk k none)[i]?=some (some x)):l[i]?=some (some x):=by
 rw[List.getElem?_append]at h;split at h;·exact h
 ·rw[Wx]at h;split at h<;>simp at h
theorem fL{α:Type}{l:List (Option α)}{k i:Nat}{x:α}(h:l[i]?=some (some x)):(l++Rk k none)[i]?=some (some x):=by have hi:i<l.length:=(QK h).1;rw[SM hi];exact h
section
variable{K:QU}{F H:Hp}{σ:L2.St}{e:En}{k:Nat}
theorem vm{i:Nat}{a:QQ}:Fp (σ++Rk k none) (e++Rk k none) H i a↔Fp σ e H i a:=by
 constructor
 ·rintro(⟨xs,h1,h2⟩|⟨xss,l,bs,h1,h2,h3⟩);·exact .inl ⟨xs,eY h1,eY h2⟩
  ·exact .inr ⟨xss,l,bs,eY h1,eY h2,h3⟩
 ·rintro(⟨xs,h1,h2⟩|⟨xss,l,bs,h1,h2,h3⟩);·exact .inl ⟨xs,fL h1,fL h2⟩
  ·exact .inr ⟨xss,l,bs,fL h1,fL h2,h3⟩
theorem pW{a:QQ}:bq (σ++Rk k none) (e++Rk k none) H a↔bq σ e H a:=⟨λ⟨i,h⟩=>⟨i,vm.mp h⟩,λ⟨i,h⟩=>⟨i,vm.mpr h⟩⟩
theorem aR.pad(R:aR K F H σ e):aR K F H (σ++Rk k none) (e++Rk k none):=by
 refine⟨R.sm,by simp[R.len],λi x h=>?_,λi xs h=>?_,λi xss h=>?_,λi j a h1 h2=>R.fp i j a (vm.mp h1) (vm.mp h2)⟩;·obtain⟨v,g1,g2⟩:=R.dat i x (eY h);exact⟨v,fL g1,g2⟩
 ·obtain⟨l,vs,g1,g2⟩:=R.own i xs (eY h);exact⟨l,vs,fL g1,g2⟩
 ·obtain⟨l,bs,g1,g2⟩:=R.nst i xss (eY h);exact⟨l,bs,fL g1,g2⟩
end
theorem vZ:∀{as as':List Sv}{e:En},wc as e=some as'->KY (as'.map some)
 |[],_,e,h=>by cases h;intro i xss z;simp at z|.d x::r,_,e,h=>by obtain⟨s,h1,rfl⟩:=QJ h;have ih:=vZ h1;intro i xss z;cases i with|zero=>simp at z|succ i=>exact ih i xss (by simpa using z)
 |.l xs::r,_,e,h=>by unfold wc at h;match he:e.head?,h with|some (some (.l ys)),h=>obtain⟨s,h1,rfl⟩:=QJ h;have ih:=vZ h1;intro i xss z;cases i with|zero=>simp at z|succ i=>exact ih i xss (by simpa using z)
 |.n x::r,_,e,h=>by simp[wc]at h
theorem xf{W:List Nat}{as:List Sv}(h:lZ W as=true){j:Nat}{xs:List QR}(hj:as[j]?=some (.l xs)):j∉W:=λz=>by unfold lZ at h;have:=RV.mp h j z;rw[hj]at this;cases this
section
variable{P:QZ}{w:QW}{K:QU}{mg:Str->Option QP}{base:Re}
theorem fW.fn{x:Str}{st:Rh}{f:QQ}{fd:RJ}{N ps:List Str}{k n k0:Nat}{W:List Nat}{fb:FS}(h:fW K mg x st f fd ps)(S:aC N ps (am st))(hn:ps.length=n)(hN:N.length=n+k0)(hb:∀(cdv:QP) (A:Rf) (outer:List Env) (s:QS) (H:Hp) (E:XK),bE k (A.deeper (RB x (am st) ↑s f cdv))->kc (eL gy P w K mg base N x (am st) f cdv A outer s H E).nox (cn st) (fS K fb W)):bg P w K mg base gy (k+1) f fd ps (iB K n (jd n k0 W fb)):=by
 refine h.F.ok S (λvs H Q E q=>?_) λcdv A outer s H vs Q E hr hsp=>⟨_,hb cdv A outer s H E hr,?_⟩;·rw[hn];exact q.1
 ·obtain⟨hl,F,as,r,as',R,nN,hm,nr,q⟩:=hsp;unfold jd at hm;split at hm;case isFalse=>cases hm
  case isTrue hc=>
  obtain⟨la,nl⟩:=hc;obtain⟨fl,h1,hm⟩:=QI hm;have hst:eA N vs=vs.map some++Rk k0 none:=by unfold eA;rw[hN,hl];congr 2;lia
  rw[hst];have key:∀{as':List Sv}{e':En},wc as e'=some as'->∀F' H' σ',cP W (vs.map some++Rk k0 none) F H (as.map some++Rk k0 none) σ' F' H' e'->aR K F' H' σ' e'->dF (vs.map some) F H (as.map some) F' H' (as'.map some)/\aR K F' H' (vs.map some) (as'.map some)/\∀a,bq (vs.map some) (as'.map some) H' a->bq (vs.map some) (as.map some) H a:=by
   intro as' e' hu F' H' σ' X' R';obtain⟨u1,u2,u3,u4⟩:=p9 hu;have uN:=vZ hu;have ow:∀a,bq (vs.map some) (as'.map some) H' a->bq (vs.map some) (as.map some) H a:=by
    rintro a⟨j,⟨ys,c1,c2⟩|⟨xss,_,_,z,_⟩⟩;·obtain⟨⟨xs,c3⟩,_⟩:=u3 j ys (gF.mp c1);exact⟨j,.inl ⟨xs,gF.mpr c3,c2⟩⟩
    ·exact absurd z (uN j xss)
   have sg:∀(j:Nat) (xs:List QR),as[j]?=some (.l xs)->σ'[j]?=(vs.map some)[j]?:=λj xs hj=>by
    rw[X'.wr j (xf nl hj)];have hj2:j<(vs.map some).length:=by rw[Rq,hl,<-la];exact(QK hj).1
    rw[SM hj2]
   refine⟨⟨X'.sf,X'.dom,λa vs h1 h2 hn=>X'.fr a vs h1 h2 λz=>hn (pW.mp z),X'.lst,λa o ha hn=>X'.tmp a o ha λz=>hn (pW.mp z),λj=>?_,λa z=>.inl (ow a z),λa m h1 h2 hn=>X'.fd a m h1 h2 λz=>hn (pW.mp z)⟩,⟨R'.sm,?_,λj y hj=>?_,λj ys hj=>?_,λj xss hj=>absurd hj (uN j xss),λj i l f1 f2=>?_⟩,ow⟩
   ·constructor;·rintro⟨ys,hj⟩;obtain⟨⟨xs,c⟩,_⟩:=u3 j ys (gF.mp hj);exact⟨xs,gF.mpr c⟩
    ·rintro⟨xs,hj⟩;obtain⟨ys,c⟩:=u4 j xs (gF.mp hj);exact⟨ys,gF.mpr c⟩
   ·simp[u1,hl,la]
   ·obtain⟨v,c1,c2⟩:=R.dat j y (gF.mpr ((u2 j y).mp (gF.mp hj)));exact⟨v,c1,DA.mono X'.sf c2⟩
   ·obtain⟨⟨xs,c1⟩,c2⟩:=u3 j ys (gF.mp hj);obtain⟨l,us,d1,d2⟩:=R'.own j ys c2;exact⟨l,us,by rw[<-sg j xs c1];exact d1,d2⟩
   ·obtain⟨xs,g1,g3⟩:=f1.resolve_right λ⟨xss,_,_,z,_⟩=>uN j xss z;obtain⟨ys,g2,g4⟩:=f2.resolve_right λ⟨xss,_,_,z,_⟩=>uN i xss z;obtain⟨⟨zs,c1⟩,c2⟩:=u3 j xs (gF.mp g1);obtain⟨⟨ws,c3⟩,c4⟩:=u3 i ys (gF.mp g2);exact R'.inj j i xs ys l c2 c4 (by rw[sg j zs c1];exact g3) (by rw[sg i ws c3];exact g4)
  refine⟨F,as.map some++Rk k0 none,fl,R.pad,h1,?_⟩;cases fl with|bk e'=>cases hm|ct e'=>cases hm|nx e'=>obtain⟨as2,h2,hm⟩:=QJ hm;cases hm;intro F' H' σ' X' R';obtain⟨X2,R2,_⟩:=key h2 F' H' σ' X' R';exact q F' H' .non X2 R2 ((mU (K:=K) (F:=F')).mpr rfl)|rt r0 e'=>obtain⟨r1,h2,hm⟩:=QI hm;obtain⟨as2,h3,hm⟩:=QJ hm;cases hm;intro F' H' σ' v X' R' A';obtain⟨X2,R2,ow2⟩:=key h3 F' H' σ' X' R';have noo:∀l,H l=none->¬bq (vs.map some) (as'.map some) H' l:=λl hl z=>R.ownH l (ow2 l z) hl;refine q F' H' v X2 R2 ?_;cases r0 with|d y=>cases h2;exact A'|l ys=>cases h2;obtain⟨l,us,d0,d1,d2,d3,d4,_⟩:=A';exact⟨l,us,d0,d1,d2,d3,d4,noo l d1⟩|s i=>
   simp only[vh]at h2;split at h2;case isFalse=>cases h2
   case isTrue hi=>
   obtain⟨a1,xs,a2⟩:=A';rw[a2]at h2;cases h2;obtain⟨l,us,d1,d2,d3,d4⟩:=R'.own i _ a2;rw[a1]at d1;cases d1;suffices hl0:H l=none from⟨l,us,rfl,hl0,d2,d3,d4,noo l hl0⟩;rcases X'.own l ⟨i,.inl ⟨_,a2,a1⟩⟩with z|z
   ·obtain⟨j,zf⟩:=pW.mp z;obtain⟨ys,z1,z2⟩:=zf.resolve_right λ⟨xss,_,_,z,_⟩=>nN j xss z;have z1':=gF.mp z1;obtain⟨u1,u2,u3,u4⟩:=p9 h3;obtain⟨ws,w1⟩:=u4 j ys z1';obtain⟨_,w2⟩:=u3 j ws w1;have hj2:j<vs.length:=by rw[hl,<-la];exact(QK z1').1
    have e3:σ'[j]?=some (some (.ref l)):=by rw[X'.wr j (xf nl z1'),SM (by simpa using hj2)];exact z2
    have:=R'.inj i j _ ws l a2 w2 a1 e3;lia
   ·exact z
end
def Lv:Option Sv->Option Sv|some (.n _)=>none|s=>s
def mG(cp:List (Nat×Str))(nT:Nat)(e:En):En:=cp.map (λp=>Lv (e[p.1]?).join)++Rk nT none
def nk(cp:List (Nat×Str))(i:Nat):Option Nat:=cp.findIdx? λp=>p.1==i
def cS(g:FG)(ft:FT)(fe:FE):List QR->En->List QR->Option (List QR×En)|[],e,acc=>some (acc,e)|x::r,e,acc=>(g x e).bind λe1=>(ft e1).bind λb=>if b.1=true then(fe b.2).bind λv=>(mh v.1).bind λd=>if acc.length<1000000 then cS g ft fe r v.2 (acc++[d]) else none else cS g ft fe r b.2 acc
def kQ(cp:List (Nat×Str))(ei e:En):Bool:=cp.all λp=>!AR e[p.1]?||AR ei[(nk cp p.1).getD 0]?
def dk(cp:List (Nat×Str))(nT:Nat)(fi:FI)(g:FG)(ft:FT)(fe:FE):FE:=λe=>(fi e).bind λp=>if (p.2.1.all λq=>!(cp.any λc=>c.1==q.1))=true then(cS g ft fe p.1 (mG cp nT p.2.2) []).bind λz=>if kQ cp z.2 p.2.2=true then some (.l z.1,oO (nk cp) z.2 p.2.2) else none else none
section
variable{K:QU}{F H:Hp}{σ:L2.St}{e:En}{cp:List (Nat×Str)}{nT:Nat}
theorem dW{i k:Nat}(h:nk cp i=some k):∃s,cp[k]?=some (i,s):=by unfold nk at h;rw[WQ]at h;obtain⟨hk,h1,_⟩:=h;refine⟨cp[k].2,?_⟩;rw[RS hk];have:=eq_of_beq h1;rw[<-this]
theorem jW{k:Nat}{x:Sv}(h:(mG cp nT e)[k]?=some (some x)):∃i s,cp[k]?=some (i,s)/\e[i]?=some (some x):=by unfold mG at h;have h:=eY h;rw[RK]at h;obtain⟨p,h1,h2⟩:=QJ h;refine⟨p.1,p.2,h1,?_⟩;cases q:e[p.1]? with|none=>rw[q]at h2;cases h2|some y=>rw[q]at h2;match y,h2 with|some (.d z),h2=>exact congrArg some h2|some (.l z),h2=>exact congrArg some h2|some (.n z),h2=>cases h2|none,h2=>cases h2
theorem jX:KY (mG cp nT e):=by intro k xss h;unfold mG at h;have h:=eY h;rw[RK]at h;obtain⟨p,h1,h2⟩:=QJ h;match (e[p.1]?).join,h2 with|some (.d z),h2=>cases h2|some (.l z),h2=>cases h2|some (.n z),h2=>cases h2|none,h2=>cases h2
theorem p6{k i:Nat}{s:Str}{v:V}(h:cp[k]?=some (i,s))(hv:σ[i]?=some (some v)):(iM cp nT σ)[k]?=some (some v):=by unfold iM;refine fL ?_;rw[RK,h];simp[hv]
theorem nW{k i:Nat}{s:Str}{v:V}(h:cp[k]?=some (i,s))(hv:(iM cp nT σ)[k]?=some (some v)):σ[i]?=some (some v):=by unfold iM at hv;have hv:=eY hv;rw[RK,h]at hv;simp only[Su,Ux]at hv;cases q:σ[i]? with|none=>rw[q]at hv;cases hv|some y=>rw[q]at hv;exact congrArg some hv
theorem vf:∀{cp:List (Nat×Str)}{k j i:Nat}{s t:Str},(cp.map (·.1)).Nodup->cp[k]?=some (i,s)->cp[j]?=some (i,t)->k=j|[],k,j,i,s,t,_,h,_=>by simp at h|p::r,k,j,i,s,t,hn,h1,h2=>by simp only[Rn,Ue]at hn;cases k with
 |zero=>simp at h1;subst h1;cases j with|zero=>rfl|succ j=>have hm:(i,t)∈r:=QO (i:=j) (by simpa using h2);exact absurd (List.mem_map.mpr ⟨(i,t),hm,rfl⟩) hn.1
 |succ k=>cases j with|zero=>simp at h2;subst h2;have hm:(i,s)∈r:=QO (i:=k) (by simpa using h1);exact absurd (List.mem_map.mpr ⟨(i,s),hm,rfl⟩) hn.1|succ j=>have:=vf (cp:=r) (k:=k) (j:=j) hn.2 (by simpa using h1) (by simpa using h2);lia
theorem aR.inn(R:aR K F H σ e)(hn:(cp.map (·.1)).Nodup):aR K F H (iM cp nT σ) (mG cp nT e)/\wj σ e (iM cp nT σ) (mG cp nT e) (nk cp):=by
 refine⟨⟨R.sm,by simp[iM,mG],λk x h=>?_,λk xs h=>?_,λk xss h=>absurd h (jX k xss),λk j l f1 f2=>?_⟩,⟨λi k xs h1 h2=>?_,λk ys h=>?_⟩⟩;·obtain⟨i,s,h1,h2⟩:=jW h;obtain⟨v,g1,g2⟩:=R.dat i x h2;exact⟨v,p6 h1 g1,g2⟩
 ·obtain⟨i,s,h1,h2⟩:=jW h;obtain⟨l,vs,g1,g2⟩:=R.own i xs h2;exact⟨l,vs,p6 h1 g1,g2⟩
 ·obtain⟨xs,h1,h3⟩:=f1.resolve_right λ⟨xss,_,_,z,_⟩=>jX k xss z;obtain⟨ys,h2,h4⟩:=f2.resolve_right λ⟨xss,_,_,z,_⟩=>jX j xss z;obtain⟨i,s,a1,a2⟩:=jW h1;obtain⟨i',s',b1,b2⟩:=jW h2;have:i=i':=R.inj i i' xs ys l a2 b2 (nW a1 h3) (nW b1 h4);subst this;exact vf hn a1 b1
 ·obtain⟨s,g⟩:=dW h2;obtain⟨l,vs,g1,_⟩:=R.own i xs h1;rw[g1];exact p6 g g1
 ·obtain⟨i,s,h1,h2⟩:=jW h;obtain⟨l,vs,g1,_⟩:=R.own i ys h2;refine⟨i,ys,h2,?_,by rw[g1];exact p6 h1 g1⟩;cases hp:nk cp i with|none=>unfold nk at hp;rw[Wj]at hp;have:=hp _ (QO h1);simp at this|some j=>obtain⟨t,g⟩:=dW hp;rw[vf hn g h1]
theorem aR.putT(R:aR K F H σ e){l:QQ}{ws:List V}(h1:F l=none)(h2:¬bq σ e H l):aR K F (upd H l (.lst ws)) σ e/\∀a,bq σ e (upd H l (.lst ws)) a↔bq σ e H a:=R.keep (aw.refl F) (λb o q=>by
 have z:b≠l:=λz=>by rw[z,h1]at q;cases q
 rw[aq z];exact R.sm b o q) (λa⟨i,h⟩=>(R.fpAt h).1) λa o ha q=>by have z:a≠l:=λz=>h2 (by rw[<-z];exact ha);rw[aq z];exact q
theorem cP.putT{W:List Nat}{σ':L2.St}{F' H':Hp}{e':En}(x:cP W σ F H e σ' F' H' e'){l:QQ}{o:HO}(h:H l=none)(ho:∀a,bq σ' e' (upd H' l o) a↔bq σ' e' H' a):cP W σ F H e σ' F' (upd H' l o) e':=by
 refine⟨x.sf,λa q=>?_,x.fr,λa vs q=>?_,λa u q n=>?_,λa q=>x.own a ((ho a).mp q),x.wr,x.fd⟩
 ·by_cases z:a=l;·rw[z];exact h
  ·rw[aq z]at q;exact x.dom a q
 ·have z:a≠l:=λz=>by rw[z,h]at q;cases q
  rw[aq z];exact x.lst a vs q
 ·have z:a≠l:=λz=>by rw[z,h]at q;cases q
  rw[aq z];exact x.tmp a u q n
inductive CI (K:QU) (W:List Nat) (σ0:L2.St) (F1 H1:Hp) (e0:En) (l:QQ) (P:Hp->En->List QR->Prop) (σ':L2.St) (H':Hp):Prop|mk{F':Hp}{ei:En}{acc:List QR}{vs:List V}(R:aR K F' H' σ' ei) (X:cP W σ0 F1 H1 e0 σ' F' H' ei) (fl:F' l=none) (no:¬bq σ' ei H' l) (hl:H' l=some (.lst vs)) (da:aI K F' acc vs) (hc:P F' ei acc):CI K W σ0 F1 H1 e0 l P σ' H'
theorem xQ{Q:VK}{fi:FI}{g:FG}{W:List Nat}{ft:FT}{fe:FE}(hn:(cp.map (·.1)).Nodup)(hW:∀j∈W,cp.length<=j)(h:fE K (dk cp nT fi g ft fe) σ H Q):Ad cp nT (fI K fi) (fG K g W) (fT K ft) (fE K fe) σ H Q:=by
 obtain⟨F0,e0,z,e',R0,hf,q⟩:=h;unfold dk at hf;obtain⟨⟨items,own,e1⟩,h1,hf⟩:=QI hf;dsimp only at hf;split at hf;case isFalse=>cases hf
 case isTrue hO=>
 obtain⟨⟨out,eo⟩,h2,hf⟩:=QI hf;dsimp only at hf;split at hf;case isFalse=>cases hf
 case isTrue hB=>
 cases hf;refine⟨⟨F0,e0,items,own,e1,R0,h1,λJ F1 H1 X1 R1 kp ok=>?_⟩⟩;intro l hl;obtain⟨Ri,sub⟩:=R1.inn (nT:=nT) hn;have hFl:F1 l=none:=R1.freeF hl;let Iv:Nat->L2.St->Hp->Prop:=λi=>CI K W (iM cp nT σ) F1 H1 (mG cp nT e1) l λ_ ei acc=>cS g ft fe (items.drop i) ei acc=some (out,eo);have notown:∀p∈own,∀a,σ[p.1]?=some (some (.ref a))->¬bq (iM cp nT σ) (mG cp nT e1) H1 a:=by rintro p hp a ha⟨k,zf⟩;obtain⟨xs,c1,c2⟩:=zf.resolve_right λ⟨xss,_,_,z,_⟩=>jX k xss z;obtain⟨i,s,d1,d2⟩:=jW c1;have e2:=nW d1 c2;have:p.1=i:=R1.inj p.1 i p.2 xs a (kp p hp) d2 ha e2;have hh:=RV.mp hO p hp;simp only[Vy,List.any_eq_false,beq_iff_eq]at hh;exact hh (i,s) (QO d1) this.symm
 refine⟨λi m σ' H'=>m=items.length-i/\i<=items.length/\Iv i σ' H',⟨items.length,by simp,SY _,.mk (Ri.putT hFl (λz=>(Ri.ownH l z) hl)).1 (cP.refl.putT hl (Ri.putT hFl (λz=>(Ri.ownH l z) hl)).2) hFl (λz=>(Ri.ownH l (((Ri.putT hFl (λz=>(Ri.ownH l z) hl)).2 l).mp z)) hl) ao aI.nil h2⟩,?_⟩;rintro i m σ' H'⟨rfl,hi,⟨R',X',fl,no,hl',da,hc⟩⟩;rename_i F' ei acc vs;have held:x4 K σ F' H' own:=λp hp=>by obtain⟨a,us,c1,c2,c3,c4⟩:=R1.own p.1 p.2 (kp p hp);exact⟨a,us,c1,X'.tmp a _ c3 (notown p hp a c1),c4.mono X'.sf⟩
 obtain⟨go,stop,yld⟩:=ok F' H' X'.sf R'.sm held;by_cases hlt:i<items.length
 ·have hd:items.drop i=items[i]::items.drop (i+1):=Uu hlt;rw[hd]at hc;unfold cS at hc;obtain⟨e2,c2,hc⟩:=QI hc;obtain⟨⟨b,e3⟩,c3,hc⟩:=QI hc;refine .inr ⟨go i hlt,Iv (i+1),λσ2 H2 r=>⟨items.length-(i+1),by lia,rfl,hlt,r⟩,λx H2 hy=>?_⟩;obtain⟨F2,sH,sF2,sm2,fz,hx⟩:=yld i items[i] x H2 (RS hlt) hy;obtain⟨R2,X2⟩:=R'.step sH sF2 sm2 fz;refine⟨F2,ei,items[i],e2,R2,hx,c2,λσ3 X3 R3=>⟨F2,e2,b,e3,R3,c3,λF4 H4 X4 R4=>?_⟩⟩;have hlH2:H2 l=some (.lst vs):=sH _ _ hl';have no2:¬bq σ' ei H2 l:=λz=>by
   rcases X2.ow l z with z|z;·exact no z
   ·rw[hl']at z;cases z
  have no3:¬bq σ3 e2 H2 l:=λz=>by
   rcases X3.own l z with z|z;·exact no2 z
   ·rw[hlH2]at z;cases z
  have fl2:F2 l=none:=fz l fl (by rw[hl'];simp);have hlH4:H4 l=some (.lst vs):=X4.tmp l _ hlH2 no3;have fl4:F4 l=none:=X4.fr l vs fl2 hlH2 no3;have no4:¬bq σ3 e3 H4 l:=λz=>by
   rcases X4.ow l z with z|z;·exact no3 z
   ·rw[hlH2]at z;cases z
  have E4:cP W (iM cp nT σ) F1 H1 (mG cp nT e1) σ3 F4 H4 e3:=((X'.trans X2.s).trans X3).trans X4.s;cases b with|false=>rw[if_neg ↥1]at hc;exact AS (.mk R4 E4 fl4 no4 hlH4 (da.mono (sF2.trans X4.sf)) hc)|true=>
   rw[if_pos rfl]at hc;obtain⟨⟨r,e5⟩,c5,hc⟩:=QI hc;obtain⟨d,c6,hc⟩:=QI hc;split at hc;case isFalse=>cases hc
   case isTrue hlen=>
   refine AU ⟨F4,e3,r,e5,R4,c5,λF5 H5 v X5 R5 A5=>?_⟩;have hlH5:H5 l=some (.lst vs):=X5.tmp l _ hlH4 no4;have fl5:F5 l=none:=X5.fr l vs fl4 hlH4 no4;have no5:¬bq σ3 e5 H5 l:=λz=>by
    rcases X5.ow l z with z|z;·exact no4 z
    ·rw[hlH4]at z;cases z
   obtain⟨F6,R6,s6,d6,f6⟩:=ce.frozen R5 (rs:=[r]) (vs:=[v]) ⟨v,[],rfl,A5,rfl⟩ (lH c6);have fl6:F6 l=none:=f6 l fl5 (by rw[hlH4];simp);have X6:=X5.frz s6 f6;have ll:=da.len;have sl:Rm=16777216:=Se;have dv:DA K F6 d v:=by simp only[aI]at d6;obtain⟨v',r',e',hv,_⟩:=d6;cases e';exact hv
   obtain⟨R7,o7⟩:=R6.putT (ws:=vs++[v]) fl6 no5;exact⟨vs,hlH5,by lia,.mk R7 ((E4.trans X6.s).putT hl o7) fl6 (λz=>no5 ((o7 l).mp z)) ao ((da.mono (sF2.trans (X4.sf.trans (X5.sf.trans s6)))).append (aI.one dv)) hc⟩
 ·have hd:items.drop i=[]:=Vx ↥0;rw[hd]at hc;cases hc;refine .inl ⟨stop i ↥0,?_⟩;obtain⟨R9,X9,o9⟩:=sE R1 sub jX X'.sf X'.dom X'.fr X'.lst X'.tmp X'.fd R' (λi k xs g1 g2=>X'.wr k λz=>by obtain⟨s,g⟩:=dW g2;have:=(QK g).1;have:=hW k z;lia) λi k xs g1 g2=>by obtain⟨s,g⟩:=dW g2;unfold kQ at hB;have hb:=RV.mp hB _ (QO g);simp only[g1,g2,Vt,AR,UI,Wd]at hb;exact zE.mp hb
  exact q F' H' (.ref l) (X1.trans X9) R9 ⟨l,vs,rfl,X1.dom l hl,fl,hl',da,λz=>R1.ownH l (o9 l z) hl⟩
end
section
variable{X:Cx}{K:QU}{a b:QT}{es:List QT}{fa fb:FE}{fs:FA}{pos p p2 p3:Pos}{lo hi:Option QT}
def AM:En->Rv->Option Rv:=λ_ x=>(bo x).map λi=>.d (.int (-i))
theorem LD:KS K (rU λi=>.int (-i)) AM:=by intro σ H0 F H e x z v Q R A hg q;obtain⟨i,h5,h4⟩:=QJ hg;cases h4;exact⟨i,bO A h5,q F H _ (dF.refl _ _ _ _) R oH⟩
theorem Ih(ha:PE X a (fE K fa)):PE X (.UnaryOp .USub a pos) (fE K (s_ AM fa)):=LX KH LD ha
theorem cL(hK:X.K=K)(ha:PE X a (fE K fa))(hb:PE X b (fE K fb)):PE X (.BinOp a .Add b pos) (fE K (aB cZ fa fb)):=nB (hK▸Gj) K4 ha hb
theorem xt(ha:PE X a (fE K fa))(hb:PE X b (fE K fb)):PE X (.BinOp a .Sub b pos) (fE K (aB kW fa fb)):=nB JK Mh ha hb
theorem nA(hK:X.K=K)(ha:PE X a (fE K fa))(hb:PE X b (fE K fb)):PE X (.BinOp a .Mult b pos) (fE K (aB ja fa fb)):=nB (hK▸Gq) LB ha hb
theorem j5(ha:PE X a (fE K fa))(hb:PE X b (fE K fb)):PE X (.BinOp a .FloorDiv b pos) (fE K (aB fF fa fb)):=nB Dg IT ha hb
theorem a_(ha:PE X a (fE K fa))(hb:PE X b (fE K fb)):PE X (.BinOp a .Mod b pos) (fE K (aB a' fa fb)):=nB Gp LA ha hb
theorem DV(ha:PE X a (fE K fa))(hb:PE X b (fE K fb)):PE X (.BinOp a .Pow b pos) (fE K (aB vt fa fb)):=nB JG LO ha hb
theorem LS(ha:PE X a (fE K fa))(hb:PE X b (fE K fb)):PE X (.BinOp a .LShift b pos) (fE K (aB FL fa fb)):=nB JI Mb ha hb
theorem cc(hK:X.K=K)(ha:PE X a (fE K fa))(hb:PE X b (fE K fb))(hs:pN b):PE X (.Subscript a b pos) (fE K (aB eE fa fb)):=LW (hK▸Nc) Nf ha hb hs
theorem iV{fl fh:FO}(hK:X.K=K)(he:PE X a (fE K fa))(hl:PO X lo (fO K fl))(hh:PO X hi (fO K fh)):PE X (.Subscript a (.Slice lo hi none p2) pos) (fE K (wd fa fl fh)):=by subst hK;exact D2 he hl hh
structure lR (X:Cx) (K:QU) (op:CmpOp) (g:En->Rv->Rv->Option Rv):Prop where ex:∃r,eG X (RI op) r/\fY K r g
theorem Fq:lR X K .Lt HX:=⟨_,LI,Nj⟩
theorem Fo:lR X K .LtE IU:=⟨_,LH,Nh⟩
theorem ya:lR X K .Gt CD:=⟨_,LG,M9⟩
theorem Av:lR X K .GtE FH:=⟨_,LF,M8⟩
theorem sQ{k:Nat}(hK:X.K=K)(hr:bE k X.A):lR X K .Eq (cN false):=⟨_,hK▸JC hr,HS⟩
theorem Aw{k:Nat}(hK:X.K=K)(hr:bE k X.A):lR X K .NotEq (cN true):=⟨_,hK▸JF hr,HS⟩
theorem Ca{k:Nat}(hK:X.K=K)(hr:bE k X.A):lR X K .In (AK false):=⟨_,hK▸JD hr,Lj⟩
theorem Fs{k:Nat}(hK:X.K=K)(hr:bE k X.A):lR X K .NotIn (AK true):=⟨_,hK▸Bj hr,Lj⟩
theorem rQ{op:CmpOp}{g:En->Rv->Rv->Option Rv}(h:lR X K op g)(ha:PE X a (fE K fa))(hb:PE X b (fE K fb))(hm:Ur op b=false):PE X (.Compare a [op] [b] pos) (fE K (aB g fa fb)):=by obtain⟨r,h1,h2⟩:=h.ex;exact J4 h1 h2 ha hb hm
theorem aV{op:CmpOp}{g:En->Rv->Rv->Option Rv}(h:lR X K op g)(ha:PE X a (fE K fa))(hb:PE X b (fE K fb))(hm:Ur op b=false):PT X (.Compare a [op] [b] pos) (fT K (aF (aB g fa fb))):=by obtain⟨r,h1,h2⟩:=h.ex;exact J_ h1 h2 ha hb hm
theorem GX{op op':CmpOp}{g g':En->Rv->Rv->Option Rv}{c:QT}{fc:FE}(h:lR X K op g)(h':lR X K op' g')(ha:PE X a (fE K fa))(hb:PE X b (fE K fb))(hc:PE X c (fE K fc))(hm:lastMarks [op,op'] [b,c]=false):PE X (.Compare a [op,op'] [b,c] pos) (fE K (iD g g' fa fb fc)):=by obtain⟨r,h1,h2⟩:=h.ex;obtain⟨r',h3,h4⟩:=h'.ex;exact DZ h1 h2 h3 h4 ha hb hc hm
theorem DX{op op':CmpOp}{g g':En->Rv->Rv->Option Rv}{c:QT}{fc:FE}(h:lR X K op g)(h':lR X K op' g')(ha:PE X a (fE K fa))(hb:PE X b (fE K fb))(hc:PE X c (fE K fc))(hm:lastMarks [op,op'] [b,c]=false):PT X (.Compare a [op,op'] [b,c] pos) (fT K (aF (iD g g' fa fb fc))):=by obtain⟨r,h1,h2⟩:=h.ex;obtain⟨r',h3,h4⟩:=h'.ex;exact D8 h1 h2 h3 h4 ha hb hc hm
structure qb (X:Cx) (K:QU) (x:Str) (g:En->List Rv->Option Rv):Prop where ex:(∃id r,du X (.builtin id) r/\eD K r g/\SC x=some (.builtin id))\/∃T r,du X (.type T) r/\eD K r g/\SC x=some (.type T)
theorem aP{x:Str}{g:En->List Rv->Option Rv}(h:qb X K x g)(hg:Gl X x)(hm:X.mg x=none)(ha:PA X (a::es) (fA K fs))(hn:x≠"__name__")(hdb:(x==("__debug__":Str))=false)(he:Rg (a::es) X.env=(false,Rj a X.env)::Rg es X.env)(hpl:(RF pos (Rg es X.env)).any (·.1)=false):PE X (.Call (.Name x p) (a::es) [] pos) (fE K (aH g fs)):=by
 rcases h.ex with⟨id,r,h1,h2,h3⟩|⟨T,r,h1,h2,h3⟩;·exact DY h1 h2 hg hm h3 ha hn hdb he hpl
 ·exact Bp h1 h2 hg hm h3 ha hn hdb he hpl
theorem b_len(hK:X.K=K):qb X K "len" (g1 ee):=⟨.inl ⟨_,_,hK▸mR,Lu,PySem.boot_len⟩⟩
theorem b_abs:qb X K "abs" (g1 AJ):=⟨.inl ⟨_,_,Cd,K3,PyProof.Rows.boot_abs⟩⟩
theorem b_min(hc:X.calm=true):qb X K "min" (g2 CF):=⟨.inl ⟨_,_,AB hc,Lz,PyProof.Rows.boot_min⟩⟩
theorem b_max(hc:X.calm=true):qb X K "max" (g2 AL):=⟨.inl ⟨_,_,Az hc,Ly,PyProof.Rows.boot_max⟩⟩
theorem b_int:qb X K "int" (g1 wO):=⟨.inr ⟨_,_,Ax,Lk,PyProof.Rows.boot_int⟩⟩
theorem b_tuple(hK:X.K=K):qb X K "tuple" (g1 bI):=⟨.inr ⟨_,_,hK▸sR,Ht,WH⟩⟩
theorem b_list(hK:X.K=K):qb X K "list" (g1 HW):=⟨.inr ⟨_,_,hK▸uW,Jk,PyProof.Rows.boot_list⟩⟩
theorem b_all{k:Nat}(hK:X.K=K)(hr:bE k X.A):qb X K "all" (g1 (qY wM)):=⟨.inl ⟨_,_,Ce hr hK,K5,B9⟩⟩
theorem b_sorted(hK:X.K=K):qb X K "sorted" (g1 eP):=⟨.inl ⟨_,_,hK▸yd,Hf,PyProof.Rows.boot_sorted⟩⟩
theorem b_repr{k:Nat}(hK:X.K=K)(hr:bE k X.A):qb X K "repr" (g1 o5):=⟨.inl ⟨_,_,hK▸yc hr,Ki,PyProof.Rows.boot_repr⟩⟩
def i5(fs:FA):FE:=λe=>(fs e).bind λp=>match p.1 with|[r]=>(bo r).bind λj=>if 0<=j/\j<=100000 then some (.l ((iL j.toNat).map .int),p.2) else none|_=>none
theorem ph(hc:X.calm=true)(hgl:Gl X "list")(hml:X.mg "list"=none)(hg:Gl X "range")(hm:X.mg "range"=none)(ha:PA X [a] (fA K fs))(hs:Rg [a] X.env=[(false,Rj a X.env)])(he:Rg [.Call (.Name "range" p2) [a] [] p3] X.env=[(false,Rj (.Call (.Name "range" p2) [a] [] p3) X.env)]):PE X (.Call (.Name "list" p) [.Call (.Name "range" p2) [a] [] p3] [] pos) (fE K (i5 fs)):=(vM hc hgl hml hg hm ha hs he).mono λσ H Q h=>by obtain⟨F,e,z,e',R,hf,q⟩:=h;unfold i5 at hf;obtain⟨⟨rs,e1⟩,h1,hf⟩:=QI hf;match rs,h1,hf with
 |[r],h1,hf=>
 obtain⟨j,h2,hf⟩:=QI hf;split at hf;case isFalse=>cases hf
 case isTrue hj=>cases hf;refine⟨F,e,_,e1,R,h1,λF1 H1 vs X1 R1 A1=>?_⟩;obtain⟨v,rfl,A2⟩:=nI A1;refine⟨j,by rw[bO A2 h2],hj.1,hj.2,λt ht=>?_⟩;obtain⟨R3,X3,hF,no⟩:=R1.newL (vs:=(iL j.toNat).map V.int) ht;exact q _ _ _ (X1.trans X3) R3 ⟨t,_,rfl,X1.dom _ ht,hF,ao,aI.ints.mpr rfl,no⟩
abbrev eF:FT:=λe=>some (true,e)
theorem uS.mono{ifs:List QT}{t t':TT}(h:uS X ifs t)(m:∀σ H Q,t' σ H Q->t σ H Q):uS X ifs t':=λpins s σ H Q I q=>h pins s σ H Q I (m σ H Q q)
theorem nF:uS X [] (fT K eF):=GP.mono λσ H Q h=>by obtain⟨F,e,b,e',R,hf,q⟩:=h;cases hf;exact q F H (dF.refl _ _ _ _) R
theorem pZ{c:QT}{ft:FT}(h:PT X c (fT K ft)):uS X [c] (fT K ft):=GQ h
variable{o:QT}{fo:FE}{apos cpos:Pos}
theorem cA(hK:X.K=K)(ho:PE X o (fE K fo))(ha:PA X (a::es) (fA K fs))(hbase:TJ o "append" X.env (Rj o X.env)=Rj o X.env)(hfew:((RF cpos (Rg (a::es) X.env)).all (λx=>!x.1)&&(backToKw cpos (UE [] X.env)).all (λx=>x.1.isSome)&&decide ((a::es).length+([]:List Sw).length+(if ([]:List Sw).isEmpty then 0 else 1)<30))=true)(hline:(apos.endLine==cpos.line)=true)(hs:Rg (a::es) X.env=(false,Rj a X.env)::Rg es X.env)(hplain:(RF cpos (Rg es X.env)).any (·.1)=false):PE X (.Call (.Attribute o "append" apos) (a::es) [] cpos) (fE K (bz bi fo fs)):=by subst hK;exact Ij Wz PySem.F.type_list_append lL B0 ho ha hbase hfew hline hs hplain
theorem vO(hK:X.K=K)(ho:PE X o (fE K fo))(ha:PA X (a::es) (fA K fs))(hbase:TJ o "pop" X.env (Rj o X.env)=Rj o X.env)(hfew:((RF cpos (Rg (a::es) X.env)).all (λx=>!x.1)&&(backToKw cpos (UE [] X.env)).all (λx=>x.1.isSome)&&decide ((a::es).length+([]:List Sw).length+(if ([]:List Sw).isEmpty then 0 else 1)<30))=true)(hline:(apos.endLine==cpos.line)=true)(hs:Rg (a::es) X.env=(false,Rj a X.env)::Rg es X.env)(hplain:(RF cpos (Rg es X.env)).any (·.1)=false):PE X (.Call (.Attribute o "pop" apos) (a::es) [] cpos) (fE K (bz eS fo fs)):=by subst hK;exact Ij VR PySem.F.type_list_pop C4 GK ho ha hbase hfew hline hs hplain
theorem LR(hK:X.K=K)(ho:PE X o (fE K fo))(hbase:TJ o "pop" X.env (Rj o X.env)=Rj o X.env)(hline:(apos.endLine==cpos.line)=true):PE X (.Call (.Attribute o "pop" apos) [] [] cpos) (fE K (bz m9 fo ai)):=by subst hK;exact J3 VR PySem.F.type_list_pop Jo LN ho hbase hline
end
theorem yX{K:QU}{H:Hp}{a:QQ}{ns:List Int}{m:FM}{as':List Sv}{Q:VK}{E:XK}(hS:i6 K H a (ns.map V.int))(hm:m [.d (.list (ns.map .int))]=some (.d (.bool true),as'))(q:∀H',Q (.bl true) H'):iB K 1 m [.ref a] H Q E:=by
 refine⟨rfl,H,[.d (.list (ns.map .int))],_,as',?_,?_,hm,trivial,λF' H' v X' R' A'=>?_⟩
 ·refine⟨aw.refl _,rfl,λi x h=>?_,λi xs h=>?_,λi xss h=>?_,λi j l f1 _=>?_⟩;·match i,h with|0,h=>simp at h;subst h;exact⟨.ref a,rfl,cU.mpr ⟨a,_,rfl,hS,aI.ints.mpr rfl⟩⟩|i+1,h=>simp at h
  ·match i,h with|0,h=>simp at h|i+1,h=>simp at h
  ·match i,h with|0,h=>simp at h|i+1,h=>simp at h
  ·rcases f1 with⟨_,h,_⟩|⟨_,_,_,h,_⟩;·match i,h with|0,h=>simp at h|i+1,h=>simp at h
   ·match i,h with|0,h=>simp at h|i+1,h=>simp at h
 ·intro i xss h;match i,h with|0,h=>simp at h|i+1,h=>simp at h
 ·rw[dH.mp (show DA K F' (.bool true) v from A')];exact q H'
section
variable{K:QU}{σ:L2.St}{H0 F H F' H':Hp}{e e':En}
theorem aR.putN(R:aR K F H σ e){i:Nat}{xss yss:List (List QR)}{l:QQ}{bs:List QQ}{H':Hp}(hi:e[i]?=some (some (.n xss)))(hs:σ[i]?=some (some (.ref l)))(hF:F l=none)(hl:H' l=some (.lst (bs.map V.ref)))(hlen:bs.length=yss.length)(hnd:bs.Nodup)(hnl:l∉bs)(hin:∀(k:Nat) (b:QQ) (ys:List QR),bs[k]?=some b->yss[k]?=some ys->F b=none/\∃us,H' b=some (.lst us)/\aI K F ys us)(hbs:∀b∈bs,Fp σ e H i b\/¬bq σ e H b)(hdom:∀a,H' a=none->H a=none)(hst:∀a o,H a=some o->a≠l->a∉bs->H' a=some o)(hlst:∀a vs,H a=some (.lst vs)->∃vs',H' a=some (.lst vs')):aR K F H' σ (e.set i (some (.n yss)))/\(∀a,bq σ (e.set i (some (.n yss))) H' a->bq σ e H a\/a∈bs)/\∀j:Nat,(∃xs,(e.set i (some (Sv.n yss)))[j]?=some (some (.l xs)))↔(∃xs,e[j]?=some (some (.l xs))):=by
 have hlt:i<e.length:=(QK hi).1;have gi:(e.set i (some (Sv.n yss)))[i]?=some (some (.n yss)):=RU hlt;obtain⟨l0,bs0,a1,a2,a3,_⟩:=R.nst i xss hi;rw[hs]at a1;cases a1;have fl:Fp σ e H i l:=.inr ⟨xss,l,bs0,hi,hs,a3,.inl rfl⟩;have own:∀j a,j≠i->Fp σ e H j a->a≠l/\a∉bs:=λj a hj hq=>by
  refine⟨λz=>hj (R.fp j i a hq (by rw[z];exact fl)),λz=>?_⟩;rcases hbs a z with h|h;·exact hj (R.fp j i a hq h)
  ·exact h ⟨j,hq⟩
 have fpi:∀a,Fp σ (e.set i (some (.n yss))) H' i a->a=l\/a∈bs:=λa q=>by
  rcases q with⟨zs,q,_⟩|⟨zss,l',bs',q,q2,q3,q4⟩;·rw[gi]at q;cases q
  ·rw[hs]at q2;cases q2;rw[hl]at q3;have e1:bs=bs':=List.map_inj_right (λ_ _ z=>V.ref.inj z)|>.mp (HO.lst.inj (RG q3));subst e1;exact q4
 obtain⟨R',fs⟩:=R.upd1 (F':=F) (H':=H') (e':=e.set i (some (.n yss))) i (by rw[Sy];exact R.len) (λ_ _=>rfl) (λj hj=>Ru (Rz hj)) (aw.refl F) (λb o q=>by
  have z1:b≠l:=λz=>by rw[z,hF]at q;cases q
  have z2:b∉bs:=λz=>by
   obtain⟨k,hk⟩:=Wg z;have hk2:k<yss.length:=by rw[<-hlen];exact(QK hk).1
   rw[(hin k b yss[k] hk (RS hk2)).1]at q;cases q
  exact hst b o (R.sm b o q) z1 z2) (λj a _ q=>(R.fpAt q).1) (λj a o hj q ha=>let⟨z1,z2⟩:=own j a hj q;hst a o ha z1 z2) (λx q=>by rw[gi]at q;cases q) (λzs q=>by rw[gi]at q;cases q) (λzss q=>by rw[gi]at q;cases q;exact⟨l,bs,hs,hF,hl,hlen,hnd,hnl,hin⟩) (λa j hj q q2=>by obtain⟨z1,z2⟩:=own j a hj q2;exact(fpi a q).elim z1 z2);refine⟨R',λa⟨j,q⟩=>?_,λj=>?_⟩
 ·by_cases z:j=i
  ·subst z;rcases fpi a q with z|z;·exact .inl ⟨j,by rw[z];exact fl⟩
   ·exact .inr z
  ·exact .inl ⟨j,(fs j a z).mp q⟩
 ·by_cases z:j=i;·subst z;rw[gi,hi];simp
  ·rw[Ru (Rz z)]
theorem aR.frzN(R:aR K F H σ e){i:Nat}{xss:List (List QR)}(hi:e[i]?=some (some (.n xss))):∃F' v,σ[i]?=some (some v)/\DA K F' (.list (xss.map .list)) v/\aR K F' H σ (e.set i (some (.d (.list (xss.map .list)))))/\dF σ F H e F' H (e.set i (some (.d (.list (xss.map .list))))):=by
 obtain⟨l,bs,a1,a2,a3,a4,a5,a6,a7⟩:=R.nst i xss hi;have hlt:i<e.length:=(QK hi).1;have inF:∀a,a=l\/a∈bs->Fp σ e H i a:=λa h=>.inr ⟨xss,l,bs,hi,a1,a3,h⟩;let F':Hp:=λa=>if a=l\/a∈bs then H a else F a;have pos:∀a,(a=l\/a∈bs)->F' a=H a:=λa h=>if_pos h;have neg:∀a,¬(a=l\/a∈bs)->F' a=F a:=λa h=>if_neg h;have sF:aw F F':=λb o q=>by
  have z:¬(b=l\/b∈bs):=λz=>by rw[(R.fpAt (inF b z)).1]at q;cases q
  rw[neg b z];exact q
 have sm:aw F' H:=λb o q=>by
  by_cases z:b=l\/b∈bs;·rw[pos b z]at q;exact q
  ·rw[neg b z]at q;exact R.sm b o q
 have dd:∀(cs:List QQ) (yss:List (List QR)),cs.length=yss.length->(∀(k:Nat) (b:QQ) (ys:List QR),cs[k]?=some b->yss[k]?=some ys->b∈bs/\∃us,H b=some (.lst us)/\aI K F ys us)->aI K F' (yss.map .list) (cs.map V.ref):=by intro cs;induction cs with
  |nil=>intro yss h _;cases yss with|nil=>exact aI.nil|cons _ _=>simp at h
  |cons c cs ih=>intro yss h hh;cases yss with|nil=>simp at h|cons ys yss=>obtain⟨c1,us,c2,c3⟩:=hh 0 c ys rfl rfl;refine aI.cons (cU.mpr ⟨c,us,rfl,.inl (.inl ?_),c3.mono sF⟩) (ih yss (by simpa using h) λk b zs q1 q2=>hh (k+1) b zs (by simpa using q1) (by simpa using q2));rw[pos c (.inr c1)];exact c2
 have da:DA K F' (.list (xss.map .list)) (.ref l):=cU.mpr ⟨l,_,rfl,.inl (.inl (by rw[pos l (.inl rfl)];exact a3)),dd bs xss a4 λk b ys q1 q2=>by obtain⟨_,us,c2,c3⟩:=a7 k b ys q1 q2;exact⟨QO q1,us,c2,c3⟩⟩;have gi:(e.set i (some (Sv.d (.list (xss.map .list)))))[i]?=some (some (.d (.list (xss.map .list)))):=RU hlt;have nofp:∀a,¬Fp σ (e.set i (some (.d (.list (xss.map .list))))) H i a:=λa q=>by
  rcases q with⟨zs,q,_⟩|⟨xss,_,_,q,_⟩;·rw[gi]at q;cases q
  ·rw[gi]at q;cases q
 obtain⟨R',fs⟩:=R.upd1 (F':=F') (H':=H) (e':=e.set i (some (.d (.list (xss.map .list))))) i (by rw[Sy];exact R.len) (λ_ _=>rfl) (λj hj=>Ru (Rz hj)) sF sm (λj a hj q=>by rw[neg a λz=>hj (R.fp j i a q (inF a z))];exact(R.fpAt q).1) (λj a o _ _ ha=>ha) (λx q=>by rw[gi]at q;cases q;exact⟨_,a1,da⟩) (λzs q=>by rw[gi]at q;cases q) (λzss q=>by rw[gi]at q;cases q) (λa j hj q=>absurd q (nofp a));refine⟨F',.ref l,a1,da,R',⟨sF,λ_ h=>h,λa vs h1 h2 h3=>?_,λa vs h=>⟨vs,h⟩,λ_ _ h _=>h,λj=>?_,λa⟨j,q⟩=>?_,λa m h1 h2 h3=>by rw[neg a λz=>h3 ⟨i,inF a z⟩];exact h1⟩⟩;·rw[neg a λz=>h3 ⟨i,inF a z⟩];exact h1
 ·by_cases z:j=i;·subst z;rw[gi,hi];simp
  ·rw[Ru (Rz z)]
 ·by_cases z:j=i;·subst z;exact absurd q (nofp a)
  ·exact .inl ⟨j,(fs j a z).mp q⟩
theorem aR.setN(R:aR K F H σ e)(i:Nat){l:QQ}(h1:F l=none)(h2:H l=some (.lst []))(h4:¬bq σ e H l):aR K F H (σ.set i (some (.ref l))) (e.set i (some (.n [])))/\∀a,bq (σ.set i (some (.ref l))) (e.set i (some (.n []))) H a->bq σ e H a\/a=l:=by
 have gi:∀s,(e.set i (some (Sv.n [])))[i]?=some (some s)->s=.n []/\i<e.length:=λs q=>by
  have hlt:i<e.length:=by have:=(QK q).1;simpa using this
  rw[RU hlt]at q;exact⟨(RG (RG q)).symm,hlt⟩
 have onefp:∀a,Fp (σ.set i (some (.ref l))) (e.set i (some (.n []))) H i a->a=l:=λa q=>by
  rcases q with⟨zs,q,q2⟩|⟨xss,l',bs,q,q2,q3,q4⟩;·cases (gi _ q).1
  ·obtain⟨_,hlt⟩:=gi _ q;rw[RU (by rw[R.len];exact hlt)]at q2;cases q2;rw[h2]at q3;have:bs=[]:=by cases bs with|nil=>rfl|cons _ _=>have z:=HO.lst.inj (RG q3);simp at z
   subst this;exact q4.elim id λz=>by cases z
 obtain⟨R',fs⟩:=R.upd1 (F':=F) (H':=H) (σ':=σ.set i (some (.ref l))) (e':=e.set i (some (.n []))) i (by rw[Sy,Sy];exact R.len) (λj hj=>Ru (Rz hj)) (λj hj=>Ru (Rz hj)) (aw.refl F) R.sm (λj a _ q=>(R.fpAt q).1) (λj a o _ _ ha=>ha) (λy q=>by cases (gi _ q).1) (λzs q=>by cases (gi _ q).1) (λzss q=>by obtain⟨z,hlt⟩:=gi _ q;cases z;exact⟨l,[],RU (by rw[R.len];exact hlt),h1,h2,rfl,List.nodup_nil,by simp,λk b ys q=>by simp at q⟩) (λa j hj q q2=>h4 ⟨j,by rw[onefp a q]at q2;exact q2⟩);refine⟨R',λa⟨j,q⟩=>?_⟩;by_cases z:j=i;·subst z;exact .inr (onefp a q)
 ·exact .inl ⟨j,(fs j a z).mp q⟩
end
def gj(e:En)(i:Nat):Option (List (List QR)):=match e[i]? with|some (some (.n xss))=>some xss|_=>none
theorem gP{e:En}{i:Nat}{xss:List (List QR)}(h:gj e i=some xss):e[i]?=some (some (.n xss)):=by
 unfold gj at h;split at h;·rename_i heq;cases h;exact heq
 ·cases h
section
variable{X:Cx}{K:QU}{a b:QT}{es:List QT}{fa fb:FE}{fs:FA}{pos p p2 p3 pos':Pos}{x:Str}{i:Nat}
def Eu(i:Nat):FS:=λe=>some (.nx (e.set i (some (.n []))))
theorem G2(hN:X.N.Nodup)(hi:X.N[i]?=some x)(hx:HI X.env.scope x)(hs:SV (.List [] p) (some (.Name x pos')) pos.line X.env=pure false)(hf:X.fn x=true\/X.env.scope.names.lookup x=some .local):PS X (.Assign [.Name x pos'] (.List [] p) pos) (fS K (Eu i) [i]):=(rP hN hi hx (Do io) hs hf).mono λD σ H h=>by
 obtain⟨F,e,fl,R,hf,q⟩:=h;cases hf;refine⟨SY _,λl hl=>?_⟩;obtain⟨R1,X1,f1,n1⟩:=R.newL (vs:=[]) hl;obtain⟨R2,o2⟩:=R1.setN i f1 ao n1;refine q F _ _ ⟨X1.sf,X1.dom,X1.fr,X1.lst,X1.tmp,λa h=>?_,λj n=>Ru (λz=>n (by simp[z])),X1.fd⟩ R2;rcases o2 a h with z|z;·exact X1.ow a z
 ·exact .inr (by rw[z];exact hl)
def Ak(i:Nat):FE:=λe=>(gj e i).map λxss=>(.d (.int xss.length),e)
theorem J1(hK:X.K=K)(hN:X.N[i]?=some x)(hv:BX X.env.scope x)(hd:(x==("__debug__":Str))=false)(hcd:(x==("__classdict__":Str))=false)(hg:Gl X "len")(hm:X.mg "len"=none)(hst:Vg (.Name x p2)=false)(he:Rg [.Name x p2] X.env=(false,Rj (.Name x p2) X.env)::Rg [] X.env)(hpl:(RF pos (Rg [] X.env)).any (·.1)=false):PE X (.Call (.Name "len" p) [.Name x p2] [] pos) (fE K (Ak i)):=(lb (Ay hK) hg hm PySem.boot_len (Gw (eW hN hv hd hcd) io hst) ⋯ ⋯ he hpl).mono λσ H Q h=>by obtain⟨F,e,z,e',R,hf,q⟩:=h;unfold Ak at hf;obtain⟨xss,h1,hf⟩:=QJ hf;cases hf;obtain⟨l,bs,a1,a2,a3,a4,_⟩:=R.nst i xss (gP h1);refine⟨_,a1,l,_,rfl,.inl (.inl (.inl a3)),?_⟩;rw[Rq,a4];exact q F H _ (dF.refl _ _ _ _) R oH
def Aj(i:Nat)(fa:FE):FE:=λe=>(gj e i).bind λ_=>(fa e).bind λp=>match p.1 with|.l ys=>(gj p.2 i).bind λxss=>if xss.length<1000000 then some (.d .none,p.2.set i (some (.n (xss++[ys])))) else none|_=>none
theorem J0{apos cpos:Pos}(hK:X.K=K)(hN:X.N[i]?=some x)(hv:BX X.env.scope x)(hd:(x==("__debug__":Str))=false)(hcd:(x==("__classdict__":Str))=false)(ha:PE X a (fE K fa))(hst:Vg a=false)(hbase:TJ (.Name x p) "append" X.env (Rj (.Name x p) X.env)=Rj (.Name x p) X.env)(hfew:((RF cpos (Rg [a] X.env)).all (λx=>!x.1)&&(backToKw cpos (UE [] X.env)).all (λx=>x.1.isSome)&&decide ([a].length+([]:List Sw).length+(if ([]:List Sw).isEmpty then 0 else 1)<30))=true)(hline:(apos.endLine==cpos.line)=true)(hs:Rg [a] X.env=(false,Rj a X.env)::Rg [] X.env)(hplain:(RF cpos (Rg [] X.env)).any (·.1)=false):PE X (.Call (.Attribute (.Name x p) "append" apos) [a] [] cpos) (fE K (Aj i fa)):=by subst hK;refine(Dk Wi Wz PySem.F.type_list_append lL (eW hN hv hd hcd) (Gw ha io hst) hbase hfew hline hs hplain).mono λσ H Q h=>?_;obtain⟨F,e,z,e',R,hf,q⟩:=h;unfold Aj at hf;obtain⟨xss0,h0,hf⟩:=QI hf;obtain⟨⟨r,e1⟩,h1,hf⟩:=QI hf;match r,h1,hf with
 |.l ys,h1,hf=>
 obtain⟨xss,h2,hf⟩:=QI hf;split at hf;case isFalse=>cases hf
 case isTrue hlen=>
 cases hf;obtain⟨l,bs0,a1,_,a3,_⟩:=R.nst i xss0 (gP h0);refine⟨_,a1,.inl ⟨rfl,_,.inl (.inl a3)⟩,F,e,_,e1,R,h1,λF1 H1 v X1 R1 A1=>?_⟩;obtain⟨t,us,rfl,t1,t2,t3,t4,t5⟩:=A1;have h2':=gP h2;obtain⟨l',bs,c1,c2,c3,c4,c5,c6,c7⟩:=R1.nst i xss h2';rw[a1]at c1;cases c1;have fi:∀z,z=l\/z∈bs->Fp σ e1 H1 i z:=λz h=>.inr ⟨xss,l,bs,h2',a1,c3,h⟩;have tl:t≠l:=λz=>t5 ⟨i,fi t (.inl z)⟩;have tb:t∉bs:=λz=>t5 ⟨i,fi t (.inr z)⟩;have sl:Rm=16777216:=Se;refine⟨l,_,_,rfl,rfl,c3,by rw[Rq,c4];lia,?_⟩;have em:bs.map V.ref++[V.ref t]=(bs++[t]).map V.ref:=by simp
 rw[em];obtain⟨R2,o2,s2⟩:=R1.putN (yss:=xss++[ys]) (bs:=bs++[t]) (H':=upd H1 l (.lst ((bs++[t]).map V.ref))) h2' a1 c2 ao (by simp[c4]) (by rw[Wk];exact⟨c5,by simp,λx hx y hy=>by simp at hy;subst hy;exactλz=>tb (z▸hx)⟩) (by simp[c6,Rz tl]) (λk b zs q1 q2=>by
  rw[List.getElem?_append]at q1 q2;rw[c4]at q1;by_cases hk:k<xss.length;·rw[if_pos hk]at q1 q2;obtain⟨d1,us',d2,d3⟩:=c7 k b zs q1 q2;have zb:b≠l:=λz=>c6 (z▸QO q1);exact⟨d1,us',by rw[aq zb];exact d2,d3⟩
  ·rw[if_neg hk]at q1 q2;have hk0:k-xss.length=0:=by have:=(QK q1).1;simp at this;lia
   rw[hk0]at q1 q2;simp at q1 q2;subst q1 q2;exact⟨t2,us,by rw[aq tl];exact t3,t4⟩) (λb hb=>by
   rcases QL hb with hb|hb;·exact .inl (fi b (.inr hb))
   ·simp at hb;subst hb;exact .inr t5) (λz q=>by
   by_cases e0:z=l;·rw[e0,ao]at q;cases q
   ·rw[aq e0]at q;exact q) (λz o q n1 _=>by rw[aq n1];exact q) (λz vs q=>by
   by_cases e0:z=l;·rw[e0];exact⟨_,ao⟩
   ·rw[aq e0];exact⟨vs,q⟩);refine q F1 _ .non ⟨X1.sf,λz q=>X1.dom z ?_,X1.fr,λz vs h=>?_,λz o h n=>?_,λj=>(s2 j).trans (X1.shp j),λz h=>?_,X1.fd⟩ R2 ((mU (K:=X.K) (F:=F1)).mpr rfl)
 ·by_cases e0:z=l;·rw[e0,ao]at q;cases q
  ·rw[aq e0]at q;exact q
 ·obtain⟨vs',h'⟩:=X1.lst z vs h;by_cases e0:z=l;·rw[e0];exact⟨_,ao⟩
  ·rw[aq e0];exact⟨vs',h'⟩
 ·have e0:z≠l:=λe0=>by
   rcases X1.ow z ⟨i,fi z (.inl e0)⟩with w|w;·exact n w
   ·rw[h]at w;cases w
  rw[aq e0];exact X1.tmp z o h n
 ·rcases o2 z h with w|w;·exact X1.ow z w
  ·rcases QL w with w|w;·exact X1.ow z ⟨i,fi z (.inr w)⟩
   ·simp at w;subst w;exact .inr t1
def Qt(X:Cx)(K:QU)(a:QT)(f:En->Option Int):Prop:=∃t:TE,PE X a t/\∀σ F H e i (Q:VK),aR K F H σ e->f e=some i->Q (.int i) H->t σ H Q
def Ba(i:Nat):En->Option Int:=λe=>match e[i]? with|some (some (.d (.int k)))=>some k|_=>none
theorem J7(i:Nat)(hN:X.N[i]?=some x)(hv:BX X.env.scope x)(hd:(x==("__debug__":Str))=false)(hcd:(x==("__classdict__":Str))=false):Qt X K (.Name x pos) (Ba i):=⟨_,eW hN hv hd hcd,λσ F H e k Q R hf q=>by
 unfold Ba at hf;split at hf;·rename_i heq;cases hf;obtain⟨v,h1,h2⟩:=R.dat i _ heq;exact⟨v,h1,by rw[bc.mp h2];exact q⟩
 ·cases hf⟩
def nC(k:Int):En->Option Int:=λ_=>some k
def uu(i:Nat)(fv fp:FE)(fq:En->Option Int):FS:=λe=>(fv e).bind λr=>(mh r.1).bind λd=>(gj r.2 i).bind λ_=>(fp r.2).bind λp=>(bo p.1).bind λk=>(gj p.2 i).bind λxss=>(yk xss.length k).bind λkn=>(xss[kn]?).bind λys=>(fq p.2).bind λj=>(yk ys.length j).map λjn=>.nx (p.2.set i (some (.n (xss.set kn (ys.set jn d)))))
theorem G3{c pq:QT}{fv fp:FE}{fq:En->Option Int}{ps ps2:Pos}(hK:X.K=K)(he:PE X c (fE K fv))(hN:X.N[i]?=some x)(hv:BX X.env.scope x)(hd:(x==("__debug__":Str))=false)(hcd:(x==("__classdict__":Str))=false)(hp:PE X a (fE K fp))(hpl:pN a)(hq:Qt X K pq fq)(ha:∀v,SE (.Subscript (.Subscript (.Name x p) a ps2) pq ps) X.env v=(do
  let ov<-Ti [v] (Rj (.Subscript (.Name x p) a ps2) X.env)let iv<-Ti [v,ov] (Rj pq X.env)TC ps
  Ti [v,ov,iv] (setItem ov iv v)release [v,ov,iv] []))(hs:US [.Subscript (.Subscript (.Name x p) a ps2) pq ps] c pos.line X.env=pure false)(hw:UT [.Subscript (.Subscript (.Name x p) a ps2) pq ps] c X.env=pure none)(h1:(SL [.Subscript (.Subscript (.Name x p) a ps2) pq ps] X.env).map (·.2)=[SE (.Subscript (.Subscript (.Name x p) a ps2) pq ps) X.env]):PS X (.Assign [.Subscript (.Subscript (.Name x p) a ps2) pq ps] c pos) (fS K (uu i fv fp fq) []):=by
 obtain⟨tq,q1,q2⟩:=hq;refine(yO he (Dt (Ic (CS hK) (eW hN hv hd hcd) hp hpl) q1 xH ha) hs hw h1).mono λD σ H h=>?_;obtain⟨F,e,fl,R,hf,q⟩:=h;unfold uu at hf;obtain⟨⟨r,e1⟩,g1,hf⟩:=QI hf;obtain⟨d,g2,hf⟩:=QI hf;obtain⟨xs0,g3,hf⟩:=QI hf;obtain⟨⟨rp,e2⟩,g4,hf⟩:=QI hf;obtain⟨k,g5,hf⟩:=QI hf;obtain⟨xss,g6,hf⟩:=QI hf;obtain⟨kn,g7,hf⟩:=QI hf;obtain⟨ys,g8,hf⟩:=QI hf;obtain⟨j,g9,hf⟩:=QI hf;obtain⟨jn,g10,hf⟩:=QJ hf;cases hf;refine⟨F,e,r,e1,R,g1,λF1 H1 v X1 R1 A1=>?_⟩;obtain⟨l,bs0,a1,_⟩:=R1.nst i xs0 (gP g3);refine⟨_,a1,F1,e1,rp,e2,R1,g4,λF2 H2 w X2 R2 A2=>?_⟩;have X12:=X1.trans X2;obtain⟨F3,R3,s3,d3,f3⟩:=ce.frozen R2 (rs:=[r]) (vs:=[v]) ⟨v,[],rfl,A1.ext X2,rfl⟩ (lH g2);have X13:=X12.frz s3 f3;have g6':=gP g6;obtain⟨l',bs,c1,c2,c3,c4,c5,c6,c7⟩:=R3.nst i xss g6';rw[a1]at c1;cases c1;obtain⟨b,hb⟩:∃b,bs[kn]?=some b:=⟨bs[kn]'(by rw[c4];exact(QK g8).1),RS _⟩;obtain⟨b1,us,b2,b3⟩:=c7 kn b ys hb g8;have fi:∀z,z=l\/z∈bs->Fp σ e2 H2 i z:=λz h=>.inr ⟨xss,l,bs,g6',a1,c3,h⟩;have bm:b∈bs:=QO hb;have bl:b≠l:=λz=>c6 (z▸bm);refine⟨l,_,k,.ref b,rfl,bO A2 g5,.inl (.inl c3),?_,q2 σ F3 H2 e2 j _ R3 g9 ?_⟩;·unfold atI;rw[Rq,c4,g7];show(bs.map V.ref)[kn]?=_;rw[RK,hb];rfl
 refine⟨b,us,j,jn,rfl,rfl,b2,by rw[<-b3.len];exact g10,?_⟩;have dv:DA K F3 d v:=by simp only[aI]at d3;obtain⟨v',r',e',hv,_⟩:=d3;cases e';exact hv
 obtain⟨R4,o4,s4⟩:=R3.putN (yss:=xss.set kn (ys.set jn d)) (bs:=bs) (H':=upd H2 b (.lst (us.set jn v))) g6' a1 c2 (by rw[aq (Rz bl)];exact c3) (by simp[c4]) c5 c6 (λm z zs z1 z2=>by
  by_cases em:m=kn;·subst em;rw[hb]at z1;cases z1;rw[RU (by exact(QK g8).1)]at z2;cases z2;exact⟨b1,_,ao,b3.set dv jn⟩
  ·rw[Ru (Rz em)]at z2;obtain⟨d1,us',d2,d3⟩:=c7 m z zs z1 z2;have zb:z≠b:=λez=>by subst ez;exact em ((List.getElem?_inj (QK z1).1 c5).mp (z1.trans hb.symm))
   exact⟨d1,us',by rw[aq zb];exact d2,d3⟩) (λz hz=>.inl (fi z (.inr hz))) (λz q=>by
   by_cases e0:z=b;·rw[e0,ao]at q;cases q
   ·rw[aq e0]at q;exact q) (λz o q _ n2=>by have e0:z≠b:=λe0=>n2 (by rw[e0];exact bm);rw[aq e0];exact q) (λz vs q=>by
   by_cases e0:z=b;·rw[e0];exact⟨_,ao⟩
   ·rw[aq e0];exact⟨vs,q⟩);refine q F3 _ σ ⟨X13.sf,λz q=>X13.dom z ?_,X13.fr,λz vs h=>?_,λz o h n=>?_,λz h=>?_,λ_ _=>rfl,X13.fd⟩ R4
 ·by_cases e0:z=b;·rw[e0,ao]at q;cases q
  ·rw[aq e0]at q;exact q
 ·obtain⟨vs',h'⟩:=X13.lst z vs h;by_cases e0:z=b;·rw[e0];exact⟨_,ao⟩
  ·rw[aq e0];exact⟨vs',h'⟩
 ·have e0:z≠b:=λe0=>by
   rcases X13.ow z ⟨i,fi z (.inr (by rw[e0];exact bm))⟩with w|w;·exact n w
   ·rw[h]at w;cases w
  rw[aq e0];exact X13.tmp z o h n
 ·rcases o4 z h with w|w;·exact X13.ow z w
  ·exact X13.ow z ⟨i,fi z (.inr w)⟩
def CM(i:Nat):FI:=λe=>(gj e i).map λxss=>(xss.map .list,[],e.set i (some (.d (.list (xss.map .list)))))
theorem GZ{tg:QT}(hK:X.K=K)(hN:X.N[i]?=some x)(hv:BX X.env.scope x)(hd:(x==("__debug__":Str))=false)(hcd:(x==("__classdict__":Str))=false):PI X tg (.Name x pos) (fI K (CM i)):=(xo (tg:=tg) hK (eW hN hv hd hcd)).mono λσ H R hh=>by obtain⟨F,e,items,own,e',R0,hf,q⟩:=hh;unfold CM at hf;obtain⟨xss,h1,hf⟩:=QJ hf;cases hf;obtain⟨F',v,c1,c2,R1,X1⟩:=R0.frzN (gP h1);obtain⟨l,vs,rfl,d1,d2⟩:=cU.mp c2;exact⟨_,c1,l,rfl,⟨vs,R1.sm.seq d1⟩,q _ F' H X1 R1 (λ_ h=>by cases h) (t_ (.lst d1 d2))⟩
def Hx(fo fa:FE):FE:=λe=>(fo e).bind λo=>(fa o.2).bind λp=>match p.1 with|.l ys=>(oM p.2 o.1).bind λs=>if s.2.length+ys.length<=1000000 then some (.d .none,p.2.set s.1 (some (.l (s.2++ys)))) else none|_=>none
theorem DU{o:QT}{fo:FE}{apos cpos:Pos}(hK:X.K=K)(ho:PE X o (fE K fo))(ha:PE X a (fE K fa))(hst:Vg a=false)(hbase:TJ o "extend" X.env (Rj o X.env)=Rj o X.env)(hfew:((RF cpos (Rg [a] X.env)).all (λx=>!x.1)&&(backToKw cpos (UE [] X.env)).all (λx=>x.1.isSome)&&decide ([a].length+([]:List Sw).length+(if ([]:List Sw).isEmpty then 0 else 1)<30))=true)(hline:(apos.endLine==cpos.line)=true)(hs:Rg [a] X.env=(false,Rj a X.env)::Rg [] X.env)(hplain:(RF cpos (Rg [] X.env)).any (·.1)=false):PE X (.Call (.Attribute o "extend" apos) [a] [] cpos) (fE K (Hx fo fa)):=by subst hK;refine(Dk Wi PySem.F.slot_list_extend PySem.F.type_list_extend A9 ho (Gw ha io hst) hbase hfew hline hs hplain).mono λσ H Q h=>?_;obtain⟨F,e,z,e',R,hf,q⟩:=h;unfold Hx at hf;obtain⟨⟨ro,e1⟩,h1,hf⟩:=QI hf;obtain⟨⟨r,e2⟩,h2,hf⟩:=QI hf;match r,h2,hf with
 |.l ys,h2,hf=>
 obtain⟨⟨n,xs⟩,h3,hf⟩:=QI hf;split at hf;case isFalse=>cases hf
 case isTrue hlen=>cases hf;obtain⟨z3,h3'⟩:=uC h3;dsimp only at z3 h3';subst z3;refine⟨F,e,_,e1,R,h1,λF1 H1 v X1 R1 A1=>?_⟩;obtain⟨s1,zs,s2⟩:=A1;obtain⟨l,vs,c1,c2,c3,c4⟩:=R1.own n zs s2;rw[s1]at c1;cases c1;refine⟨.inl ⟨rfl,vs,.inl (.inl c3)⟩,F1,e1,_,e2,R1,h2,λF2 H2 w X2 R2 A2=>?_⟩;obtain⟨t,us,rfl,t1,t2,t3,t4,t5⟩:=A2;obtain⟨l',vs',d1,d2,d3,d4⟩:=R2.own n xs h3';rw[s1]at d1;cases d1;have l1:=d4.len;have l2:=t4.len;have sl:Rm=16777216:=Se;dsimp only at hlen;refine⟨l,t,vs',us,rfl,rfl,d3,t3,by lia,?_⟩;obtain⟨R3,X3⟩:=R2.putL h3' s1 (d4.append t4);exact q _ _ _ ((X1.trans X2).trans X3) R3 ((mU (K:=X.K) (F:=F2)).mpr rfl)
end
theorem mj{C:Int->Int->Bool}{f:Int->Int->QR}{e:En}{i j:Int}(h:C i j=true):gI C f e (.d (.int i)) (.d (.int j))=some (.d (f i j)):=by simp[gI,bo,h]
theorem fD{e:En}{i j:Int}:cZ e (.d (.int i)) (.d (.int j))=some (.d (.int (i+j))):=rfl
theorem dP{e:En}{i j:Int}:kW e (.d (.int i)) (.d (.int j))=some (.d (.int (i-j))):=rfl
theorem qW{e:En}{i j:Int}(h:oy i j=true):ja e (.d (.int i)) (.d (.int j))=some (.d (.int (i*j))):=by unfold ja E7 qV;rw[mj h];rfl
theorem C5{i j:Int}(h1:-(2^64)<i)(h2:i<2^64):oy i j=true:=by
 have:j8 i=true:=by unfold j8;rw[decide_eq_true h1,decide_eq_true h2];rfl
 unfold oy;rw[this];simp
theorem vG{i j:Int}(h1:-(2^64)<j)(h2:j<2^64):oy i j=true:=by
 have:j8 j=true:=by unfold j8;rw[decide_eq_true h1,decide_eq_true h2];rfl
 unfold oy;rw[this];simp
theorem aO{e:En}{i j:Int}(h:0<j):a' e (.d (.int i)) (.d (.int j))=some (.d (.int (i%j))):=by unfold a';rw[mj ↥7];rw[Int.fmod_eq_emod_of_nonneg i ↥0]
theorem eN{e:En}{i j:Int}(h:0<j)(h2:Bt 8000 j):fF e (.d (.int i)) (.d (.int j))=some (.d (.int (i/j))):=by unfold fF;rw[mj (by simp[mP.mpr h2];lia)];rw[Int.fdiv_eq_ediv_of_nonneg i ↥0]
theorem gE{e:En}{i j:Int}{neg:Bool}:cN neg e (.d (.int i)) (.d (.int j))=some (.d (.bool (if neg then !(i==j) else i==j))):=by unfold cN;simp[lU,SI,Sm,SQ,Ss]
theorem jU{e:En}{i j:Int}:HX e (.d (.int i)) (.d (.int j))=some (.d (.bool (decide (i<j)))):=rfl
theorem jS{e:En}{i j:Int}:IU e (.d (.int i)) (.d (.int j))=some (.d (.bool (decide (i<=j)))):=rfl
theorem jQ{e:En}{i j:Int}:CD e (.d (.int i)) (.d (.int j))=some (.d (.bool (decide (j<i)))):=rfl
theorem jP{e:En}{i j:Int}:FH e (.d (.int i)) (.d (.int j))=some (.d (.bool (decide (j<=i)))):=rfl
theorem gZ{e:En}{i j:Int}:g2 CF e [.d (.int i),.d (.int j)]=some (.d (.int (min i j))):=by show some (Rv.d (.int (if j<i then j else i)))=_;congr 3;split<;>lia
theorem gY{e:En}{i j:Int}:g2 AL e [.d (.int i),.d (.int j)]=some (.d (.int (max i j))):=by show some (Rv.d (.int (if j>i then j else i)))=_;congr 3;split<;>lia
theorem fK{e:En}{i:Int}:AM e (.d (.int i))=some (.d (.int (-i))):=rfl
theorem eO{e:En}{b:Bool}:g1 wO e [.d (.bool b)]=some (.d (.int (if b then 1 else 0))):=rfl
theorem gX{e:En}{i:Int}:g1 AJ e [.d (.int i)]=some (.d (.int i.natAbs)):=by show some (Rv.d (.int (if i<0 then-i else i)))=_;congr 3;split<;>lia
theorem me{j:Int}(h1:0<j)(h2:j<2^64):Bt 8000 j:=Bt.mono (m:=64) (by unfold Bt;lia) ⋯
theorem i8{α:Type}{xs:List α}{i:Int}(h0:0<=i)(h:i<xs.length):atI xs i=xs[i.toNat]?:=by unfold atI yk;rw[if_pos h0,if_pos h];rfl
theorem qR{e:En}{i:Nat}{xs:List QR}{neg:Bool}(h:e[i]?=some (some (.l xs)))(hs:SI (.list xs)=true):cN neg e (.s i) (.l [])=some (.d (.bool (if neg then !xs.isEmpty else xs.isEmpty))):=by
 unfold cN;simp only[lU,h,Rr,hs];have h0:SI (.list [])=true:=by simp[SI,Sm,SB,SQ,Th]
 rw[h0];cases xs<;>simp[Ss,TV]
theorem lu(ns:List Int):SI (.list (ns.map .int))=true/\SI (.tuple (ns.map .int))=true:=by
 have h1:SB (ns.map PyData.int)=true:=by induction ns with|nil=>rfl|cons n r ih=>simp[SB,Sm,ih]
 have h2:Th (ns.map PyData.int)=0:=by clear h1;induction ns with|nil=>rfl|cons n r ih=>simp[Th,SQ,ih]
 constructor<;>simp[SI,Sm,SQ,h1,h2]
theorem bC{own:gB}{g:FG}{f:FS}(P:Nat->En->Prop):∀(items:List QR) (k:Nat) (e:En),(∀i x e,items[i]?=some x->P (k+i) e->∃e1 e2,g x e=some e1/\f e1=some (.nx e2)/\keeps own e2/\P (k+i+1) e2)->P k e->∃e',iI own g f items e=some (.nx e')/\P (k+items.length) e'|[],k,e,_,h=>⟨e,rfl,h⟩|x::r,k,e,hs,h=>by obtain⟨e1,e2,h1,h2,h3,h4⟩:=hs 0 x e rfl h;obtain⟨e',h5,h6⟩:=bC P r (k+1) e2 (λi y e hy hp=>by have:=hs (i+1) y e (by simpa using hy) (by rw[show k+(i+1)=k+1+i by lia];exact hp);rw[show k+(i+1)+1=k+1+i+1 by lia]at this;exact this) h4;refine⟨e',?_,by rw[SA,show k+(r.length+1)=k+1+r.length by lia];exact h6⟩;unfold iI;simp only[h1,h2,Rr,if_pos h3];exact h5
theorem aQ{e:En}:keeps [] e:=λ_ h=>by cases h
theorem bR{W:List Nat}{fi:FI}{g:FG}{f:FS}{e e1:En}{items:List QR}(h:fi e=some (items,[],e1)):cO W fi g f e=iI [] g f items e1:=by unfold cO;rw[h];rfl
theorem cX{lo:Int}{n i:Nat}{x:QR}(h:(bf lo n)[i]?=some x):x=.int (lo+i)/\i<n:=by unfold bf at h;rw[RK]at h;obtain⟨k,h1,rfl⟩:=QJ h;obtain⟨h2,h3⟩:=QK h1;simp at h2 h3;subst h3;exact⟨rfl,h2⟩
theorem dU{lo:Int}{n:Nat}:(bf lo n).length=n:=by simp[bf]
theorem bT{fs:FA}{e e1:En}{n:Int}(h:fs e=some ([.d (.int n)],e1))(h1:-1000000<=n)(h2:n<=1000000):cI fs e=some (bf 0 n.toNat,[],e1):=by
 unfold cI;rw[h];have:Ej n=true:=by unfold Ej;rw[decide_eq_true h1,decide_eq_true h2];rfl
 simp[bo,this]
theorem ka{ft:FT}{f:FS}(P:En->Prop)(μ:En->Nat)(hs:∀e,P e->(∃e1,ft e=some (false,e1)/\True)\/∃e1 e2,ft e=some (true,e1)/\f e1=some (.nx e2)/\P e2/\μ e2<μ e):∀(n:Nat) (e:En),P e->μ e<n->∃e0 e',gv ft f n e=some (.nx e')/\P e0/\ft e0=some (false,e'):=by intro n;induction n with|zero=>intro e _ h;lia|succ n ih=>
 intro e hp hm;rcases hs e hp with⟨e1,h1,_⟩|⟨e1,e2,h1,h2,h3,h4⟩;·exact⟨e,e1,by unfold gv;rw[h1];rfl,hp,h1⟩
 ·obtain⟨e0,e',g1,g2⟩:=ih e2 h3 ↥0;exact⟨e0,e',by unfold gv;rw[h1];simp only[Rr,if_true,h2];exact g1,g2⟩
theorem gK{cs:En}{ft:FT}{fe:FE}{b:QR->Bool}{y:QR->QR}:∀(items:List QR) (t:Option Sv) (acc:List QR),(∀x∈items,ft (cs++[some (.d x)])=some (b x,cs++[some (.d x)]))->(∀x∈items,b x=true->fe (cs++[some (.d x)])=some (.d (y x),cs++[some (.d x)]))->acc.length+items.length<=1000000->∃t',cS (ah cs.length) ft fe items (cs++[t]) acc=some (acc++(items.filter b).map y,cs++[t'])
 |[],t,acc,_,_,_=>⟨t,by simp[cS]⟩|x::r,t,acc,h1,h2,hl=>by
  have hg:ah cs.length x (cs++[t])=some (cs++[some (.d x)]):=by simp[ah]
  have h1x:=h1 x ↥1;unfold cS;rw[hg];simp only[Rr,h1x];cases hb:b x with|true=>simp only[if_true,h2 x ↥1 hb,Rr,mh];rw[if_pos (by simp at hl;lia)];obtain⟨t',ih⟩:=gK (b:=b) (y:=y) r (some (.d x)) (acc++[y x]) (λz hz=>h1 z (by simp[hz])) (λz hz=>h2 z (by simp[hz])) (by simp at hl⊢;lia);exact⟨t',by rw[ih];simp[hb]⟩|false=>simp only[Ve,if_false];obtain⟨t',ih⟩:=gK (b:=b) (y:=y) r (some (.d x)) acc (λz hz=>h1 z (by simp[hz])) (λz hz=>h2 z (by simp[hz])) (by simp at hl;lia);exact⟨t',by rw[ih];simp[hb]⟩
theorem za{cp:List (Nat×Str)}{nT:Nat}{fi:FI}{g:FG}{ft:FT}{fe:FE}{e e1 eo:En}{items out:List QR}(h1:fi e=some (items,[],e1))(h3:cS g ft fe items (mG cp nT e1) []=some (out,eo))(h4:(cp.all λp=>!AR e1[p.1]?)=true):dk cp nT fi g ft fe e=some (.l out,e1):=by
 unfold dk;rw[h1];simp only[Rr,Vz,if_true,h3];have hb:kQ cp eo e1=true:=by unfold kQ;rw[RV]at h4⊢;intro p hp;rw[h4 p hp];rfl
 rw[if_pos hb];congr 2;refine Ul λi=>?_;rw[b_];match hi:e1[i]? with|none=>rfl|some none=>rfl|some (some (.d x))=>rfl|some (some (.n x))=>rfl|some (some (.l x))=>cases hp:nk cp i with|none=>simp[hp]|some k=>obtain⟨s,hs⟩:=dW hp;have:=RV.mp h4 _ (QO hs);simp[hi,AR]at this
theorem q_{fa:FE}{e e1:En}{xs:List QR}(h:fa e=some (.d (.tuple xs),e1)):iJ fa e=some (xs,[],e1):=by unfold iJ;rw[h];rfl
theorem jJ{cp:List (Nat×Str)}{nT:Nat}{fi:FI}{g:FG}{ft:FT}{fe:FE}{e e1 cs:En}{t t':En}{items out:List QR}(h1:fi e=some (items,[],e1))(hc:mG cp nT e1=cs++t)(hl:cs.length=cp.length)(h3:cS g ft fe items (mG cp nT e1) []=some (out,cs++t')):dk cp nT fi g ft fe e=some (.l out,e1):=by
 have key:∀i x,e1[i]?=some (some (.l x))->∀k,nk cp i=some k->(cs++t')[k]?=some (some (.l x)):=by
  intro i x hi k hk;obtain⟨s,hs⟩:=dW hk;have hk2:k<cp.length:=(QK hs).1;have:(mG cp nT e1)[k]?=some (some (.l x)):=by unfold mG;rw[SM (by simpa using hk2),RK,hs];simp[hi,Lv]
  rw[hc,SM ↥0]at this;rw[SM ↥0];exact this
 unfold dk;rw[h1];simp only[Rr,Vz,if_true,h3];have hb:kQ cp (cs++t') e1=true:=by unfold kQ;rw[RV];intro p hp;match hi:e1[p.1]? with|none=>simp[AR]|some none=>simp[AR]|some (some (.d x))=>simp[AR]|some (some (.n x))=>simp[AR]|some (some (.l x))=>cases hq:nk cp p.1 with|none=>unfold nk at hq;rw[Wj]at hq;have:=hq p hp;simp at this|some k=>simp[key p.1 x hi k hq,AR]
 rw[if_pos hb];congr 2;refine Ul λi=>?_;rw[b_];match hi:e1[i]? with|none=>rfl|some none=>rfl|some (some (.d x))=>rfl|some (some (.n x))=>rfl|some (some (.l x))=>cases hp:nk cp i with|none=>simp[hp]|some k=>simp[hp,key i x hi k hp]
theorem kN{α:Type}{xs:List α}{i:Int}(h0:0<=i)(h1:i<xs.length):∃x∈xs,atI xs i=some x:=by rw[i8 h0 h1];exact⟨xs[i.toNat]'↥0,VY _,RS _⟩
theorem qT{e:En}{xs:List QR}{i:Int}:eE e (.l xs) (.d (.int i))=(atI xs i).map .d:=rfl
theorem ki{e:En}{xs:List QR}{i:Int}:eE e (.d (.tuple xs)) (.d (.int i))=(atI xs i).map .d:=rfl
theorem ml{e:En}{xs:List QR}{i:Int}:eE e (.d (.list xs)) (.d (.int i))=(atI xs i).map .d:=rfl
theorem qU{e:En}{j:Nat}{xs:List QR}{i:Int}(h:e[j]?=some (some (.l xs))):eE e (.s j) (.d (.int i))=(atI xs i).map .d:=by simp[eE,gu,h,bo]
theorem mr{e:En}{xs:List QR}:g1 ee e [.d (.tuple xs)]=some (.d (.int xs.length)):=rfl
theorem jT{e:En}{xs:List QR}:g1 ee e [.d (.list xs)]=some (.d (.int xs.length)):=rfl
theorem mn{e:En}{xs:List QR}:g1 ee e [.l xs]=some (.d (.int xs.length)):=rfl
theorem mq{e:En}{j:Nat}{xs:List QR}(h:e[j]?=some (some (.l xs))):g1 ee e [.s j]=some (.d (.int xs.length)):=by simp[g1,ee,gu,h]
theorem hU{e:En}{j:Nat}{xs:List QR}(h:e[j]?=some (some (.l xs))):g1 bI e [.s j]=some (.d (.tuple xs)):=by simp[g1,bI,gu,h]
theorem hJ{e:En}{xs:List QR}:g1 bI e [.l xs]=some (.d (.tuple xs)):=rfl
theorem eQ{e:En}{xs:List QR}:g1 bI e [.d (.list xs)]=some (.d (.tuple xs)):=rfl
theorem hV{e:En}{xs:List QR}:g1 bI e [.d (.tuple xs)]=some (.d (.tuple xs)):=rfl
theorem mX{e:En}{xs:List QR}{lo hi:Option Int}:Le e (.d (.tuple xs)) lo hi=some (.d (.tuple (cutD xs lo hi))):=rfl
theorem oh{e:En}{xs ys:List QR}(h:xs.length+ys.length<=1000000):cZ e (.d (.tuple xs)) (.d (.tuple ys))=some (.d (.tuple (xs++ys))):=by simp[cZ,E7,HV,gI,bo,zz,gu,h]
theorem IV{e:En}{i j:Int}(h:j≠0):a' e (.d (.int i)) (.d (.int j))=some (.d (.int (i.fmod j))):=by unfold a';rw[mj (by simpa using h)]
theorem FC{e:En}{i j:Int}(h:j≠0)(h2:Bt 8000 j):fF e (.d (.int i)) (.d (.int j))=some (.d (.int (i.fdiv j))):=by unfold fF;rw[mj (by simp[mP.mpr h2,h])]
theorem mW{e:En}{i j:Int}(h:yN i j=true):vt e (.d (.int i)) (.d (.int j))=some (.d (.int (i^j.toNat))):=by unfold vt;rw[mj h]
theorem nu:yN 10 18=true:=by decide
theorem bS{f g:FS}{e e1:En}(h:f e=some (.nx e1)):ay f g e=g e1:=by unfold ay;rw[h];rfl
theorem Es{ft:FT}{f g:FS}{e e1:En}(h:ft e=some (true,e1)):ir ft f g e=f e1:=by unfold ir;rw[h];rfl
theorem Iq{ft:FT}{f g:FS}{e e1:En}(h:ft e=some (false,e1)):ir ft f g e=g e1:=by unfold ir;rw[h];rfl
def ue(i:Nat)(e:En):Nat:=match e[i]? with|some (some (.l xs))=>xs.length|_=>0
def C6(i:Nat)(e:En):Nat:=match e[i]? with|some (some (.d (.int k)))=>k.natAbs|_=>0
theorem vF{n m:Nat}(h:n<2^m)(hm:m<=4200):n<2^4200:=Sb h (Tr ⋯ hm)
theorem md{α:Type}{a:α}{r:List α}:atI (a::r) 0=some a:=by rw[i8 ⋯ ↥1];rfl
theorem i7{α:Type}{a b:α}{r:List α}:atI (a::b::r) 1=some b:=by rw[i8 ⋯ ↥7];rfl
theorem kJ{α:Type}{a b c:α}{r:List α}:atI (a::b::c::r) 2=some c:=by rw[i8 ⋯ ↥7];rfl
theorem kM{α:Type}{a b c d:α}{r:List α}:atI (a::b::c::d::r) 3=some d:=by rw[i8 ⋯ ↥7];rfl
theorem mL{W:aJ}{k:Int}(h:jK W k):atI (W.ties.map cT) k=some (cT (W.tie k)):=by rw[i8 h.1 (by rw[Rq];exact h.2),RK,h.get];rfl
theorem wn{ns:List Int}{k:Int}(h0:0<=k)(h1:k<(ns.length:Int)):atI (ns.map PyData.int) k=some (.int (ns.getD k.toNat 0)):=by
 rw[i8 h0 (by rw[Rq];exact h1),RK];have:k.toNat<ns.length:=by lia
 simp[this]
theorem qB{a b c d:QR}:cutD [a,b,c,d] none (some 2)=[a,b]:=rfl
theorem eK{a b c d:QR}:cutD [a,b,c,d] (some 2) none=[c,d]:=rfl
theorem eJ{a b c:QR}:cutD [a,b,c] (some 1) none=[b,c]:=rfl
theorem ww(ns:List Int):SB (ns.map PyData.int)=true:=by induction ns with|nil=>rfl|cons n r ih=>simp[SB,Sm,ih]
theorem wk{x:Int}:∀(ns:List Int),((ns.map PyData.int).any λy=>Ss y (.int x))=ns.contains x|[]=>rfl|n::r=>by rw[Rn,Us,wk r,List.contains_cons];show(n==x||_)=_;rw[show(n==x)=(x==n) by rw[VX];simp;exact eq_comm]
theorem fH{e:En}{x:Int}{ns:List Int}{neg:Bool}:AK neg e (.d (.int x)) (.d (.tuple (ns.map .int)))=some (.d (.bool (if neg then !ns.contains x else ns.contains x))):=by unfold AK;simp only[lU,gu,Rr,ww,wk];simp[Sm,SQ]
theorem jR{e:En}{x a b:Int}{neg:Bool}:AK neg e (.d (.int x)) (.d (.tuple [.int a,.int b]))=some (.d (.bool (if neg then !(a==x||b==x) else(a==x||b==x)))):=by
 have h:=fH (e:=e) (x:=x) (ns:=[a,b]) (neg:=neg);simp only[Rn,RQ]at h;rw[h];have:[a,b].contains x=(a==x||b==x):=by simp only[List.contains_cons,List.contains_nil,Bool.or_false];rw[show(x==a)=(a==x) by rw[VX];simp;exact eq_comm,show(x==b)=(b==x) by rw[VX];simp;exact eq_comm]
 rw[this]
theorem jV{e:En}{ns:List Int}(h:ns.length<64):g1 eP e [.d (.tuple (ns.map .int))]=some (.l ((i4 ns).map .int)):=by simp[g1,eP,gu,t9,h]
def E_(p:Int->Bool):QR->Bool|.int k=>p k|_=>false
theorem fw(W:aJ):au W=.tuple [.int W.things,.tuple (W.ties.map cT),.tuple (W.pat.map .int),.int W.asks]:=rfl
def Sh(n:Nat)(d:QR):Prop:=d.canLay0=true/\d.depth<=n
theorem Sh.mono{n m:Nat}{d:QR}(h:Sh n d)(l:n<=m):Sh m d:=⟨h.1,RT h.2 l⟩
theorem Sh.ok{n:Nat}{d:QR}(h:Sh n d)(l:n<=64):SI d=true:=by unfold SI;rw[h.1,decide_eq_true (RT h.2 l)];rfl
theorem Sh.int{k:Int}:Sh 2 (.int k):=⟨by simp[Sm],by simp[SQ]⟩
theorem Sh.all{n:Nat}:∀{ds:List QR},(∀d∈ds,Sh n d)->SB ds=true/\Th ds<=n|[],_=>⟨rfl,by simp[Th]⟩|d::r,h=>by obtain⟨a1,a2⟩:=h d ↥1;obtain⟨b1,b2⟩:=Sh.all (ds:=r) λx hx=>h x (by simp[hx]);exact⟨by simp[SB,a1,b1],by simp only[Th];lia⟩
theorem Sh.tup{n:Nat}{ds:List QR}(h:∀d∈ds,Sh n d):Sh (n+2) (.tuple ds):=by obtain⟨b1,b2⟩:=Sh.all h;exact⟨by simp[Sm,b1],by simp only[SQ];lia⟩
theorem Sh.ints{ns:List Int}:Sh 4 (.tuple (ns.map .int)):=Sh.tup (n:=2) λd hd=>by obtain⟨k,_,rfl⟩:=QM hd;exact Sh.int
theorem Sh.tie{t:pO}:Sh 6 (cT t):=Sh.tup (n:=4) λd hd=>by
 simp only[RC,RM,or_false]at hd;rcases hd with rfl|rfl|rfl|rfl;·exact Sh.int.mono ⋯
 ·exact Sh.int.mono ⋯
 ·exact Sh.ints (ns:=[t.top,t.bot])
 ·exact Sh.int.mono ⋯
theorem Sh.web{W:aJ}:Sh 10 (au W):=Sh.tup (n:=8) λd hd=>by
 simp only[RC,RM,or_false]at hd;rcases hd with rfl|rfl|rfl|rfl;·exact Sh.int.mono ⋯
 ·exact Sh.tup (n:=6) λd hd=>by obtain⟨k,_,rfl⟩:=QM hd;exact Sh.tie
 ·exact Sh.ints.mono ⋯
 ·exact Sh.int.mono ⋯
mutual
theorem wJ:∀{d:QR},d.canLay0=true->ed d=true->Ss d d=true|.none,_,_=>by simp[Ss]|.bool b,_,_=>by simp[Ss]|.int i,_,_=>by simp[Ss]|.str x,_,_=>by simp[Ss]|.tuple ds,h,f=>by simp only[Ss];exact oW (by simpa[Sm]using h) (by simpa[ed]using f)|.list ds,h,f=>by simp[ed]at f|.dict _,h,f=>by simp[ed]at f
theorem oW:∀{ds:List QR},SB ds=true->cH ds=true->TV ds ds=true|[],_,_=>by simp[TV]|d::r,h,f=>by simp only[SB,RE]at h;simp only[cH,RE]at f;simp only[TV,wJ h.1 f.1,oW h.2 f.2,VA]
end
theorem rH:∀(n:Nat) (l:List Int),l.Nodup->(∀k∈l,0<=k/\k<(n:Int))->l.length<=n
 |0,l,_,h=>by cases l with|nil=>simp|cons a r=>have:=h a ↥1;lia
 |n+1,l,hd,h=>by
  have ih:=rH n (l.erase (n:Int)) (hd.erase _) λk hk=>by obtain⟨h1,h2⟩:=hd.mem_erase_iff.mp hk;have:=h k h2;lia
  by_cases c:(n:Int)∈l;·rw[List.length_erase_of_mem c]at ih;lia
  ·rw[List.erase_of_not_mem c]at ih;lia
abbrev Std:=List Int×List Int
structure jh (W:aJ) (s:Std):Prop where
 inw:∀k∈s.1,jK W k
 nd:s.1.Nodup
 tk:s.2.length<=2*s.1.length
 th:∀t∈s.2,0<=t/\t<W.things
def nxt(W:aJ)(s:Std)(k:Int)(b:Bool):Std:=(aJ.askd s.1 k,W.took s.2 k b)
theorem jh.len{W:aJ}{s:Std}(h:jh W s):s.1.length<=W.ties.length:=rH _ _ h.nd λk hk=>h.inw k hk
theorem jh.first(W:aJ):jh W ([],[]):=⟨λk h=>(by cases h),List.nodup_nil,Ro _,λk h=>(by cases h)⟩
theorem mK{a:List Int}{k:Int}:(aJ.askd a k).length=a.length+1:=by unfold aJ.askd;rw[uF];simp
theorem jh.nxt{W:aJ}{s:Std}{k:Int}(b:Bool)(ok:W.Ok)(h:jh W s)(hk:jK W k)(hn:k∉s.1):jh W (nxt W s k b):=by
 refine⟨λj hj=>?_,?_,?_,?_⟩
 ·have:=jH.mp hj;rcases QL this with z|z;·exact h.inw j z
  ·simp at z;rw[z];exact hk
 ·refine(j9 _).nodup_iff.mpr ?_;rw[Wk];refine⟨h.nd,by simp,λa ha b hb=>?_⟩;simp at hb;rintro rfl;exact hn (hb▸ha)
 ·have:=h.tk;show(W.took s.2 k b).length<=2*(aJ.askd s.1 k).length;rw[mK];unfold aJ.took;split;·rw[uF];simp;lia
  ·lia
 ·intro t ht;have o:=hk.ok ok;have:=o.o0;have:=o.o1;have:=o.o2;change t∈W.took s.2 k b at ht;unfold aJ.took at ht;split at ht
  ·rcases QL (jH.mp ht) with z|z;·exact h.th t z
   ·simp at z;rcases z with rfl|rfl<;>lia
  ·exact h.th t ht
theorem zI{W:aJ}{a t:List Int}{k:Int}(h:W.may a t k=true):k∉a:=by
 unfold aJ.may at h;intro c;have:a.contains k=true:=by simpa using c
 simp[c]at h
structure Nd where
 tie:Int
 yes:Int
 no:Int
def cz(x:Nd):QR:=.tuple [.int x.tie,.int x.yes,.int x.no]
def jb(x:Nd):List QR:=[.int x.tie,.int x.yes,.int x.no]
def uR(W:aJ)(n:Nat)(S:Nat->Std)(i:Nat)(k:Int)(b:Bool)(l:Int):Prop:=l=-1\/(0<=l/\l<(n:Int)/\S l.toNat=nxt W (S i) k b)
structure Fh (W:aJ) (n:Nat) (S:Nat->Std) (i:Nat) (x:Nd):Prop where
 tie:jK W x.tie
 st:jh W (S i)may:W.may (S i).1 (S i).2 x.tie=true
 yes:uR W n S i x.tie true x.yes
 no:uR W n S i x.tie false x.no
def Fk(W:aJ)(T:List Nd)(S:Nat->Std):Prop:=∀(i:Nat) (x:Nd),T[i]?=some x->Fh W T.length S i x
structure Wt where
 st:Std
 par:Int
 side:Int
def xY(S:Nat->Std)(n:Nat)(s:Std):Nat->Std:=λi=>if i=n then s else S i
structure xZ (W:aJ) (T:List Nd) (S:Nat->Std) (ws:List Wt):Prop where
 tr:Fk W T S
 wt:∀w∈ws,jh W w.st/\(w.par=-1\/∃(p:Nat) (x:Nd),w.par=(p:Int)/\T[p]?=some x/\((w.side=0/\w.st=L2.nxt W (S p) x.tie true)\/(w.side=1/\w.st=L2.nxt W (S p) x.tie false)))side:∀w∈ws,w.side=0\/w.side=1
theorem uR.up{W:aJ}{n:Nat}{S:Nat->Std}{i:Nat}{k:Int}{b:Bool}{l:Int}{s:Std}(h:uR W n S i k b l)(hi:i<n):uR W (n+1) (xY S n s) i k b l:=by
 rcases h with h|⟨h1,h2,h3⟩;·exact .inl h
 ·refine .inr ⟨h1,by lia,?_⟩;unfold xY;rw[if_neg ↥0,if_neg ↥0];exact h3
def ef(x:Nd)(side n:Int):Nd:=if side=0 then{x with yes:=n}else{x with no:=n}
theorem wY{x:Nd}{s n:Int}:(ef x s n).tie=x.tie:=by unfold ef;split<;>rfl
theorem xZ.more{W:aJ}{T:List Nd}{S:Nat->Std}{w:Wt}{ws:List Wt}{k:Int}(ok:W.Ok)(h:xZ W T S (w::ws))(hk:jK W k)(hm:W.may w.st.1 w.st.2 k=true):xZ W ((if 0<=w.par then T.modify w.par.toNat (λx=>ef x w.side T.length) else T)++[⟨k,-1,-1⟩]) (xY S T.length w.st) (ws++[⟨L2.nxt W w.st k true,T.length,0⟩,⟨L2.nxt W w.st k false,T.length,1⟩]):=by
 obtain⟨ws1,ws2⟩:=h.wt w ↥1;generalize hT:(if 0<=w.par then T.modify w.par.toNat (λx=>ef x w.side T.length) else T)=T';have len:T'.length=T.length:=by rw[<-hT];split<;>simp
 have old:∀(i:Nat) (y:Nd),T'[i]?=some y->i<T.length/\∃x,T[i]?=some x/\y.tie=x.tie:=by
  intro i y hy;have hi:i<T.length:=by rw[<-len];exact(QK hy).1
  refine⟨hi,?_⟩;rw[<-hT]at hy;split at hy
  ·rw[UJ]at hy;obtain⟨x,hx,e⟩:=QJ hy;refine⟨x,hx,?_⟩;rw[<-e];split;·exact wY
   ·rfl
  ·exact⟨y,hy,rfl⟩
 have keep:∀(i:Nat) (x:Nd),T[i]?=some x->∃y,T'[i]?=some y/\y.tie=x.tie:=by
  intro i x hx;have hi:i<T'.length:=by rw[len];exact(QK hx).1
  obtain⟨_,x',hx',e⟩:=old i _ (RS hi);rw[hx]at hx';cases hx';exact⟨_,RS hi,e⟩
 have up:∀i,i<T.length->xY S T.length w.st i=S i:=λi hi=>by unfold xY;rw[if_neg ↥0]
 have upn:xY S T.length w.st T.length=w.st:=by unfold xY;rw[if_pos rfl]
 refine⟨λi y hy=>?_,λv hv=>?_,λv hv=>?_⟩
 ·rw[RW,len];show Fh W (T.length+1) _ i y;by_cases c:i<T.length
  ·rw[SM ↥0]at hy;have hy0:=hy;rw[<-hT]at hy;split at hy;case isFalse=>have o:=h.tr i y hy;exact⟨o.tie,by rw[up i c];exact o.st,by rw[up i c];exact o.may,o.yes.up c,o.no.up c⟩
   case isTrue hp=>
    rw[UJ]at hy;obtain⟨x,hx,e⟩:=QJ hy;have o:=h.tr i x hx;split at e;case isFalse=>subst e;exact⟨o.tie,by rw[up i c];exact o.st,by rw[up i c];exact o.may,o.yes.up c,o.no.up c⟩
    case isTrue hi=>
     rcases ws2 with z|⟨p,x2,z1,z2,z3⟩;·lia
     ·have:i=p:=by lia
      subst this;rw[hx]at z2;cases z2;have new:∀b,w.st=L2.nxt W (S i) x.tie b->uR W (T.length+1) (xY S T.length w.st) i x.tie b (T.length:Int):=λb hb=>.inr ⟨by lia,by lia,by rw[show((T.length:Int)).toNat=T.length by lia,upn,up i c];exact hb⟩;rw[<-e];rcases z3 with⟨s0,s1⟩|⟨s0,s1⟩
      ·have:ef x w.side T.length={x with yes:=T.length}:=by unfold ef;rw[if_pos s0]
       rw[this];exact⟨o.tie,by rw[up i c];exact o.st,by rw[up i c];exact o.may,new true s1,o.no.up c⟩
      ·have:ef x w.side T.length={x with no:=T.length}:=by unfold ef;rw[if_neg ↥0]
       rw[this];exact⟨o.tie,by rw[up i c];exact o.st,by rw[up i c];exact o.may,o.yes.up c,new false s1⟩
  ·rw[UZ ↥0]at hy;have:i=T.length:=by have:=(QK hy).1;simp at this;lia
   subst this;rw[len]at hy;simp at hy;subst hy;exact⟨hk,by rw[upn];exact ws1,by rw[upn];exact hm,.inl rfl,.inl rfl⟩
 ·rcases QL hv with hv|hv
  ·obtain⟨v1,v2⟩:=h.wt v (by simp[hv]);refine⟨v1,?_⟩;rcases v2 with z|⟨p,x,z1,z2,z3⟩;·exact .inl z
   ·obtain⟨y,hy,e⟩:=keep p x z2;have hp:p<T.length:=(QK z2).1;refine .inr ⟨p,y,z1,by rw[SM ↥0];exact hy,?_⟩;rw[up p hp,e];exact z3
  ·have key:∀b,jh W (L2.nxt W w.st k b):=λb=>ws1.nxt b ok hk (zI hm);have at':(T'++[(⟨k,-1,-1⟩:Nd)])[T.length]?=some ⟨k,-1,-1⟩:=by rw[UZ ↥0,len];simp
   simp only[RC,RM,or_false]at hv;rcases hv with rfl|rfl;·exact⟨key true,.inr ⟨T.length,_,rfl,at',.inl ⟨rfl,by rw[upn]⟩⟩⟩
   ·exact⟨key false,.inr ⟨T.length,_,rfl,at',.inr ⟨rfl,by rw[upn]⟩⟩⟩
 ·rcases QL hv with hv|hv;·exact h.side v (by simp[hv])
  ·simp only[RC,RM,or_false]at hv;rcases hv with rfl|rfl;·exact .inl rfl
   ·exact .inr rfl
theorem xZ.less{W:aJ}{T:List Nd}{S:Nat->Std}{w:Wt}{ws:List Wt}(h:xZ W T S (w::ws)):xZ W T S ws:=⟨h.tr,λv hv=>h.wt v (by simp[hv]),λv hv=>h.side v (by simp[hv])⟩
theorem Bw{T:List Nd}{p:Nat}{x:Nd}{n:Int}(h:T[p]?=some x):(T.map jb).set p [.int x.tie,.int n,.int x.no]=(T.modify p (λx=>ef x 0 n)).map jb:=by
 refine Ul λi=>?_;rw[UK,RK,RK,UJ];by_cases c:p=i;·subst c;obtain⟨hp,e⟩:=QK h;simp[h,hp,ef,jb,e]
 ·simp[c]
theorem Bx{T:List Nd}{p:Nat}{x:Nd}{n:Int}(h:T[p]?=some x):(T.map jb).set p [.int x.tie,.int x.yes,.int n]=(T.modify p (λx=>ef x 1 n)).map jb:=by
 refine Ul λi=>?_;rw[UK,RK,RK,UJ];by_cases c:p=i;·subst c;obtain⟨hp,e⟩:=QK h;simp[h,hp,ef,jb,e]
 ·simp[c]
theorem uP{cp:List (Nat×Str)}{nT:Nat}{fi:FI}{g:FG}{ft:FT}{fe:FE}{e e1 cs:En}{t t':En}{items out:List QR}{own:gB}(h1:fi e=some (items,own,e1))(ho:(own.all λq=>!(cp.any λc=>c.1==q.1))=true)(hc:mG cp nT e1=cs++t)(hl:cs.length=cp.length)(h3:cS g ft fe items (mG cp nT e1) []=some (out,cs++t')):dk cp nT fi g ft fe e=some (.l out,e1):=by have key:=jJ (cp:=cp) (nT:=nT) (fi:=λ_=>some (items,[],e1)) (g:=g) (ft:=ft) (fe:=fe) (e:=e) rfl hc hl h3;unfold dk at key⊢;rw[h1];simp only[Rr,Vz,if_true]at key;simp only[Rr,ho,if_true];exact key
theorem tW{α:Type}(x:α):∀n,(Rk n [x]).flatten=Rk n x|0=>rfl|n+1=>by rw[Ui,Vr,tW x n];rfl
theorem Ld{e:En}{x:QR}{n:Int}(h0:0<=n)(h1:n<=100000):ja e (.l [x]) (.d (.int n))=some (.l (Rk n.toNat x)):=by
 have a:wR e (.l [x]) (.d (.int n))=some (.l (Rk n.toNat [x]).flatten):=by simp[wR,A8,bo];lia
 have b:qV e (.l [x]) (.d (.int n))=none:=by simp[qV,gI,bo]
 have c:qX e (.l [x]) (.d (.int n))=none:=by simp[qX,gu,bo]
 unfold ja E7;rw[b,c,a,tW];rfl
def nm(nums:List Int)(l:Int):Int:=(atI nums l).getD (-1)
def ig(T:List Nd)(w:Int):Nd:=T.getD w.toNat ⟨0,0,0⟩
theorem rE{T:List Nd}{w:Int}(h0:0<=w)(h1:w<(T.length:Int)):T[w.toNat]?=some (ig T w):=by
 have:w.toNat<T.length:=by lia
 simp[ig,this]
theorem IJ{T:List Nd}{w:Int}(h0:0<=w)(h1:w<(T.length:Int)):atI (T.map cz) w=some (cz (ig T w)):=by rw[i8 h0 (by rw[Rq];exact h1),RK,rE h0 h1];rfl
theorem Fh.room{W:aJ}{n:Nat}{S:Nat->Std}{i:Nat}{x:Nd}(ok:W.Ok)(h:Fh W n S i x):(S i).1.length<=15:=by have h1:=(h.st.nxt true ok h.tie (zI h.may)).len;have h2:=ok.len;have:(nxt W (S i) x.tie true).1.length=(S i).1.length+1:=mK;lia
theorem oa{α β:Type}{f:α->β}:∀{xs:List α}{i:Nat},(xs.map f).eraseIdx i=(xs.eraseIdx i).map f|[],_=>by simp|x::r,0=>by simp|x::r,i+1=>by simp[oa (xs:=r) (i:=i)]
def dS(s:Std):QR:=cx s.1 s.2
theorem Cq{T:List Nd}{i:Nat}{x:QR}(h:(kg 0 (T.map cz))[i]?=some x):∃y,T[i]?=some y/\x=.tuple [.int (i:Int),cz y]:=by rw[n_,RK,Option.map_map]at h;obtain⟨y,hy,rfl⟩:=QJ h;exact⟨y,hy,by simp⟩
theorem iC(s:String):SJ (RY s)=true:=by rw[Str.ofString_eq_toList];unfold SJ;simp only[Ry,Rq];rw[show(UL Char.toNat s.toList).toArray.all (λa=>decide (a<1114112)) 0 s.toList.length=(UL Char.toNat s.toList).all (λa=>decide (a<1114112)) by simp];rw[List.all_map,RV];intro c _;show decide (c.toNat<1114112)=true;rw[decide_eq_true_eq];have:=c.valid;unfold UInt32.isValidChar Nat.isValidChar at this;show c.val.toNat<_;lia
theorem lQ{a b:Str}(h1:SJ a=true)(h2:SJ b=true):SJ (a++b)=true:=by unfold SJ at*;rw[show(a++b).cps=a.cps++b.cps from rfl];simp only[Array.all_append,h1,h2,VA]
theorem sD{sep:Str}(h:SJ sep=true):∀(ts:List Str),(∀t∈ts,SJ t=true)->SJ (Str.join sep ts)=true|[],_=>by show SJ Uv=true;simp[SJ,Uv]|[x],hx=>hx x ↥1|x::y::r,hx=>lQ (lQ (hx x ↥1) h) (sD h (y::r) λt ht=>hx t (by simp at ht⊢;exact .inr ht))
theorem BA{ts:List Str}(h:∀t∈ts,SJ t=true):SJ (tupleText ts)=true:=by unfold tupleText;exact lQ (lQ (iC _) (sD (iC _) ts h)) (iC _)
structure Sz (n dep:Nat) (d:QR):Prop where
 fl:ed d=true
 sh:d.showable=true
 dp:d.depth<=dep
 ln:d.shown.length<=n
 so:SJ d.shown=true
theorem Sz.mono{n m dep e:Nat}{d:QR}(h:Sz n dep d)(h1:n<=m)(h2:dep<=e):Sz m e d:=⟨h.fl,h.sh,RT h.dp h2,RT h.ln h1,h.so⟩
theorem Sz.int{k:Int}(h0:0<=k)(h1:k<16):Sz 2 2 (.int k):=by
 have:k=0\/k=1\/k=2\/k=3\/k=4\/k=5\/k=6\/k=7\/k=8\/k=9\/k=10\/k=11\/k=12\/k=13\/k=14\/k=15:=by lia
 rcases this with rfl|rfl|rfl|rfl|rfl|rfl|rfl|rfl|rfl|rfl|rfl|rfl|rfl|rfl|rfl|rfl<;>exact⟨rfl,by decide,by simp[SQ],by decide,iC _⟩
theorem Sz.all{n dep:Nat}:∀{ds:List QR},(∀d∈ds,Sz n dep d)->cH ds=true/\VU ds=true/\Th ds<=dep/\piled (Ts ds)<=ds.length*(n+2)/\∀t∈Ts ds,SJ t=true
 |[],_=>⟨rfl,rfl,by simp[Th],by simp[Ts,piled],by simp[Ts]⟩|d::r,h=>by
  obtain⟨a1,a2,a3,a4,a5⟩:=h d ↥1;obtain⟨b1,b2,b3,b4,b5⟩:=Sz.all (ds:=r) λx hx=>h x (by simp[hx]);refine⟨?_,?_,?_,?_,?_⟩;·simp only[cH,a1,b1,VA]
  ·simp only[VU,a2,b2,VA]
  ·simp only[Th];lia
  ·simp only[Ts,rM,SA,Nat.succ_mul];lia
  ·intro t ht;simp only[Ts,RC]at ht;rcases ht with rfl|ht;·exact a5
   ·exact b5 t ht
theorem Sz.tup{n dep m:Nat}{ds:List QR}(h:∀d∈ds,Sz n dep d)(hl:ds.length<=m):Sz (m*(n+2)+3) (dep+2) (.tuple ds):=by obtain⟨b1,b2,b3,b4,b5⟩:=Sz.all h;refine⟨by simpa[ed]using b1,b2,by simp only[SQ];lia,?_,by simp only[PyData.shown];exact BA b5⟩;have h2:=uL (Ts ds);have:=Nat.mul_le_mul_right (n+2) hl;simp only[PyData.shown];lia
theorem Sz.ok{n dep:Nat}{d:QR}(h:Sz n dep d)(h1:n<=16777216)(h2:dep<=60):nU d=true:=by have sl:Rm=16777216:=Se;unfold nU;rw[h.fl,h.sh,decide_eq_true (RT h.dp h2),decide_eq_true (show d.shown.length<=Rm by rw[sl];exact RT h.ln h1)];rfl
theorem FJ{e:En}{d:QR}(h:nU d=true):g1 o5 e [.d d]=some (.d (.str d.shown)):=by simp[g1,o5,h]
theorem FB{e:En}{s:Str}(h:SJ s=true):cN false e (.d (.str s)) (.d (.str s))=some (.d (.bool true)):=by simp[cN,lU,SI,Sm,SQ,Ss,h]
theorem CB{e:En}{d:QR}{n:Nat}(h:Sh n d)(hn:n<=64)(hf:ed d=true):cN true e (.d d) (.d d)=some (.d (.bool false)):=by unfold cN;simp only[lU,Rr,h.ok hn,VA,if_true,wJ h.1 hf];rfl
theorem qQ{ns:List Int}:cH (ns.map PyData.int)=true:=by induction ns with|nil=>rfl|cons a r ih=>simp[cH,ed,ih]
theorem Cv{W:aJ}:ed (au W)=true:=by
 have:cH (W.ties.map cT)=true:=by induction W.ties with|nil=>rfl|cons a r ih=>simp[cH,ed,cT,ih]
 simp[au,ed,cH,this,qQ]
theorem CH{e:En}{d:QR}{n:Int}(h0:0<=n)(h1:n<=100000):ja e (.d (.tuple [d])) (.d (.int n))=some (.d (.tuple (Rk n.toNat d))):=by
 have a:qX e (.d (.tuple [d])) (.d (.int n))=some (.d (.tuple (Rk n.toNat d))):=by simp[qX,gu,bo,h0,h1]
 have b:qV e (.d (.tuple [d])) (.d (.int n))=none:=by simp[qV,gI,bo]
 unfold ja E7;rw[b,a];rfl
theorem Kr{q:Int}(h0:0<=q)(h1:q<16):∃m:Int,0<m/\m<2^64/\∀e:En,FL e (.d (.int 1)) (.d (.int q))=some (.d (.int m)):=by
 have:q=0\/q=1\/q=2\/q=3\/q=4\/q=5\/q=6\/q=7\/q=8\/q=9\/q=10\/q=11\/q=12\/q=13\/q=14\/q=15:=by lia
 rcases this with rfl|rfl|rfl|rfl|rfl|rfl|rfl|rfl|rfl|rfl|rfl|rfl|rfl|rfl|rfl|rfl<;>exact⟨_,by decide,by decide,λe=>mj ⋯⟩
theorem tD{bs:List Bool}{k:Int}(h0:0<=k)(h1:k<(bs.length:Int)):atI (bs.map PyData.bool) k=some (.bool (bs.getD k.toNat false)):=by
 rw[i8 h0 (by rw[Rq];exact h1),RK];have:k.toNat<bs.length:=by lia
 simp[this]
def dR(p:Int×Bool):QR:=.tuple [.int p.1,.bool p.2]
def rn(T:List Nd)(ans:List Bool):Nat->Int->List (Int×Bool)|0,_=>[]|f+1,at'=>if at'<0 then[]else((ig T at').tie,ans.getD (ig T at').tie.toNat false)::rn T ans f (if ans.getD (ig T at').tie.toNat false=true then(ig T at').yes else(ig T at').no)
theorem Eh{T:List Nd}{ans:List Bool}{f:Nat}{a:Int}(h:a<0):rn T ans f a=[]:=by cases f with|zero=>rfl|succ f=>unfold rn;rw[if_pos h]
def rt(T:List Nd):Int:=if T.length=0 then-1 else 0
structure mH (W:aJ) (T:List Nd) (S:Nat->Std) (ans:List Bool) (r:List (Int×Bool)) (a:Int):Prop where
 at':a=-1\/(0<=a/\a<(T.length:Int)/\r.length<=(S a.toNat).1.length)eq:r++rn T ans (17-r.length) a=rn T ans 17 (rt T)len:r.length<=16
 inw:∀p∈r,jK W p.1
theorem mH.first{W:aJ}{T:List Nd}{S:Nat->Std}{ans:List Bool}:mH W T S ans [] (rt T):=⟨by
 unfold rt;split;·exact .inl rfl
 ·exact .inr ⟨by lia,by lia,by simp⟩,rfl,by simp,λp h=>by cases h⟩
theorem mH.step{W:aJ}(ok:W.Ok){T:List Nd}{S:Nat->Std}{ans:List Bool}{r:List (Int×Bool)}{a:Int}(hT:Fk W T S)(h:mH W T S ans r a)(h0:0<=a):a<(T.length:Int)/\r.length<=15/\jK W (ig T a).tie/\mH W T S ans (r++[((ig T a).tie,ans.getD (ig T a).tie.toNat false)]) (if ans.getD (ig T a).tie.toNat false=true then(ig T a).yes else(ig T a).no):=by
 rcases h.at' with z|⟨z1,z2,z3⟩;·lia
 have o:=hT _ _ (rE z1 z2);have rm:=o.room ok;refine⟨z2,by lia,o.tie,?_,?_,by simp;lia,λp hp=>?_⟩
 ·have key:∀b l,uR W T.length S a.toNat (ig T a).tie b l->l=-1\/(0<=l/\l<(T.length:Int)/\(r++[((ig T a).tie,ans.getD (ig T a).tie.toNat false)]).length<=(S l.toNat).1.length):=by
   intro b l hl;rcases hl with hl|⟨h1,h2,h3⟩;·exact .inl hl
   ·refine .inr ⟨h1,h2,?_⟩;rw[h3];have:(nxt W (S a.toNat) (ig T a).tie b).1.length=(S a.toNat).1.length+1:=mK;rw[this];simp;lia
  split;·exact key _ _ o.yes
  ·exact key _ _ o.no
 ·have e:=h.eq;rw[show 17-r.length=(17-(r.length+1))+1 by lia]at e;unfold rn at e;rw[if_neg ↥0]at e;rw[UF,RW];exact e
 ·rcases QL hp with hp|hp;·exact h.inw p hp
  ·simp at hp;rw[hp];exact o.tie
theorem mH.done{W:aJ}{T:List Nd}{S:Nat->Std}{ans:List Bool}{r:List (Int×Bool)}{a:Int}(h:mH W T S ans r a)(h0:a<0):r=rn T ans 17 (rt T):=by have e:=h.eq;rw[Eh h0,Sl]at e;exact e
theorem Sz.bool{b:Bool}:Sz 5 2 (.bool b):=by
 cases b;·exact⟨rfl,rfl,by simp[SQ],by show(RY "False").length<=5;decide,iC _⟩
 ·exact⟨rfl,rfl,by simp[SQ],by show(RY "True").length<=5;decide,iC _⟩
theorem Sz.run{W:aJ}(ok:W.Ok){r:List (Int×Bool)}(hl:r.length<=16)(h:∀p∈r,jK W p.1):Sz 1000 6 (.tuple (r.map dR)):=by
 refine(Sz.tup (n:=17) (dep:=4) (m:=16) (λd hd=>?_) (by rw[Rq];exact hl)).mono ⋯ ⋯;obtain⟨p,hp,rfl⟩:=QM hd;refine Sz.tup (n:=5) (dep:=2) (m:=2) (λd hd=>?_) ↥1;simp only[RC,RM,or_false]at hd;have w:=h p hp;have:=w.1;have:=w.2;have:=ok.len;rcases hd with rfl|rfl;·exact(Sz.int ↥0 ↥0).mono ⋯ ⋯
 ·exact Sz.bool
abbrev Fr:=Int×Int
def tm(a b:Fr):Fr:=gh (a.1*b.1) (a.2*b.2)
def pl(a b:Fr):Fr:=gh (a.1*b.2+b.1*a.2) (a.2*b.2)
def bp(W:aJ):List Int->Int|[]=>1|k::r=>(W.tie k).bot*bp W r
def ch(W:aJ)(k:Int)(b:Bool):Fr:=if b then((W.tie k).top,(W.tie k).bot) else((W.tie k).bot-(W.tie k).top,(W.tie k).bot)
def KN(sc:Rt)(x:Str):Bool:=match sc.names.lookup x with|some .local=>true|some .cell=>true|some .free=>true|_=>false
theorem HA{sc:Rt}{x:Str}(h:KN sc x=true):BX sc x:=by
 unfold KN at h;unfold BX;split at h;·rename_i e;exact .inl e
 ·rename_i e;exact .inr (.inl e)
 ·rename_i e;exact .inr (.inr e)
 ·cases h
section
variable{X:Cx}{K:QU}
theorem qw(i:Nat){x:Str}{pos:Pos}(hN:X.N[i]?=some x)(hv:KN X.env.scope x=true)(hd:((x==("__debug__":Str))||(x==("__classdict__":Str)))=false):PE X (.Name x pos) (fE K (ae i)):=qv i hN (HA hv) (Wm.mp hd).1 (Wm.mp hd).2
end
section
variable{X:Cx}{tg a b c:QT}{ta:TA}{p pos p2 pos2:Pos}
end
section
variable{K:QU}{σ:L2.St}
end
section
variable{X:Cx}{K:QU}{tg a b c:QT}{fs:FA}{pos p p2 pos2:Pos}
end
def My:QR->String|.none=>"NoneType"|.bool _=>"bool"|.int _=>"int"|.str _=>"str"|.tuple _=>"tuple"|.list _=>"list"|.dict _=>"dict"
def Kt(t T:String):Bool:=t==T||(t=="bool"&&T=="int")
def Ll(T:String)(d:QR):Bool:=Kt (My d) T
def qS(T:String):En->Rv->Option Rv:=λ_ r=>match r with|.d x=>some (.d (.bool (Ll T x)))|_=>some (.d (.bool (Ll T (.list []))))
section
variable{X:Cx}{K:QU}{a:QT}{fa:FE}{pos p p2:Pos}
def MW(K:QU)(H:Hp):V->String->Prop|.non,t=>t="NoneType"|.bl _,t=>t="bool"|.int _,t=>t="int"|.str _,t=>t="str"|.ref a,t=>(t="tuple"/\∃xs,dX K H a xs)\/(t="list"/\∃xs,i6 K H a xs)\/(t="dict"/\∃m,H a=some (.dK m))\/(t="dict"/\∃m,H a=some (E5 a m))|_,_=>False
theorem Ci{T:String}:du X (.builtin "isinstance") (λxs H Q=>∃x t b,xs=[x,.ty T]/\MW X.K H x t/\TX X.K (.type t) (.type T)=some b/\Q (.bl b) H):=by
 intro pins s σ H xs us Q I r h;obtain⟨x,t,b,rfl,ht,hk,q⟩:=h;obtain⟨u1,u2,rfl,r1,r2⟩:∃u1 u2,us=[u1,u2]/\aS x u1/\aS (.ty T) u2:=by cases r with|cons p q=>cases q with|cons p' q'=>cases q';exact⟨_,_,rfl,p,p'⟩
 cases r2;have q':∀tk,EP X pins σ Q (.bool b) {s with toks:=tk}:=λtk=>⟨.bl b,H,I.tok _,rfl,q⟩;cases x with|non=>cases (show u1=Value.none from r1);cases (show t=_ from ht);exact Um PySem.W.kitx_none I.kIn Tv hk (λz=>nomatch z) q'|bl y=>cases (show u1=Value.bool y from r1);cases (show t=_ from ht);exact Um PySem.W.kitx_bool I.kIn Tv hk (λz=>nomatch z) q'|int i=>obtain⟨tt,rfl⟩:=r1;cases (show t=_ from ht);exact Um PySem.W.kitx_int I.kIn Tv hk (λz=>nomatch z) q'|str y=>obtain⟨tt,rfl⟩:=r1;cases (show t=_ from ht);exact Um PySem.W.kitx_str I.kIn Tv hk (λz=>nomatch z) q'|ref a=>
  cases (show u1=Value.ref a from r1);rcases ht with⟨rfl,xs,hs⟩|⟨rfl,xs,hs⟩|⟨rfl,m,hs⟩|⟨rfl,m,hs⟩;·obtain⟨its,rv,pl,hz⟩:=I.tuple hs;obtain⟨o,h1,h2⟩:=pl.typeIs;exact Um PySem.W.kitx_tuple I.kIn ⟨o,h1,h2⟩ hk (λz=>nomatch z) q'
  ·obtain⟨its,rv,pl,hz⟩:=I.list hs;obtain⟨o,h1,h2⟩:=pl.isList.typeIs;exact Um PySem.W.kitx_list I.kIn ⟨o,h1,h2⟩ hk (λz=>nomatch z) q'
  ·obtain⟨_,_,vs,_,pp⟩:=(show bv X.prog X.w H s.heap a (.dK m) from I.hok a _ hs);obtain⟨o,es,ep,h1,h2,_⟩:=pp;exact Um PySem.W.kitx_dict I.kIn ⟨o,h1,h2.1⟩ hk (λz=>nomatch z) q'
  ·obtain⟨⟨_,_,_,_,_,o,es,ep,h1,h2,_⟩,_⟩:=(show bv X.prog X.w H s.heap a (E5 a m) from I.hok a _ hs);exact Um PySem.W.kitx_dict I.kIn ⟨o,h1,h2.1⟩ hk (λz=>nomatch z) q'|_=>exact Sj ht
theorem xn{x:Str}{T:String}(hg:Gl X x)(hm:X.mg x=none)(hv:SC x=some (.type T))(hn:x≠"__name__")(hd:(x==("__debug__":Str))=false):PE X (.Name x pos) (tC (.ty T)):=λpins s σ H Q I h=>kZ I hg hm hv ⟨.ty T,H,I,rfl,h⟩ hn hd
theorem Ji{t T:String}(ht:t∈["NoneType","bool","int","str","tuple","list","dict"])(hT:T∈["int","bool","tuple","str"]):TX K (.type t) (.type T)=some (Kt t T):=by simp only[RC,RM,or_false]at ht hT;rcases ht with rfl|rfl|rfl|rfl|rfl|rfl|rfl<;>rcases hT with rfl|rfl|rfl|rfl<;>rfl
theorem Hu(d:QR):My d∈["NoneType","bool","int","str","tuple","list","dict"]:=by cases d<;>simp[My]
theorem KG{F H:Hp}{d:QR}{v:V}(h:DA K F d v)(s:aw F H):MW K H v (My d):=by have h:=DA.mono s h;cases d with|none=>rw[mU.mp h];rfl|bool b=>rw[dH.mp h];rfl|int b=>rw[bc.mp h];rfl|str b=>rw[qC.mp h];rfl|tuple ds=>obtain⟨a,xs,rfl,h1,_⟩:=bH.mp h;exact .inl ⟨rfl,xs,h1⟩|list ds=>obtain⟨a,xs,rfl,h1,_⟩:=cU.mp h;exact .inr (.inl ⟨rfl,xs,h1⟩)|dict m=>simp only[DA]at h;rcases h with⟨a,m,rfl,h1,_⟩|⟨a,m,rfl,h1,_⟩;exact .inr (.inr (.inl ⟨rfl,_,h1⟩));exact .inr (.inr (.inr ⟨rfl,_,h1⟩))
theorem Fy{f:FE}{σ:L2.St}{H:Hp}{Q Q':VK}(h:fE K f σ H Q)(m:∀v H1,Q v H1->Q' v H1):fE K f σ H Q':=by obtain⟨F,e,r,e',R,hf,q⟩:=h;exact⟨F,e,r,e',R,hf,λF' H' v x R' A=>m _ _ (q F' H' v x R' A)⟩
theorem Lm{T:String}:KS K (λv H Q=>∃t,t∈["NoneType","bool","int","str","tuple","list","dict"]/\MW K H v t/\Q (.bl (Kt t T)) H) (qS T):=by intro σ H0 F H e x z v Q R A hg q;unfold qS at hg;cases x with|d d=>cases hg;exact⟨My d,Hu d,KG A R.sm,q F H _ (dF.refl _ _ _ _) R eZ⟩|l xs=>cases hg;obtain⟨l,vs,rfl,h1,h2,h3,h4⟩:=A;exact⟨"list",by simp,.inr (.inl ⟨rfl,vs,i6.of h3⟩),q F H _ (dF.refl _ _ _ _) R eZ⟩|s i=>cases hg;obtain⟨h1,xs,h2⟩:=A;obtain⟨l,vs,h3,h4,h5,h6⟩:=R.own i xs h2;rw[h1]at h3;cases h3;exact⟨"list",by simp,.inr (.inl ⟨rfl,vs,i6.of h5⟩),q F H _ (dF.refl _ _ _ _) R eZ⟩
theorem zQ{x:Str}{T:String}(hK:X.K=K)(hT:T∈["int","bool","tuple","str"])(hg:Gl X "isinstance")(hm:X.mg "isinstance"=none)(hgT:Gl X x)(hmT:X.mg x=none)(NJ:SC x=some (.type T))(hn:x≠"__name__")(hd:(x==("__debug__":Str))=false)(ha:PE X a (fE K fa))(he:Rg [a,.Name x p2] X.env=(false,Rj a X.env)::Rg [.Name x p2] X.env)(hpl:(RF pos (Rg [.Name x p2] X.env)).any (·.1)=false):PE X (.Call (.Name "isinstance" p) [a,.Name x p2] [] pos) (fE K (s_ (qS T) fa)):=(lb (Ci (T:=T)) hg hm VB (c_ ha (c_ (xn hgT hmT NJ hn hd) io) he) ⋯ ⋯ he hpl).mono λσ H Q h=>by subst hK;have h1:=ze (Lm (T:=T)) h;refine Fy h1 λv H1⟨t,ht,k,q⟩=>?_;exact⟨v,t,_,rfl,k,Ji ht hT,q⟩
end
section
variable{X:Cx}{K:QU}
def Ip:FS:=λ_=>none
theorem G1{st:Rh}:PS X st (fS K Ip []):=λpins s σ H D I h=>by obtain⟨F,e,fl,R,hf,_⟩:=h;cases hf
end
section
variable{X:Cx}{K:QU}{σ:L2.St}{F H:Hp}{e:En}{pos p1 p2:Pos}
end
section
variable{X:Cx}{K:QU}{a b c d:QT}{ta tb tc td:TE}{fa fb fc fd:FE}{pos:Pos}
end
section
variable{X:Cx}{K:QU}{a b:QT}{es:List QT}{fa fb:FE}{fs:FA}{pos p apos:Pos}
def uM:Rv->Option Str|.d (.str x)=>some x|_=>none
theorem sG{σ:L2.St}{H0 F H:Hp}{e:En}{r:Rv}{v:V}{x:Str}(h:bG K σ H0 F H e r v)(q:uM r=some x):v=.str x:=by
 unfold uM at q;split at q;·cases q;exact qC.mp (show DA K F (.str _) v from h)
 ·cases q
theorem Ep{σ:L2.St}{H0 F H:Hp}{e:En}{x:Str}:bG K σ H0 F H e (.d (.str x)) (.str x):=(show DA K F (.str x) (.str x) from qC.mpr rfl)
def vq:En->Rv->Option Rv:=λ_ x=>(bo x).bind λi=>if i.natAbs.log2<1900 then some (.d (.str (toString i:String))) else none
def Nn:V->Hp->VK->Prop:=λv H Q=>∃i:Int,v=.int i/\i.natAbs.log2<1900/\Q (.str (toString i:String)) H
theorem La:KS K Nn vq:=by
 intro σ H0 F H e x z v Q R A hg q;unfold vq at hg;obtain⟨i,h1,hg⟩:=QI hg;split at hg;case isFalse=>cases hg
 case isTrue hi=>cases hg;exact⟨i,bO A h1,hi,q F H _ (dF.refl _ _ _ _) R Ep⟩
theorem Ig(ha:PE X a (fE K fa)):PE X (.FormattedValue a (-1) none pos) (fE K (s_ vq fa)):=λpins s σ H Q I h=>by have h1:=ze La h;refine FormattedValue_plain (bu (ha pins s σ H _ I h1) λv s1⟨x,H1,I1,r1,i,e,hi,q1⟩=>?_);subst e;obtain⟨t,rfl⟩:=r1;exact formatField_int_small ↥0 ⟨.str _,H1,I1.tok _,⟨_,rfl⟩,q1⟩
def MP(fa fb fc:FE):FE:=λe=>(fa e).bind λp=>(uM p.1).bind λx=>(fb p.2).bind λq=>(uM q.1).bind λy=>(fc q.2).bind λr=>(uM r.1).bind λz=>if x.length+y.length+z.length<=1000000 then some (.d (.str (Uv++x++y++z)),r.2) else none
theorem rA(x y:Str):(x++y).length=x.length+y.length:=strLen_append x y
theorem Nl{c:QT}{fc:FE}(ha:PE X a (fE K fa))(hb:PE X b (fE K fb))(hc:PE X c (fE K fc)):PE X (.JoinedStr [a,b,c] pos) (fE K (MP fa fb fc)):=λpins s σ H Q I h=>by
 obtain⟨F,e,r,e',R,hf,q⟩:=h;unfold MP at hf;obtain⟨⟨r1,e1⟩,g1,hf⟩:=QI hf;obtain⟨x,g2,hf⟩:=QI hf;obtain⟨⟨r2,e2⟩,g3,hf⟩:=QI hf;obtain⟨y,g4,hf⟩:=QI hf;obtain⟨⟨r3,e3⟩,g5,hf⟩:=QI hf;obtain⟨z,g6,hf⟩:=QI hf;split at hf;case isFalse=>cases hf
 case isTrue hl=>
 cases hf;have e0:(Uv).length=0:=rfl;have l1:(Uv++x).length=x.length:=by rw[rA,e0];lia
 have l2:(Uv++x++y).length=x.length+y.length:=by rw[rA,l1]
 have l3:(Uv++x++y++z).length=x.length+y.length+z.length:=by rw[rA,l2]
 refine JoinedStr_many (joinParts_cons (bu (ha pins s σ H (λv H1=>v=.str x/\∃F1,dF σ F H e F1 H1 e1/\aR K F1 H1 σ e1) I ⟨F,e,r1,e1,R,g1,λF1 H1 v X1 R1 A1=>⟨sG A1 g2,F1,X1,R1⟩⟩) λv s1⟨xv,H1,I1,rv1,ex,F1,X1,R1⟩=>?_));subst ex;obtain⟨t1,rfl⟩:=rv1;refine⟨by rw[l1,Se];lia,joinParts_cons (bu (hb pins s1 σ H1 (λv H2=>v=.str y/\∃F2,dF σ F1 H1 e1 F2 H2 e2/\aR K F2 H2 σ e2) I1 ⟨F1,e1,r2,e2,R1,g3,λF2 H2 v X2 R2 A2=>⟨sG A2 g4,F2,X2,R2⟩⟩) λv s2⟨yv,H2,I2,rv2,ey,F2,X2,R2⟩=>?_)⟩;subst ey;obtain⟨t2,rfl⟩:=rv2;refine⟨by rw[l2,Se];lia,joinParts_cons (bu (hc pins s2 σ H2 (λv H3=>v=.str z/\∃F3,dF σ F2 H2 e2 F3 H3 e3/\aR K F3 H3 σ e3) I2 ⟨F2,e2,r3,e3,R2,g5,λF3 H3 v X3 R3 A3=>⟨sG A3 g6,F3,X3,R3⟩⟩) λv s3⟨zv,H3,I3,rv3,ez,F3,X3,R3⟩=>?_)⟩;subst ez;obtain⟨t3,rfl⟩:=rv3;refine⟨by rw[l3,Se];lia,joinParts_nil ⟨.str _,H3,I3.tok _,⟨_,rfl⟩,q F3 H3 _ ((X1.trans X2).trans X3) R3 Ep⟩ (by rw[l3,Se];lia)⟩
end
section
variable{X:Cx}{K:QU}{a b:QT}{fa fb:FE}{fs:FA}{pos p p2 p3:Pos}
def AN:=gI (λ_ j=>decide (0<=j)) λi j=>.int (i/2^j.toNat)
theorem Md:fY K (rI (λ_ j=>0<=j) λi j=>.int (i/2^j.toNat)) AN:=rL (λ_ _ h=>of_decide_eq_true h) λ_ _ _=>bc.mpr rfl
theorem Ii(ha:PE X a (fE K fa))(hb:PE X b (fE K fb)):PE X (.BinOp a .RShift b pos) (fE K (aB AN fa fb)):=nB JJ Md ha hb
end
def lk(ws:List Fr)(l:Int):Fr:=if l=-1 then(0,1) else ws.getD l.toNat (0,1)
theorem Sz.int10{n m:Nat}{k:Int}(hb:Bt m k)(m0:0<m)(m1:m<=1900)(h:k.natAbs<10^n)(h0:0<n):Sz (n+1) 2 (.int k):=by
 refine⟨rfl,?_,by simp[SQ],?_,iC _⟩;·show decide (k.natAbs.log2<1920)=true;rw[decide_eq_true_eq];have:=hb.log m0;lia
 ·have:=int_text_length_le10 h0 h;show(RY (toString k)).length<=n+1;rw[PySem.ofString_length];exact this
def nS(n:Int):Str:=RY (toString n)
theorem zJ:∀n:Fin 1001,(RY (toString ((n.val:Nat):Int))).length<=4:=by decide+kernel
theorem Jm{n:Int}(h0:0<=n)(h1:n<=1000):n.natAbs.log2<1900:=by have:=Nat.log2_le_self n.natAbs;lia
theorem wN{e:En}{i:Int}(h0:0<=i)(h1:i<=1000):vq e (.d (.int i))=some (.d (.str (nS i))):=by simp only[vq,bo,Rr];rw[if_pos (Jm h0 h1)];rfl
section
variable{X:Cx}{K:QU}{a:QT}{fa:FE}{pos p pos2 p2:Pos}
end
section
variable{X:Cx}{K:QU}{a:QT}{fa:FE}
end
section
variable{prog:QZ}{w:QW}{A:Rf}{R:Result->QS->Prop}
def m4(elt tg iter tg2 iter2:QT)(ifs ifs2:List QT)(scope:Rt)(pos:Pos)(acc:QP)(env:Env)(k:Sem Uw):Sem Uw:=do
 let x<-Rj iter2 env
 TC iter2.pos let x<-SF iter2 env x let _<-runOwn (.compStart (.ListComp elt [⟨tg,iter,ifs,0⟩,⟨tg2,iter2,ifs2,0⟩] scope pos) 1 (<-Ti [x] (pyIter x)) acc env) env
 k
theorem vc(elt tg iter tg2 iter2:QT)(ifs ifs2:List QT)(scope:Rt)(pos:Pos)(it acc:QP)(env:Env):compTurn (.ListComp elt [⟨tg,iter,ifs,0⟩,⟨tg2,iter2,ifs2,0⟩] scope pos) 0 it acc env=(do TC iter.pos match<-Tf it with
 |none=>pure (.done .next)|some v=>
  UA tg it v
  SE tg env v let mut ok:=true
  for c in ifs do if ok then ok<-isTrue c env (Rj c env)
  if ok then m4 elt tg iter tg2 iter2 ifs ifs2 scope pos acc env (again (.compLoop (.ListComp elt [⟨tg,iter,ifs,0⟩,⟨tg2,iter2,ifs2,0⟩] scope pos) 0 it acc env))else again (.compLoop (.ListComp elt [⟨tg,iter,ifs,0⟩,⟨tg2,iter2,ifs2,0⟩] scope pos) 0 it acc env)):=by rfl
theorem wB(elt tg iter tg2 iter2:QT)(ifs ifs2:List QT)(scope:Rt)(pos:Pos)(it acc:QP)(env:Env):compTurn (.ListComp elt [⟨tg,iter,ifs,0⟩,⟨tg2,iter2,ifs2,0⟩] scope pos) 1 it acc env=(do TC iter2.pos match<-Tf it with
 |none=>pure (.done .next)|some v=>
  UA tg2 it v
  SE tg2 env v let mut ok:=true
  for c in ifs2 do if ok then ok<-isTrue c env (Rj c env)
  if ok then(do let _<-call (.builtin "list.append") [acc,<-Rj elt env])
  again (.compLoop (.ListComp elt [⟨tg,iter,ifs,0⟩,⟨tg2,iter2,ifs2,0⟩] scope pos) 1 it acc env)):=by rfl
def Ft(prog:QZ)(w:QW)(A:Rf)(B:Sem Uw->Sem Uw)(tg:QT)(ifs:List QT)(env:Env)(it:QP)(onward:QS->Prop)(v:QP)(u:QS):Prop:=QX (QY prog w) A (UA tg it v) (λ_ u1=>QX (QY prog w) A (SE tg env v) (λ_ u2=>QX (QY prog w) A (forIn ifs true λc r=>if r=true then do let ok<-isTrue c env (Rj c env);pure (Uj ok) else pure (Uj r)) (λok u3=>if ok=true then(∀(k:Sem Uw) (Q:Uw->QS->Prop) (E:QP->QS->Prop),(∀u5,onward u5->QX (QY prog w) A k Q E u5)->QX (QY prog w) A (B k) Q E u3) else onward u3) zL u2) zL u1) zL u
theorem u_{elt tg iter tg2 iter2:QT}{ifs ifs2:List QT}{scope:Rt}{pos:Pos}{it acc:QP}{env:Env}(J:Nat->QS->Prop)(turn:∀n u,J n u->QX (QY prog w) A (Tf it) (λr u1=>(r=none->R (.ok .next) u1)/\∀v,r=some v->Ft prog w A (m4 elt tg iter tg2 iter2 ifs ifs2 scope pos acc env) tg ifs env it (λu2=>∃m,m<n/\J m u2) v u1) zL u){n0:Nat}{u0:QS}(eA:J n0 u0):SW (QY prog w) A (.compLoop (.ListComp elt [⟨tg,iter,ifs,0⟩,⟨tg2,iter2,ifs2,0⟩] scope pos) 0 it acc env) R u0:=by refine codeAny_loop rfl J (λn u ju=>?_) n0 eA;show QX _ A ((compTurn (.ListComp elt [⟨tg,iter,ifs,0⟩,⟨tg2,iter2,ifs2,0⟩] scope pos) 0 it acc env).onRaise _) _ _ u;refine wpAny_noted ?_;rw[vc];refine QV (Ud (QV (Rx (turn n u ju) (λr u1 k1=>?_) λ_ _ z=>z.elim)));cases r with|none=>exact Rl (k1.1 rfl)|some v=>refine QV (Rx (k1.2 v rfl) (λ_ u2 k2=>QV (Rx k2 (λ_ u3 k3=>QV (Rx k3 (λok u4 k4=>?_) λ_ _ z=>z.elim)) λ_ _ z=>z.elim)) λ_ _ z=>z.elim);cases ok with|false=>rw[if_neg Te]at k4;exact Rl ⟨rfl,k4⟩|true=>rw[if_pos rfl]at k4;exact k4 _ _ _ λu6 k6=>Rl ⟨rfl,k6⟩
theorem wA{elt tg iter tg2 iter2:QT}{ifs ifs2:List QT}{scope:Rt}{pos:Pos}{it acc:QP}{env:Env}(J:Nat->QS->Prop)(turn:∀n u,J n u->QX (QY prog w) A (Tf it) (λr u1=>(r=none->R (.ok .next) u1)/\∀v,r=some v->Cm prog w A elt tg2 ifs2 env it acc (λu2=>∃m,m<n/\J m u2) v u1) zL u){n0:Nat}{u0:QS}(eA:J n0 u0):SW (QY prog w) A (.compLoop (.ListComp elt [⟨tg,iter,ifs,0⟩,⟨tg2,iter2,ifs2,0⟩] scope pos) 1 it acc env) R u0:=by refine codeAny_loop rfl J (λn u ju=>?_) n0 eA;show QX _ A ((compTurn (.ListComp elt [⟨tg,iter,ifs,0⟩,⟨tg2,iter2,ifs2,0⟩] scope pos) 1 it acc env).onRaise _) _ _ u;refine wpAny_noted ?_;rw[wB];refine QV (Ud (QV (Rx (turn n u ju) (λr u1 k1=>?_) λ_ _ z=>z.elim)));cases r with|none=>exact Rl (k1.1 rfl)|some v=>refine QV (Rx (k1.2 v rfl) (λ_ u2 k2=>QV (Rx k2 (λ_ u3 k3=>QV (Rx k3 (λok u4 k4=>?_) λ_ _ z=>z.elim)) λ_ _ z=>z.elim)) λ_ _ z=>z.elim);cases ok with|false=>rw[if_neg Te]at k4;exact Rl ⟨rfl,k4⟩|true=>rw[if_pos rfl]at k4;refine QV (QV (Rx k4 (λx u5 k5=>QV (Rx k5 (λ_ u6 k6=>?_) λ_ _ z=>z.elim)) λ_ _ z=>z.elim));exact Rl (Rl ⟨rfl,k6⟩)
theorem va{elt tg iter tg2 iter2:QT}{ifs ifs2:List QT}{scope:Rt}{pos:Pos}{it acc:QP}{env:Env}{s:QS}(h0:SW (QY prog w) A (.compLoop (.ListComp elt [⟨tg,iter,ifs,0⟩,⟨tg2,iter2,ifs2,0⟩] scope pos) 1 it acc env) R s)(h:QX (QY prog w) A (pyIter it) (λit' s'=>SW (QY prog w) A (.compLoop (.ListComp elt [⟨tg,iter,ifs,0⟩,⟨tg2,iter2,ifs2,0⟩] scope pos) 1 it' acc env) R s') (notedBy (QY prog w) A env λx s'=>R (.error x) s') s):SW (QY prog w) A (.compStart (.ListComp elt [⟨tg,iter,ifs,0⟩,⟨tg2,iter2,ifs2,0⟩] scope pos) 1 it acc env) R s:=by
 refine codeAny_of_tree ?_;show QX _ _ ((compStart (.ListComp elt [⟨tg,iter,ifs,0⟩,⟨tg2,iter2,ifs2,0⟩] scope pos) 1 it acc env).onRaise (λx=>do noteFrame x env;TC theWindowsPlace)) _ _ s;refine wpAny_notedAt ?_;unfold compStart;show QX _ _ (ask>>=_) _ _ s;refine QV (wpAny_askSetting (wpAny_ite ?_));split;·first|exact QV (Rl (Rl (And.intro rfl h0)))|exact Rl (And.intro rfl h0)
 ·first|exact QV (Uq (QV (Ud (QV (Rx h (λit' s' h'=>Rl (And.intro rfl h')) λ_ _ x=>x)))))|(refine QV (Uq ?_);show QX _ _ (TC iter2.pos>>=_) _ _ s;exact QV (Ud (QV (Rx h (λit' s' h'=>Rl (And.intro rfl h')) λ_ _ x=>x))))
end
def EK(l:QQ)(wi:TI)(g:TG)(tc:TT)(te:TE)(σ:L2.St)(H:Hp)(N:L2.St->Hp->Prop):Prop:=wi σ H λJ H1=>∃W:Nat->Nat->L2.St->Hp->Prop,(∃m,W 0 m σ H1)/\∀i m σ' H',W i m σ' H'->(J.stop i H'/\N σ' H')\/(J.go i H'/\∃N2:L2.St->Hp->Prop,(∀σ2 H2,N2 σ2 H2->∃m',m'<m/\W (i+1) m' σ2 H2)/\∀x H2,J.yld i H' x H2->g x σ' H2 λσ2 H3=>tc σ2 H3 λb H4=>if b=true then te σ2 H4 λv H5=>∃ys,H5 l=some (.lst ys)/\ys.length<Rm/\N2 σ2 (upd H5 l (.lst (ys++[v]))) else N2 σ2 H4)
theorem CN{Y:Cx}{elt tg iter tg2 iter2:QT}{ifs ifs2:List QT}{scope:Rt}{pos:Pos}{wi:TI}{g:TG}{tc:TT}{te:TE}(hc:Y.calm=true)(hxe:Y.xe=zL)(hi:PI Y tg2 iter2 wi)(hg:PG Y tg2 g)(ht:uS Y ifs2 tc)(he:PE Y elt te)(hs:∀x,SF iter2 Y.env x=pure x){pins:List (QQ×Obj)}{s:QS}{σ:L2.St}{H:Hp}{D:QQ}{N:L2.St->Hp->Prop}(I:av Y pins σ H s)(h:EK D wi g tc te σ H N)(k:Sem Uw)(Q:Uw->QS->Prop)(E:QP->QS->Prop)(hk:∀s',(∃σ' H',av Y pins σ' H' s'/\N σ' H')->QX (QY Y.prog Y.w) Y.A k Q E s'):QX (QY Y.prog Y.w) Y.A (m4 elt tg iter tg2 iter2 ifs ifs2 scope pos (.ref D) Y.env k) Q E s:=by
 unfold m4;have hi':=hi pins s σ H _ I h;rw[hxe]at hi';refine QV (Rx hi' (λv s1 h1=>QV (Ud (QV (wpAny_of_eq (hs v) (QV (Up (Rx h1 (λitv s2 h2=>?_) λ_ _ z=>z.elim))))))) λ_ _ z=>z.elim);obtain⟨it,fp,tn,J,H2,rfl,I2,T,st2,f2,W,⟨m0,w0⟩,turn⟩:=h2;have stat:∀{H':Hp},(∀b∈fp,H' b=none)->∀b∈fp,iG Y pins H' b:=λhn b hb=>⟨hn b hb,(f2 b hb).2⟩;have loop:SW (QY Y.prog Y.w) Y.A (.compLoop (.ListComp elt [⟨tg,iter,ifs,0⟩,⟨tg2,iter2,ifs2,0⟩] scope pos) 1 (.ref it) (.ref D) Y.env) (λr s'=>match r with|.ok f=>QX (QY Y.prog Y.w) Y.A k Q E s'|.error e=>cameBackBy (QY Y.prog Y.w) Y.A Y.env E e s') s2:=by
  refine wA (λn s'=>∃i σ' H',av Y pins σ' H' s'/\tn i s'.heap/\(∀b∈fp,H' b=none)/\W i n σ' H') ?_ (n0:=m0) ⟨0,σ,H2,I2,st2,λb hb=>(f2 b hb).1,w0⟩;rintro n s3⟨i,σ3,H3,I3,st3,fr3,w3⟩;rcases turn i n σ3 H3 w3 with⟨stop,qn⟩|⟨go,N2,hN,step⟩;·refine bu (T.done Y rfl rfl rfl hc i pins s3 σ3 H3 zL I3 (stat fr3) st3 stop) λr s4⟨hr,I4⟩=>?_;subst hr;exact⟨λ_=>hk _ ⟨σ3,H3,I4,qn⟩,λv z=>by cases z⟩
  ·refine bu (T.item Y rfl rfl rfl hc i pins s3 σ3 H3 zL I3 (stat fr3) st3 go) λr s4⟨u,hr,h4⟩=>?_;subst hr;refine⟨λz=>(by cases z),λv z=>?_⟩;cases z;refine bu h4 λ_ s5⟨x,H5,I5,r5,y5,st5,fr5⟩=>?_;have I5':=I5.pinned (stat fr5) (T.obj _ _ st5);have again:∀{σ8:L2.St}{H8:Hp}{s8:QS},av Y (pins++mx fp s5.heap) σ8 H8 s8->N2 σ8 H8->∃m,m<n/\∃i σ' H',av Y pins σ' H' s8/\tn i s8.heap/\(∀b∈fp,H' b=none)/\W i m σ' H':=fun{σ8 H8 s8}I8 n8=>by obtain⟨m',hm,w8⟩:=hN σ8 H8 n8;refine⟨m',hm,i+1,σ8,H8,I8.unpinned,T.keep _ _ _ st5 λb hb o e=>(I8.pin (b,o) (Sk _ (Sk _ (cW hb e)))).1,λb hb=>?_,w8⟩;obtain⟨o,e,d⟩:=T.obj _ _ st5 b hb;exact(I8.pin (b,o) (Sk _ (Sk _ (cW hb e)))).2.1
   have hg':=hg _ s5 σ3 H5 x u _ I5' r5 (step x H5 y5);rw[hxe]at hg';refine bu hg' λ_ s8⟨σ8,H8,I8,q8⟩=>?_;have ht':=ht _ s8 σ8 H8 _ I8 q8;rw[hxe]at ht';refine bu ht' λok s9⟨H9,I9,q9⟩=>?_;cases ok with|false=>rw[if_neg Te]at q9⊢;exact again I9 q9|true=>rw[if_pos rfl]at q9⊢;have he':=he _ s9 σ8 H9 _ I9 q9;rw[hxe]at he';refine bu he' λv s10⟨xv,H10,I10,r10,ys,hl,hz,n10⟩=>?_;have ha:=lL _ s10 σ8 H10 (.ref D) [xv] (.ref D) [v] (λ_ H=>N2 σ8 H) I10 rfl (.cons r10 .nil) ⟨D,ys,xv,rfl,rfl,hl,hz,n10⟩;rw[hxe]at ha;refine bu ha λ_ s11⟨_,H11,I11,_,q11⟩=>?_;exact again I11 q11
 exact QV (wpAny_runOwn (va loop (T.self Y.A 0 _ _ _ st2 loop)))
structure yZ (cp:List (Nat×Str)) (nT:Nat) (wi:TI) (g:TG) (tc:TT) (wi2:TI) (g2:TG) (tc2:TT) (te:TE) (σ:L2.St) (H:Hp) (Q:VK):Prop where go:wi σ H λJ H1=>∀l,H1 l=none->∃W:Nat->Nat->L2.St->Hp->Prop,(∃m,W 0 m (iM cp nT σ) (upd H1 l (.lst [])))/\∀i m σ' H',W i m σ' H'->(J.stop i H'/\Q (.ref l) H')\/(J.go i H'/\∃N:L2.St->Hp->Prop,(∀σ2 H2,N σ2 H2->∃m',m'<m/\W (i+1) m' σ2 H2)/\∀x H2,J.yld i H' x H2->g x σ' H2 λσ2 H3=>tc σ2 H3 λb H4=>if b=true then EK l wi2 g2 tc2 te σ2 H4 N else N σ2 H4)
def i_(g:FG)(ft:FT)(fi2:FI)(g2:FG)(ft2:FT)(fe:FE):List QR->En->List QR->Option (List QR×En)|[],e,acc=>some (acc,e)|x::r,e,acc=>(g x e).bind λe1=>(ft e1).bind λb=>if b.1=true then(fi2 b.2).bind λp=>if p.2.1=[]then(cS g2 ft2 fe p.1 p.2.2 acc).bind λz=>i_ g ft fi2 g2 ft2 fe r z.2 z.1 else none else i_ g ft fi2 g2 ft2 fe r b.2 acc
def j_(cp:List (Nat×Str))(nT:Nat)(fi:FI)(g:FG)(ft:FT)(fi2:FI)(g2:FG)(ft2:FT)(fe:FE):FE:=λe=>(fi e).bind λp=>if (p.2.1.all λq=>!(cp.any λc=>c.1==q.1))=true then(i_ g ft fi2 g2 ft2 fe p.1 (mG cp nT p.2.2) []).bind λz=>if kQ cp z.2 p.2.2=true then some (.l z.1,oO (nk cp) z.2 p.2.2) else none else none
section
variable{K:QU}{F H:Hp}{σ:L2.St}{e:En}{cp:List (Nat×Str)}{nT:Nat}
theorem BJ{Q:VK}{fi fi2:FI}{g g2:FG}{W:List Nat}{ft ft2:FT}{fe:FE}(hn:(cp.map (·.1)).Nodup)(hW:∀j∈W,cp.length<=j)(h:fE K (j_ cp nT fi g ft fi2 g2 ft2 fe) σ H Q):yZ cp nT (fI K fi) (fG K g W) (fT K ft) (fI K fi2) (fG K g2 W) (fT K ft2) (fE K fe) σ H Q:=by
 obtain⟨F0,e0,z,e',R0,hf,q⟩:=h;unfold j_ at hf;obtain⟨⟨items,own,e1⟩,h1,hf⟩:=QI hf;dsimp only at hf;split at hf;case isFalse=>cases hf
 case isTrue hO=>
 obtain⟨⟨out,eo⟩,h2,hf⟩:=QI hf;dsimp only at hf;split at hf;case isFalse=>cases hf
 case isTrue hB=>
 cases hf;refine⟨⟨F0,e0,items,own,e1,R0,h1,λJ F1 H1 X1 R1 kp ok=>?_⟩⟩;intro l hl;obtain⟨Ri,sub⟩:=R1.inn (nT:=nT) hn;have hFl:F1 l=none:=R1.freeF hl;let Iv:Nat->L2.St->Hp->Prop:=λi=>CI K W (iM cp nT σ) F1 H1 (mG cp nT e1) l λ_ ei acc=>i_ g ft fi2 g2 ft2 fe (items.drop i) ei acc=some (out,eo);have notown:∀p∈own,∀a,σ[p.1]?=some (some (.ref a))->¬bq (iM cp nT σ) (mG cp nT e1) H1 a:=by rintro p hp a ha⟨k,zf⟩;obtain⟨xs,c1,c2⟩:=zf.resolve_right λ⟨xss,_,_,z,_⟩=>jX k xss z;obtain⟨i,s,d1,d2⟩:=jW c1;have e2:=nW d1 c2;have:p.1=i:=R1.inj p.1 i p.2 xs a (kp p hp) d2 ha e2;have hh:=RV.mp hO p hp;simp only[Vy,List.any_eq_false,beq_iff_eq]at hh;exact hh (i,s) (QO d1) this.symm
 refine⟨λi m σ' H'=>m=items.length-i/\i<=items.length/\Iv i σ' H',⟨items.length,by simp,SY _,.mk (Ri.putT hFl (λz=>(Ri.ownH l z) hl)).1 (cP.refl.putT hl (Ri.putT hFl (λz=>(Ri.ownH l z) hl)).2) hFl (λz=>(Ri.ownH l (((Ri.putT hFl (λz=>(Ri.ownH l z) hl)).2 l).mp z)) hl) ao aI.nil h2⟩,?_⟩;rintro i m σ' H'⟨rfl,hi,⟨R',X',fl,no,hl',da,hc⟩⟩;rename_i F' ei acc vs;have held:x4 K σ F' H' own:=λp hp=>by obtain⟨a,us,c1,c2,c3,c4⟩:=R1.own p.1 p.2 (kp p hp);exact⟨a,us,c1,X'.tmp a _ c3 (notown p hp a c1),c4.mono X'.sf⟩
 obtain⟨go,stop,yld⟩:=ok F' H' X'.sf R'.sm held;by_cases hlt:i<items.length
 ·have hd:items.drop i=items[i]::items.drop (i+1):=Uu hlt;rw[hd]at hc;unfold i_ at hc;obtain⟨e2,c2,hc⟩:=QI hc;obtain⟨⟨b,e3⟩,c3,hc⟩:=QI hc;refine .inr ⟨go i hlt,Iv (i+1),λσ2 H2 r=>⟨items.length-(i+1),by lia,rfl,hlt,r⟩,λx H2 hy=>?_⟩;obtain⟨F2,sH,sF2,sm2,fz,hx⟩:=yld i items[i] x H2 (RS hlt) hy;obtain⟨R2,X2⟩:=R'.step sH sF2 sm2 fz;refine⟨F2,ei,items[i],e2,R2,hx,c2,λσ3 X3 R3=>⟨F2,e2,b,e3,R3,c3,λF4 H4 X4 R4=>?_⟩⟩;have hlH2:H2 l=some (.lst vs):=sH _ _ hl';have no2:¬bq σ' ei H2 l:=λz=>by
   rcases X2.ow l z with z|z;·exact no z
   ·rw[hl']at z;cases z
  have no3:¬bq σ3 e2 H2 l:=λz=>by
   rcases X3.own l z with z|z;·exact no2 z
   ·rw[hlH2]at z;cases z
  have fl2:F2 l=none:=fz l fl (by rw[hl'];simp);have hlH4:H4 l=some (.lst vs):=X4.tmp l _ hlH2 no3;have fl4:F4 l=none:=X4.fr l vs fl2 hlH2 no3;have no4:¬bq σ3 e3 H4 l:=λz=>by
   rcases X4.ow l z with z|z;·exact no3 z
   ·rw[hlH2]at z;cases z
  have E4:cP W (iM cp nT σ) F1 H1 (mG cp nT e1) σ3 F4 H4 e3:=((X'.trans X2.s).trans X3).trans X4.s;have da4:=da.mono (sF2.trans X4.sf);cases b with|false=>rw[if_neg ↥1]at hc;exact AS (.mk R4 E4 fl4 no4 hlH4 da4 hc)|true=>
   rw[if_pos rfl]at hc;obtain⟨⟨its2,own2,e5⟩,c5,hc⟩:=QI hc;dsimp only at hc;split at hc;case isFalse=>cases hc
   case isTrue ho2=>
   subst ho2;obtain⟨⟨acc2,e6⟩,c6,hc⟩:=QI hc;refine AU ⟨F4,e3,its2,[],e5,R4,c5,λJ2 F5 H5 X5 R5 _ ok2=>?_⟩;have hlH5:H5 l=some (.lst vs):=X5.tmp l _ hlH4 no4;have fl5:F5 l=none:=X5.fr l vs fl4 hlH4 no4;have no5:¬bq σ3 e5 H5 l:=λz=>by
    rcases X5.ow l z with z|z;·exact no4 z
    ·rw[hlH4]at z;cases z
   let Iv2:Nat->L2.St->Hp->Prop:=λj=>CI K W (iM cp nT σ) F1 H1 (mG cp nT e1) l λF' ei acc=>aw F5 F'/\cS g2 ft2 fe (its2.drop j) ei acc=some (acc2,e6);refine⟨λj m σ' H'=>m=its2.length-j/\j<=its2.length/\Iv2 j σ' H',⟨its2.length,by simp,SY _,.mk R5 (E4.trans X5.s) fl5 no5 hlH5 (da4.mono X5.sf) ⟨aw.refl _,c6⟩⟩,?_⟩;rintro j m σ6 H6⟨rfl,hj,⟨R6,X6,fl6,no6,hl6,da6,s6,hc6⟩⟩;rename_i F6 ei6 acc6 vs6;obtain⟨go2,stop2,yld2⟩:=ok2 F6 H6 s6 R6.sm (λp hp=>by cases hp);by_cases hjt:j<its2.length
   ·have hd2:its2.drop j=its2[j]::its2.drop (j+1):=Uu hjt;rw[hd2]at hc6;unfold cS at hc6;obtain⟨e7,c7,hc6⟩:=QI hc6;obtain⟨⟨b8,e8⟩,c8,hc6⟩:=QI hc6;refine .inr ⟨go2 j hjt,Iv2 (j+1),λσ2 H2 r=>⟨its2.length-(j+1),by lia,rfl,hjt,r⟩,λx7 H7 hy7=>?_⟩;obtain⟨F7,sH7,sF7,sm7,fz7,hx7⟩:=yld2 j its2[j] x7 H7 (RS hjt) hy7;obtain⟨R7,X7⟩:=R6.step sH7 sF7 sm7 fz7;refine⟨F7,ei6,its2[j],e7,R7,hx7,c7,λσ8 X8 R8=>⟨F7,e7,b8,e8,R8,c8,λF9 H9 X9 R9=>?_⟩⟩;have hlH7:H7 l=some (.lst vs6):=sH7 _ _ hl6;have no7:¬bq σ6 ei6 H7 l:=λz=>by
     rcases X7.ow l z with z|z;·exact no6 z
     ·rw[hl6]at z;cases z
    have no8:¬bq σ8 e7 H7 l:=λz=>by
     rcases X8.own l z with z|z;·exact no7 z
     ·rw[hlH7]at z;cases z
    have fl7:F7 l=none:=fz7 l fl6 (by rw[hl6];simp);have hlH9:H9 l=some (.lst vs6):=X9.tmp l _ hlH7 no8;have fl9:F9 l=none:=X9.fr l vs6 fl7 hlH7 no8;have no9:¬bq σ8 e8 H9 l:=λz=>by
     rcases X9.ow l z with z|z;·exact no8 z
     ·rw[hlH7]at z;cases z
    have E9:cP W (iM cp nT σ) F1 H1 (mG cp nT e1) σ8 F9 H9 e8:=((X6.trans X7.s).trans X8).trans X9.s;have s9:aw F5 F9:=(s6.trans sF7).trans X9.sf;cases b8 with|false=>rw[if_neg ↥1]at hc6;exact AS (.mk R9 E9 fl9 no9 hlH9 (da6.mono (sF7.trans X9.sf)) ⟨s9,hc6⟩)|true=>
     rw[if_pos rfl]at hc6;obtain⟨⟨r,e10⟩,c10,hc6⟩:=QI hc6;obtain⟨d,c11,hc6⟩:=QI hc6;split at hc6;case isFalse=>cases hc6
     case isTrue hlen=>
     refine AU ⟨F9,e8,r,e10,R9,c10,λFa Ha v Xa Ra Aa=>?_⟩;have hlHa:Ha l=some (.lst vs6):=Xa.tmp l _ hlH9 no9;have fla:Fa l=none:=Xa.fr l vs6 fl9 hlH9 no9;have noa:¬bq σ8 e10 Ha l:=λz=>by
      rcases Xa.ow l z with z|z;·exact no9 z
      ·rw[hlH9]at z;cases z
     obtain⟨Fb,Rb,sb,db,fb⟩:=ce.frozen Ra (rs:=[r]) (vs:=[v]) ⟨v,[],rfl,Aa,rfl⟩ (lH c11);have flb:Fb l=none:=fb l fla (by rw[hlH9];simp);have Xb:=Xa.frz sb fb;have ll:=da6.len;have sl:Rm=16777216:=Se;have dv:DA K Fb d v:=by simp only[aI]at db;obtain⟨v',r',e',hv,_⟩:=db;cases e';exact hv
     obtain⟨Rc,oc⟩:=Rb.putT (ws:=vs6++[v]) flb noa;exact⟨vs6,hlHa,by lia,.mk Rc ((E9.trans Xb.s).putT hl oc) flb (λz=>noa ((oc l).mp z)) ao ((da6.mono (sF7.trans (X9.sf.trans (Xa.sf.trans sb)))).append (aI.one dv)) ⟨s9.trans (Xa.sf.trans sb),hc6⟩⟩
   ·have hd2:its2.drop j=[]:=Vx ↥0;rw[hd2]at hc6;cases hc6;exact .inl ⟨stop2 j ↥0,.mk R6 X6 fl6 no6 hl6 da6 hc⟩
 ·have hd:items.drop i=[]:=Vx ↥0;rw[hd]at hc;cases hc;refine .inl ⟨stop i ↥0,?_⟩;obtain⟨R9,X9,o9⟩:=sE R1 sub jX X'.sf X'.dom X'.fr X'.lst X'.tmp X'.fd R' (λi k xs g1 g2=>X'.wr k λz=>by obtain⟨s,g⟩:=dW g2;have:=(QK g).1;have:=hW k z;lia) λi k xs g1 g2=>by obtain⟨s,g⟩:=dW g2;unfold kQ at hB;have hb:=RV.mp hB _ (QO g);simp only[g1,g2,Vt,AR,UI,Wd]at hb;exact zE.mp hb
  exact q F' H' (.ref l) (X1.trans X9) R9 ⟨l,vs,rfl,X1.dom l hl,fl,hl',da,λz=>R1.ownH l (o9 l z) hl⟩
end
theorem PG.wide{X:Cx}{K:QU}{tg:QT}{g:FG}{W W':List Nat}(h:PG X tg (fG K g W))(hw:∀j,j∈W->j∈W'):PG X tg (fG K g W'):=h.mono λv σ H Q⟨F,e,x,e',R,d,hg,q⟩=>⟨F,e,x,e',R,d,hg,λσ' x=>q σ' (x.mono hw)⟩
section
variable{X:Cx}{K:QU}{pos:Pos}
end
section
variable{X:Cx}{K:QU}{pos:Pos}
variable{o:QT}{fo:FE}{apos cpos:Pos}
end
section
variable{X:Cx}{K:QU}
def NY:List Int->Int|[]=>0|x::r=>r.foldl max x
end
structure NT (f:Fr):Prop where
 pos:0<f.2
 cop:Rw f.1 f.2=1
def NV(t:pO)(b:Bool):Fr:=if b then(t.top,t.bot) else(t.bot-t.top,t.bot)
abbrev Pg:=List Int×Int
def NZ(t:pO)(p:Pg):Bool:=!p.1.contains t.one&&!p.1.contains t.other
def MY(t:pO)(p:Pg):Pg:=(p.1++[t.one,t.other],p.2+t.worth)
def N5(ps:List Pg)(t:pO):List Pg:=ps++(ps.filter (NZ t)).map (MY t)
def N1(ts:List pO):List Pg:=ts.foldl N5 [([],0)]
def NJ(ts:List pO):Int:=NY ((N1 ts).map (·.2))
section
variable{prog:QZ}{w:QW}{A:Rf}{E:QP->QS->Prop}{s:QS}
end
section
variable{X:Cx}{a:QT}{ta:TA}{p p2 pos pos2:Pos}
variable{K:QU}{fs:FA}{p3:Pos}
end
theorem mf{α:Type}:∀(l:List α) (i:Nat) (h:i<l.length),(l[i]::l.eraseIdx i).Perm l|x::r,0,_=>.refl _|x::r,i+1,h=>(List.Perm.swap x _ _).trans ((mf r i (by simpa using h)).cons x)|[],_,h=>by simp at h
mutual
def wt:QR->Nat|.list xs=>EW xs+1|.tuple xs=>EW xs+1|.dict _=>1|.none=>1|.bool _=>1|.int _=>1|.str _=>1
def EW:List QR->Nat|[]=>0|x::r=>wt x+EW r
end
section
variable{X:Cx}{K:QU}
variable{a b:QT}{fa fb:FE}{pos:Pos}
end
def tx(s:Str):List Nat:=s.cps.toList
def MC(i:Nat)(l:Int):Prop:=l=-1\/(i:Int)<l
def K0(T:List Nd):Prop:=∀(i:Nat) (x:Nd),T[i]?=some x->MC i x.yes/\MC i x.no
section
variable{X:Cx}{K:QU}{es:List QT}{k0:Nat}{tp:Pos}{a b:QT}{fs:FA}{p pos:Pos}
def zD(fs:FA):FI:=λe=>(fs e).bind λp=>match p.1 with|[.d (.tuple xs),.d (.tuple ys)]=>some (mF xs ys,[],p.2)|_=>none
end
def iK(x:Nd)(b:Bool):Int:=if b=true then x.yes else x.no
def lS(T:List Nd)(i:Nat)(b:Bool):Int:=match T[i]? with|some x=>iK x b|none=>-1
theorem jc{T:List Nd}{i:Nat}{x:Nd}{b:Bool}(h:T[i]?=some x):lS T i b=iK x b:=by unfold lS;rw[h]
theorem h_{T:List Nd}{i:Nat}{b:Bool}(h:T[i]?=none):lS T i b=-1:=by unfold lS;rw[h]
theorem C1{x:Nd}{s n:Int}{b:Bool}(hs:s=0\/s=1):iK (ef x s n) b=if b=(s==0) then n else iK x b:=by rcases hs with rfl|rfl<;>cases b<;>simp[iK,ef]
def Fm(T:List Nd):Prop:=∀(i j:Nat) (a b:Bool),lS T i a=lS T j b->lS T i a≠-1->i=j/\a=b
def EV(w:Wt):Int×Int:=(w.par,w.side)
structure E3 (T:List Nd) (ws:List Wt):Prop where
 unq:Fm T
 rng:∀i a,lS T i a=-1\/(0<lS T i a/\lS T i a<(T.length:Int))free:∀w∈ws,w.par=-1\/(0<=w.par/\w.par<(T.length:Int)/\lS T w.par.toNat (w.side==0)=-1)dst:(ws.map EV).Nodup
 side:∀w∈ws,w.side=0\/w.side=1
theorem E3.first{s:Std}:E3 [] [⟨s,-1,0⟩]:=⟨λi j a b _ h=>absurd (h_ ↥1) h,λi a=>.inl (h_ ↥1),λw hw=>by simp at hw;subst hw;exact .inl rfl,by simp,λw hw=>by simp at hw;subst hw;exact .inl rfl⟩
theorem E3.less{T:List Nd}{w:Wt}{ws:List Wt}(h:E3 T (w::ws)):E3 T ws:=⟨h.unq,h.rng,λv hv=>h.free v (by simp[hv]),(Ue.mp h.dst).2,λv hv=>h.side v (by simp[hv])⟩
theorem wZ{T:List Nd}{p s k:Int}{i:Nat}{a:Bool}(hs:s=0\/s=1)(hp:p=-1\/(0<=p/\p<(T.length:Int))):lS ((if 0<=p then T.modify p.toNat (λx=>ef x s T.length) else T)++[⟨k,-1,-1⟩]) i a=if (i:Int)=p/\a=(s==0) then(T.length:Int) else lS T i a:=by
 generalize hT:(if 0<=p then T.modify p.toNat (λx=>ef x s T.length) else T)=T';have len:T'.length=T.length:=by rw[<-hT];split<;>simp
 by_cases c:i<T.length
 ·have hx:T[i]?=some T[i]:=RS c;generalize T[i]=x at hx;by_cases e:(i:Int)=p
  ·have e2:p.toNat=i:=by lia
   have:(T'++[(⟨k,-1,-1⟩:Nd)])[i]?=some (ef x s T.length):=by rw[SM ↥0,<-hT,if_pos ↥0,UJ,e2,hx];simp
   rw[jc this,C1 hs,jc hx];simp[e]
  ·have:(T'++[(⟨k,-1,-1⟩:Nd)])[i]?=some x:=by
    rw[SM ↥0,<-hT];split
    ·rw[UJ,hx];have:¬p.toNat=i:=by lia
     simp[this]
    ·exact hx
   rw[jc this,jc hx,if_neg (λz=>e z.1)]
 ·rw[if_neg (λz=>by lia),h_ (T:=T) (Vi ↥0)];by_cases d:i=T.length;·subst d;rw[jc (x:=⟨k,-1,-1⟩) (by rw[UZ ↥0,len];simp)];cases a<;>rfl
  ·exact h_ (Vi (by simp[len];lia))
theorem E3.more{T:List Nd}{w:Wt}{ws:List Wt}{k:Int}{s1 s2:Std}(h:E3 T (w::ws)):E3 ((if 0<=w.par then T.modify w.par.toNat (λx=>ef x w.side T.length) else T)++[⟨k,-1,-1⟩]) (ws++[⟨s1,T.length,0⟩,⟨s2,T.length,1⟩]):=by
 have hs:=h.side w ↥1;have hp:w.par=-1\/(0<=w.par/\w.par<(T.length:Int)):=(h.free w ↥1).imp id λz=>⟨z.1,z.2.1⟩;have F:=λi a=>wZ (T:=T) (k:=k) (i:=i) (a:=a) hs hp;have len:((if 0<=w.par then T.modify w.par.toNat (λx=>ef x w.side T.length) else T)++[(⟨k,-1,-1⟩:Nd)]).length=T.length+1:=by rw[RW];split<;>simp
 generalize (if 0<=w.par then T.modify w.par.toNat (λx=>ef x w.side T.length) else T)++[(⟨k,-1,-1⟩:Nd)]=T' at F len;have hd:=h.dst;rw[Rn,Ue]at hd;refine⟨λi j a b e n=>?_,λi a=>?_,λv hv=>?_,?_,λv hv=>?_⟩
 ·rw[F,F]at e;rw[F]at n;have r1:=h.rng i a;have r2:=h.rng j b;by_cases c1:(i:Int)=w.par/\a=(w.side==0)
  ·by_cases c2:(j:Int)=w.par/\b=(w.side==0);·exact⟨by lia,by rw[c1.2,c2.2]⟩
   ·rw[if_pos c1,if_neg c2]at e;lia
  ·by_cases c2:(j:Int)=w.par/\b=(w.side==0);·rw[if_neg c1,if_pos c2]at e;lia
   ·rw[if_neg c1,if_neg c2]at e;rw[if_neg c1]at n;exact h.unq i j a b e n
 ·rw[F,len];split;·rename_i c;right;lia
  ·have:=h.rng i a;lia
 ·rw[len];rcases QL hv with hv|hv
  ·rcases h.free v (by simp[hv]) with z|⟨z1,z2,z3⟩;·exact .inl z
   ·refine .inr ⟨z1,by lia,?_⟩;rw[F,if_neg ?_];·exact z3
    ·intro⟨c1,c2⟩;refine hd.1 (List.mem_map.mpr ⟨v,hv,?_⟩);have e1:v.par=w.par:=by lia
     have e2:v.side=w.side:=by rcases h.side v (by simp[hv]) with q|q<;>rcases hs with r|r<;>rw[q,r]at c2⊢<;>simp at c2
     unfold EV;rw[e1,e2]
  ·have:v.par=(T.length:Int):=by simp only[RC,RM,or_false]at hv;rcases hv with rfl|rfl<;>rfl
   refine .inr ⟨by lia,by lia,?_⟩;rw[this,F,if_neg ↥0];exact h_ (Vi ↥1)
 ·rw[TY,Wk];refine⟨hd.2,by simp[EV],λx hx y hy=>?_⟩;obtain⟨v,hv,rfl⟩:=QM hx;have hv2:=h.free v (by simp[hv]);intro e;have:y.1=(T.length:Int):=by simp only[Rn,RQ,RC,RM,or_false,EV]at hy;rcases hy with rfl|rfl<;>rfl
  rw[<-e]at this;have:v.par=(T.length:Int):=this;lia
 ·rcases QL hv with hv|hv;·exact h.side v (by simp[hv])
  ·simp only[RC,RM,or_false]at hv;rcases hv with rfl|rfl;·exact .inl rfl
   ·exact .inr rfl
def K2(T:List Nd):Prop:=Fm T/\∀j:Nat,0<j->j<T.length->∃i b,lS T i b=(j:Int)
theorem LJ{T:List Nd}(o:K0 T){i:Nat}{x:Nd}(hx:T[i]?=some x)(b:Bool):MC i (iK x b):=by
 cases b;·exact(o i x hx).2
 ·exact(o i x hx).1
theorem BI{cp:List (Nat×Str)}{nT:Nat}{fi fi2:FI}{g g2:FG}{ft ft2:FT}{fe:FE}{e e1 cs:En}{t t':En}{items out:List QR}(h1:fi e=some (items,[],e1))(hc:mG cp nT e1=cs++t)(hl:cs.length=cp.length)(h3:i_ g ft fi2 g2 ft2 fe items (mG cp nT e1) []=some (out,cs++t')):j_ cp nT fi g ft fi2 g2 ft2 fe e=some (.l out,e1):=by
 have key:=jJ (cp:=cp) (nT:=nT) (fi:=λ_=>some ([.none],[],e1)) (g:=λ_ _=>some (cs++t')) (ft:=λe=>some (false,e)) (fe:=fe) (e:=e) (cs:=cs) (t:=t) (t':=t') (out:=[]) rfl hc hl rfl;have c0:cS (λ_ _=>some (cs++t')) (λe=>some (false,e)) fe [.none] (mG cp nT e1) []=some ([],cs++t'):=rfl;unfold dk at key;unfold j_;rw[h1];simp only[Rr,Vz,if_true,h3,c0]at key⊢;split at key;·rename_i q;rw[if_pos q];have:=RG key;have e2:oO (nk cp) (cs++t') e1=e1:=(Prod.ext_iff.mp this).2;rw[e2]
 ·cases key
section
variable{prog:QZ}{w:QW}{A:Rf}{E:QP->QS->Prop}{s:QS}
end
section
variable{X:Cx}{tg a:QT}{ta:TA}{p pos:Pos}
end
section
variable{X:Cx}{K:QU}{σ:L2.St}{tg a:QT}{fs:FA}{p pos:Pos}
end
section
variable{X:Cx}{a k:QT}{p2 pos:Pos}{fa fk:FE}{K:QU}
section
variable{prog:QZ}{w:QW}{A:Rf}{E:QP->QS->Prop}{s:QS}
end
end
section
variable{X:Cx}{a b:QT}{ta:TA}{p p2 pos pos2:Pos}{K:QU}{fs:FA}
end
section
variable{X:Cx}{o i e:QT}{fo fi:FE}{tpos pos:Pos}{K:QU}
end
section
variable{X:Cx}{o i e:QT}{fo fi fv:FE}{tpos pos:Pos}{K:QU}
end
section
variable{X:Cx}{K:QU}
end
section
open PySem.MeetsSeq2 PySem.AutoSeq1 PySem.SeqAt
end
section
variable{X:Cx}{K:QU}{o a:QT}{to te:TE}{name:Str}{apos cpos:Pos}{T id:String}{r:V->List V->Hp->VK->Prop}{fo fa:FE}
end
section
variable{X:Cx}{K:QU}{o a:QT}{apos cpos:Pos}{fo fa:FE}
end
section
variable{K:QU}{F H:Hp}{σ:L2.St}{e:En}{cp:List (Nat×Str)}{nT:Nat}
end
section
variable{X:Cx}{K:QU}{a b:QT}{es:List QT}{fa fb:FE}{fs:FA}{pos p p2 p3:Pos}{lo hi:Option QT}
end
section
variable{X:Cx}{K:QU}
end
section
variable{X:Cx}{K:QU}{a b:QT}{fa fb:FE}{pos:Pos}
def Cy:=gI (λ_ _=>true) λi j=>.int (UV i j)
theorem K7:fY K (xu λi j=>.int (UV i j)) Cy:=jZ λ_ _ _=>bc.mpr rfl
theorem LQ(ha:PE X a (fE K fa))(hb:PE X b (fE K fb)):PE X (.BinOp a .BitAnd b pos) (fE K (aB Cy fa fb)):=nB Jz K7 ha hb
theorem Cz{e:En}{i j:Int}:Cy e (.d (.int i)) (.d (.int j))=some (.d (.int (UV i j))):=rfl
end
section
variable{X:Cx}{K:QU}
end
structure S1 (n:Nat) (f:Fr):Prop where
 low:NT f
 lo:0<=f.1
 hi:f.1<=f.2
 bt:Bt n f.2
def vR(f:Fr):Rat:=(f.1:Rat)/(f.2:Rat)
def cR(t:pO)(b:Bool):Rat:=vR (NV t b)
def NW(T:List Nd)(i:Nat):List Int:=(if lS T i true=-1 then[]else[lS T i true])++(if lS T i false=-1 then[]else[lS T i false])
def fX(T:List Nd):Nat->List Int|0=>[]|m+1=>fX T m++NW T m
def hR(t:pO):Rat:=cR t true*(t.worth:Rat)
section
variable{K:QU}
variable{X:Cx}{σ:L2.St}{H0 H:Hp}{e:En}
end
section
variable{X:Cx}{a b:QT}{ta:TA}{p p2 pos pos2:Pos}
end
section
variable{X:Cx}{K:QU}{fs:FA}{a b:QT}{p p2 pos pos2:Pos}
end
theorem bw:∀(names:List (Str×Sx)) (n:Nat) (acc:List (Str×QQ)),RO n names acc=RO n names []++acc
 |[],_,_=>rfl|(x,k)::r,n,acc=>by
  unfold RO;split;·rw[bw r (n+1) ((x,n)::acc),bw r (n+1) [(x,n)],UF];rfl
  ·exact bw r n acc
theorem jO:∀(names:List (Str×Sx)) (n:Nat) (x:Str) (c:QQ),(RO n names []).lookup x=some c->∃y∈names,y.1=x/\y.2=.cell
 |[],_,_,_,h=>by simp[RO]at h|(z,k)::r,n,x,c,h=>by
  unfold RO at h;split at h;·rename_i hk;rw[bw,VC]at h;cases q:(RO (n+1) r []).lookup x with|some d=>obtain⟨y,hy,e⟩:=jO r _ x d q;exact⟨y,Td _ hy,e⟩|none=>rw[q]at h;have h':Vf x [(z,n)]=some c:=h;rw[Tt]at h';cases hx:x==z with|true=>exact⟨(z,k),Tz,(by simpa using hx:x=z).symm,by simpa using hk⟩|false=>rw[hx]at h';simp at h'
  ·obtain⟨y,hy,e⟩:=jO r n x c h;exact⟨y,Td _ hy,e⟩
theorem i9:∀(names:List (Str×Sx)) (n:Nat) (x:Str),(∃y∈names,y.1=x/\y.2=.cell)->∃c,(RO n names []).lookup x=some c
 |[],_,_,⟨_,h,_⟩=>by cases h|(z,k)::r,n,x,⟨y,hy,e1,e2⟩=>by
  unfold RO;split;·rename_i hk;rw[bw,VC];cases q:(RO (n+1) r []).lookup x with|some d=>exact⟨d,rfl⟩|none=>
   rcases QN hy with w|w;·subst w;subst e1;exact⟨n,by simp[Tt]⟩
   ·obtain⟨c,hc⟩:=i9 r (n+1) x ⟨y,w,e1,e2⟩;rw[q]at hc;cases hc
  ·rename_i hk;rcases QN hy with w|w;·subst w;exact absurd (by simpa using e2) hk
   ·exact i9 r n x ⟨y,w,e1,e2⟩
theorem tQ{env:Env}:∀(names:List (Str×Sx)) (cs:List (Str×QQ)) (x:Str),(¬∃y∈names,y.1=x/\y.2=.free)->cs.lookup x=none->(jm env names cs).lookup x=none
 |[],_,_,_,h=>h|(n,k)::r,cs,x,hn,hcs=>by
  refine tQ r _ x (λ⟨y,hy,z⟩=>hn ⟨y,Td _ hy,z⟩) ?_;by_cases hk:(k==SO)=true;·rw[if_pos hk,Tt];cases hx:x==n with|true=>exact absurd ⟨(n,k),Tz,(by simpa using hx:x=n).symm,by simpa using hk⟩ hn|false=>exact hcs
  ·rw[if_neg hk];exact hcs
theorem rW{env:Env}:∀{names:List (Str×Sx)}{x:Str},(names.map fun(n,k)=>if (k==SO&&env.scope.kind==.function&&env.kindOf n==some .cell) then(n,UG) else(n,k)).lookup x=some .cell\/(names.map fun(n,k)=>if (k==SO&&env.scope.kind==.function&&env.kindOf n==some .cell) then(n,UG) else(n,k)).lookup x=some .free->∃y∈names,y.1=x/\(y.2=.free\/y.2=.cell)
 |[],x,h=>by simp at h|(n,k)::r,x,h=>by
  have ih:=@rW env r x;rw[Rn]at h;cases hx:x==n with|true=>
   have e1:x=n:=by simpa using hx
   subst e1;refine⟨(x,k),Tz,rfl,?_⟩;by_cases q:(k==SO&&env.scope.kind==.function&&env.kindOf x==some .cell)=true;·simp only[RE,beq_iff_eq]at q;exact .inl q.1.1
   ·simp only[q,Ve,if_false,Tt,beq_self_eq_true,Ux]at h;exact h.symm|false=>
   have e2:∀(l:List (Str×Sx)),((if (k==SO&&env.scope.kind==.function&&env.kindOf n==some .cell)=true then(n,UG) else(n,k))::l).lookup x=l.lookup x:=λl=>by split<;>simp[Tt,hx]
   simp only[e2]at h;obtain⟨y,hy,z⟩:=ih h;exact⟨y,Td _ hy,z⟩
theorem zK{M:Model}{A:Rf}{E:QP->QS->Prop}{s:QS}{scope:Rt}{globals:QQ}{closure:List (Str×QQ)}{qual:Str}{func:Option QQ}{code:QP}{env:Env}{builtins:QQ}{Q:Env->QS->Prop}(hQ:∀h',h'.Ns ↑s (λ_=>none)->(∀b o,s.heap.get? b=some o->h'.get? b=some o)->(∀n c,(RO (↑s+1) scope.names []).lookup n=some c->h'.IsCell c none/\↑s+1<=c)->((RO (↑s+1) scope.names []).Pairwise λx y=>x.2≠y.2)->Q (newEnv scope ↑s globals (RO (↑s+1) scope.names closure) qual func code (some env) builtins) {s with heap:=h'}):QX M A (newFunctionEnv scope globals closure [] qual func code (some env) builtins) Q E s:=by simp only[newFunctionEnv,Option.isSome_some,if_true];refine QV (wpAny_alloc ?_);refine QV (wpAny_layCells _ (λname kind cells=>by cases hkc:kind==UG<;>simp[hkc]) _ _ _ _ ?_);have ok:=cellsFrom_ok scope.names (s.heap.push {cls:=.type "dict",data:=.dict #[]}) (↑s+1) [] ⟨λ_ _ hm=>(nomatch hm),List.Pairwise.nil⟩ (by rw[SZ];exact Ro _);rw[SZ]at ok;rw[show({s with heap:=s.heap.push {cls:=.type "dict",data:=.dict #[]}}:QS).heap.objs.size=↑s+1 from SZ ..];refine QV ?_;rw[Vv];refine Rl (Rl ?_);exact hQ _ ((Heap.Ns.new s.heap (.type "dict")).keeps (pushCells_keeps _ _)) (λb o e=>pushCells_keeps _ _ b o (RH _ e)) (λn c e=>ok.empty n c (mem_of_lookup e)) ok.apart
def ar(X:Cx)(scope:Rt)(cp:List (Nat×Str))(tgN:List Str)(C:QQ)(s0:QS)(H0:Hp)(fp:List QQ):Cx where prog:=X.prog;w:=X.w;K:=X.K;mg:=X.mg;base:=X.base;A:=X.A;N:=cp.map (·.2)++tgN;s₀:=s0;H₀:=H0;env:=compEnvC scope (RO (C+1) scope.names (jm X.env scope.names [])) C X.env;outer:=X.stack;stack:=X.stack;ex:=fp;fn:=λx=>scope.names.lookup x==some .local||scope.names.lookup x==some .cell;calm:=X.calm;pn:=[];xe:=λ_ _=>False
theorem tS{X:Cx}{scope:Rt}{sc0:Rt}{N0:List Str}{cp:List (Nat×Str)}{tgN:List Str}{pins:List (QQ×Obj)}{σ:L2.St}{H3:Hp}{s₃:QS}{C:QQ}{h₁:Re}{fp:List QQ}(hsc:X.env.scope=sc0)(hN0:X.N=N0)(hk:scope.kind=.function)(hown:∀y∈scope.names,y.2=.cell->scope.names.lookup y.1=some .cell)(hfr:∀y∈scope.names,y.2=.free->scope.names.lookup y.1=some .free/\sc0.names.lookup y.1=some .cell)(hcp:∀p∈cp,N0[p.1]?=some p.2)(hcq:∀p∈cp,sc0.names.lookup p.2=some .cell/\scope.names.lookup p.2=some .free)(I3:av X pins σ H3 s₃)(f3:∀b∈fp,iG X pins H3 b)(hob:∀b∈fp,∃o,s₃.heap.get? b=some o)(hC:↑s₃=C)(hns₁:h₁.Ns C (λ_=>none))(old:∀b o,s₃.heap.get? b=some o->h₁.get? b=some o)(hownC:∀n c,(RO (C+1) scope.names []).lookup n=some c->h₁.IsCell c none/\C+1<=c)(apC:(RO (C+1) scope.names []).Pairwise λx y=>x.2≠y.2):(ar X scope cp tgN C s₃ H3 fp).Ok/\av (ar X scope cp tgN C s₃ H3 fp) [] (iM cp tgN.length σ) H3 {s₃ with heap:=h₁}:=by
 have hkind:∀x,X.env.kindOf x=sc0.names.lookup x:=λx=>by unfold Env.kindOf;rw[hsc]
 have hfree:∀y∈scope.names,y.2=.free->∃c,X.env.cells.lookup y.1=some c:=λy hy e=>I3.ok.has y.1 (.inl (by rw[hkind];exact(hfr y hy e).2));have nC:∀b o,s₃.heap.get? b=some o->b≠C:=λb o e=>by rw[<-hC];exact Sd (Rp e)
 have hHC:H3 C=none:=I3.hok.fresh (by rw[hC];exact Ro _);have clS:∀x c,(jm X.env scope.names []).lookup x=some c->X.env.cells.lookup x=some c:=λx c e=>qz _ _ x c hfree (λ_ _ z=>by simp at z) e;have clH:∀x,(∃y∈scope.names,y.1=x/\y.2=.free)->∃c,(jm X.env scope.names []).lookup x=some c:=λx e=>wy _ _ x (.inl e);have clN:∀x,(¬∃y∈scope.names,y.1=x/\y.2=.free)->(jm X.env scope.names []).lookup x=none:=λx q=>tQ _ _ x q rfl;have two:∀x c,(RO (C+1) scope.names (jm X.env scope.names [])).lookup x=some c->(RO (C+1) scope.names []).lookup x=some c\/(jm X.env scope.names []).lookup x=some c:=λx c e=>by rw[bw,VC]at e;cases q:(RO (C+1) scope.names []).lookup x with|some d=>rw[q]at e;exact .inl e|none=>rw[q]at e;exact .inr e
 have ltC:∀x c,(jm X.env scope.names []).lookup x=some c->c<C:=λx c e=>by obtain⟨v,o,ho,_⟩:=I3.cell x c (clS x c e);rw[<-hC];exact Rp ho
 have clF:∀x,(∃y∈scope.names,y.1=x/\y.2=.free)->(RO (C+1) scope.names (jm X.env scope.names [])).lookup x=(jm X.env scope.names []).lookup x:=λx⟨y,hy,e1,e2⟩=>by rw[bw,VC];cases q:(RO (C+1) scope.names []).lookup x with|none=>rfl|some d=>exfalso;obtain⟨z,hz,z1,z2⟩:=jO scope.names _ x d q;have a1:=hown z hz z2;have a2:=(hfr y hy e2).1;rw[z1]at a1;rw[e1,a1]at a2;cases a2
 have hasC:∀x,(∃y∈scope.names,y.1=x/\(y.2=.free\/y.2=.cell))->∃c,(RO (C+1) scope.names (jm X.env scope.names [])).lookup x=some c:=λx⟨y,hy,e1,e2⟩=>by
  rcases e2 with e2|e2;·rw[clF x ⟨y,hy,e1,e2⟩];exact clH x ⟨y,hy,e1,e2⟩
  ·rw[bw,VC];obtain⟨c,hc⟩:=i9 scope.names (C+1) x ⟨y,hy,e1,e2⟩;exact⟨c,by rw[hc];rfl⟩
 have ok':(ar X scope cp tgN C s₃ H3 fp).Ok:=by
  refine⟨I3.ok.mod,hk,I3.ok.glob,I3.ok.blt,by rw[<-hC];exact Ro _,λx y c e1 e2=>?_,λx e=>hasC x (rW e),λx c e1 e2=>?_,I3.ok.hd,I3.ok.frames,.inl rfl,λb hb=>?_,λb o e=>I3.bs b o e,?_,λb o e hb=>?_,λb hb z=>?_,I3.stack,λb hb=>I3.stkFree b hb⟩
  ·rcases two x c e1 with e1|e1<;>rcases two y c e2 with e2|e2;·exact name_of_addr apC (mem_of_lookup e1) (mem_of_lookup e2)
   ·exact(Tn _ (Nat.lt_trans (ltC y c e2) (hownC x c e1).2)).elim
   ·exact(Tn _ (Nat.lt_trans (ltC x c e1) (hownC y c e2).2)).elim
   ·exact I3.ok.inj x y c (clS _ _ e1) (clS _ _ e2)
  ·rcases two x c e2 with e2|e2;·show ↑s₃<=c;rw[hC];exact Nat.le_of_succ_le (hownC x c e2).2
   ·exfalso;have e1':scope.names.lookup x=some .local\/scope.names.lookup x=some .cell:=by simpa[ar]using e1
    by_cases q:∃y∈scope.names,y.1=x/\y.2=.free;·obtain⟨y,hy,y1,y2⟩:=q;have z:=(hfr y hy y2).1;rw[y1]at z;rcases e1' with w|w<;>(rw[z]at w;cases w)
    ·rw[clN x q]at e2;cases e2
  ·obtain⟨f0,f1,f4,f5,f6,f7⟩:=f3 b hb;obtain⟨o,ho⟩:=hob b hb;exact⟨nC b o ho,λx c e=>(two x c e).elim (λe z=>absurd (hownC x c e).2 (by rw[z,<-hC];exact Nat.not_le.mpr (Nat.lt_succ_of_lt (Rp ho)))) (λe=>f6 x c (clS x c e))⟩
  ·exact RT I3.ok.bsz I3.sz
  ·obtain⟨f0,f1,f4,f5,f6,f7⟩:=f3 b hb;rcases f5 with z|z;·exact I3.ok.noex b o e z
   ·have:=(I3.ok.bs b o e).1;exact absurd (Sb (Rp this) z) (Tn _)
  ·obtain⟨f0,f1,f4,f5,f6,f7⟩:=f3 b hb;rcases QN (I3.stkSub b z) with z|z;·exact f1 z
   ·exact f4 z
 have I4:av (ar X scope cp tgN C s₃ H3 fp) [] (iM cp tgN.length σ) H3 {s₃ with heap:=h₁}:=by
  refine⟨ok',rfl,I3.bare,Un.kept old,⟨_,hns₁,λi x v e1 e2 e3=>?_⟩,λx c e=>?_,hHC,λx c e=>(two x c e).elim (λe=>I3.hok.fresh (by rw[hC];exact Nat.le_of_succ_le (hownC x c e).2)) (λe=>I3.freeC x c (clS x c e)),λp hp=>by simp[ar]at hp,I3.hok.kept old,by simp[iM,ar]⟩
  ·have hlt:i<cp.length:=by
    by_cases q:i<cp.length;·exact q
    ·exfalso;unfold iM at e2;rw[UZ ↥7]at e2;rw[Wx]at e2;split at e2<;>cases e2
   have e1':(cp.map (·.2))[i]?=some x:=by have e1'':(cp.map (·.2)++tgN)[i]?=some x:=e1;rwa[SM (by simp;exact hlt)]at e1''
   have e2':(cp.map (λp=>(σ[p.1]?).join))[i]?=some (some v):=by unfold iM at e2;rwa[SM (by simp;exact hlt)]at e2
   rw[RK,RS hlt]at e1' e2';have ex:(cp[i]).2=x:=by simpa using e1'
   have ev:(σ[(cp[i]).1]?).join=some v:=by simpa using e2'
   have ev':σ[(cp[i]).1]?=some (some v):=by cases q:σ[(cp[i]).1]? with|none=>rw[q]at ev;cases ev|some z=>rw[q]at ev;simp only[Option.join_some]at ev;rw[ev]
   have hN:=hcp cp[i] (VY hlt);rw[<-hN0]at hN;obtain⟨hcl,hcf⟩:=hcq cp[i] (VY hlt);rw[ex]at hN hcl hcf;obtain⟨m,hn,hl⟩:=I3.loc;obtain⟨u,r,l⟩:=hl _ x v hN ev' (.inr (.inl (by rw[hsc];exact hcl)));refine⟨u,r,.inr ?_⟩;rcases l with⟨k1,_⟩|⟨k1,c,hcc,o,ho,hd⟩;·rw[hkind,hcl]at k1;cases k1
   ·have e3':(relabel scope X.env).names.lookup x=some .local\/(relabel scope X.env).names.lookup x=some .cell\/(relabel scope X.env).names.lookup x=some .free:=e3;have nl:(relabel scope X.env).names.lookup x=some .cell\/(relabel scope X.env).names.lookup x=some .free:=by
     rcases e3' with z|z|z;·exact absurd z (km hcf)
     ·exact .inl z
     ·exact .inr z
    have fr:∃y∈scope.names,y.1=x/\y.2=.free:=⟨(x,.free),mem_of_lookup hcf,rfl,rfl⟩;obtain⟨c',hc'⟩:=clH x fr;have:=clS x c' hc';rw[hcc]at this;cases this;exact⟨nl,c,(clF x fr).trans hc',o,old c o ho,hd⟩
  ·rcases two x c e with e|e;·exact⟨none,(hownC x c e).1⟩
   ·obtain⟨v,o,ho,hd⟩:=I3.cell x c (clS x c e);exact⟨v,o,old c o ho,hd⟩
 exact⟨ok',I4⟩
theorem tT{X:Cx}{scope:Rt}{cp:List (Nat×Str)}{tgN:List Str}{pins:List (QQ×Obj)}{σ σ5:L2.St}{H3 H5:Hp}{s₃ s6:QS}{C:QQ}{fp:List QQ}(I3:av X pins σ H3 s₃)(f3:∀b∈fp,iG X pins H3 b)(nC:∀b o,s₃.heap.get? b=some o->b≠C)(I6:av (ar X scope cp tgN C s₃ H3 fp) [] σ5 H5 s6)(h':Re)(sb:TB C s6.heap h'):av X pins σ H5 {s6 with heap:=h'}:=by
 have ub:=I6.base;have kp:∀b u,b≠C->s6.heap.get? b=some u->h'.get? b=some u:=λb u ne e=>sb.extBut b u ne e;have nit:∀b u,H5 b=some u->b≠C:=λb u e z=>by have:=I6.free;rw[z]at e;rw[show H5 C=none from this]at e;cases e
 refine I3.call' (s':={s6 with heap:=h'}) (ch:=fp) I6.os ⟨λb o e n hb hx=>kp b o (nC b o e) (ub.keep b o e n hb hx),λb o e n hb hx=>?_,ub.free,λb o e hx=>?_,ub.tups,ub.frzs,ub.tbls⟩ (λb u e=>?_) I6.bare (λb hb=>?_);·obtain⟨sl,q⟩:=ub.slot b o e n hb hx;exact⟨sl,kp b _ (nC b o e) q⟩
 ·obtain⟨o',q⟩:=ub.there b o e hx;exact⟨o',kp b _ (nC b o e) q⟩
 ·refine(I6.hok b u e).stay (λc v hc q=>kp c v ?_ q) (λ_ q=>q) λ_ _ q=>q;rcases hc with z|z;·rw[z];exact nit b u e
  ·exact nit c _ z
 ·obtain⟨f0,f1,f4,f5,f6,f7⟩:=f3 b hb;exact⟨f5,f1,f6,f7⟩
theorem wC{X:Cx}{use:Option (QP->Sem Unit)}{RR:QP->QS->Prop}{pins:List (QQ×Obj)}{s:QS}{σ:L2.St}{H:Hp}{Q:VK}{elt iter tg:QT}{ifs:List QT}{scope:Rt}{pos:Pos}{wi:TI}{g:TG}{tc:TT}{te:TE}(sc0:Rt)(N0:List Str)(cp:List (Nat×Str))(tgN:List Str)(hc:X.calm=true)(hsc:X.env.scope=sc0)(hN0:X.N=N0)(hi:PI X tg iter wi)(hg:∀C s0 H0 fp,PG (ar X scope cp tgN C s0 H0 fp) tg g)(ht:∀C s0 H0 fp,uS (ar X scope cp tgN C s0 H0 fp) ifs tc)(he:∀C s0 H0 fp,PE (ar X scope cp tgN C s0 H0 fp) elt te)(hk:scope.kind=.function)(hown:∀y∈scope.names,y.2=.cell->scope.names.lookup y.1=some .cell)(hnames:∀y∈scope.names,y.2=.local->scope.names.lookup y.1=some .local)(hfr:∀y∈scope.names,y.2=.free->scope.names.lookup y.1=some .free/\sc0.names.lookup y.1=some .cell)(hcp:∀p∈cp,N0[p.1]?=some p.2)(hcq:∀p∈cp,sc0.names.lookup p.2=some .cell/\scope.names.lookup p.2=some .free)(hs:∀x,SF iter X.env x=pure x)(I:av X pins σ H s)(h:Ad cp tgN.length wi g tc te σ H Q)(fin:∀(C D:QQ) (H5:Hp) (s6:QS),(∃m,s6.heap.Ns C m)->Q (.ref D) H5->iG X pins H5 C->(∀h',TB C s6.heap h'->av X pins σ H5 {s6 with heap:=h'})->compPost (QY X.prog X.w) X.A X.xe use RR (.ref D) C (.ok .next) s6):QX (QY X.prog X.w) X.A (comprehension (.ListComp elt [⟨tg,iter,ifs,0⟩] scope pos) scope X.env (firstIterPos [⟨tg,iter,ifs,0⟩] pos) (newList []) (firstAsync [⟨tg,iter,ifs,0⟩]) (firstIter [⟨tg,iter,ifs,0⟩] X.env) use) RR X.xe s:=by
 have hkind:∀x,X.env.kindOf x=sc0.names.lookup x:=λx=>by unfold Env.kindOf;rw[hsc]
 have hfree:∀y∈scope.names,y.2=.free->∃c,X.env.cells.lookup y.1=some c:=λy hy e=>I.ok.has y.1 (.inl (by rw[hkind];exact(hfr y hy e).2));refine wpAny_comprehension_free (use:=use) rfl hs (qA hfree) hk hnames (Rx (hi pins s σ H _ I h.go) (λxv s₁ h₁=>Rx h₁ (λitv s₂ h₂=>?_) λ_ _ e=>e) λ_ _ e=>e);obtain⟨it,fp,tn,J,H2,rfl,I2,T,st2,f2,hq⟩:=h₂;refine TF ?_;have hlF:H2 ↑s₂=none:=I2.hok.fresh (Ro _);have I3:av X pins σ (upd H2 ↑s₂ (.lst [])) {s₂ with heap:=s₂.heap.push {cls:=.type "list",data:=.seq ([]:List QP).toArray}}:=I2.lnew (t':=s₂.toks) .nil (SY _);obtain⟨W,⟨m0,w0⟩,turn⟩:=hq _ hlF;have f3:∀b∈fp,iG X pins (upd H2 ↑s₂ (.lst [])) b:=λb hb=>by obtain⟨f0,fr⟩:=f2 b hb;obtain⟨o,ho,_⟩:=T.obj _ _ st2 b hb;exact⟨by rw[aq (Sd (Rp ho))];exact f0,fr⟩
 have st3:tn 0 (s₂.heap.push {cls:=.type "list",data:=.seq ([]:List QP).toArray}):=T.keep _ _ _ st2 λb _ o e=>RH _ e;generalize hD:↑s₂=D at*;generalize hs3:({s₂ with heap:=s₂.heap.push {cls:=.type "list",data:=.seq ([]:List QP).toArray}}:QS)=s₃ at*;have hst3:tn 0 s₃.heap:=by rw[<-hs3];exact st3
 refine zK (λh₁ hns₁ old hownC apC=>?_);generalize hC:↑s₃=C at*;have nC:∀b o,s₃.heap.get? b=some o->b≠C:=λb o e=>by rw[<-hC];exact Sd (Rp e)
 obtain⟨ok',I4⟩:=tS (cp:=cp) (tgN:=tgN) hsc hN0 hk hown hfr hcp hcq I3 f3 (λb hb=>let⟨o,e,_⟩:=T.obj _ _ hst3 b hb;⟨o,e⟩) hC hns₁ old hownC apC;have hst4:tn 0 h₁:=T.keep _ _ _ hst3 λb _ o e=>old b o e;have loop:SW (QY X.prog X.w) X.A (.compLoop (.ListComp elt [⟨tg,iter,ifs,0⟩] scope pos) 0 (.ref it) (.ref D) (compEnvC scope (RO (C+1) scope.names (jm X.env scope.names [])) C X.env)) (compPost (QY X.prog X.w) X.A X.xe use RR (.ref D) C) {s₃ with heap:=h₁}:=by
  refine uZ (λn s'=>∃i σ' H',av (ar X scope cp tgN C s₃ (upd H2 D (.lst [])) fp) [] σ' H' s'/\tn i s'.heap/\(∀b∈fp,H' b=none)/\W i n σ' H') ?_ (n0:=m0) ⟨0,_,_,I4,hst4,λb hb=>(f3 b hb).1,w0⟩;rintro n s5⟨i,σ5,H5,I5,st5,fr5,w5⟩;have stat:∀{H':Hp},(∀b∈fp,H' b=none)->∀b∈fp,iG (ar X scope cp tgN C s₃ (upd H2 D (.lst [])) fp) [] H' b:=λhn b hb=>⟨hn b hb,(ok'.exf b hb).1,ok'.exfs b hb,.inl hb,(ok'.exf b hb).2,λp hp=>by simp[ar]at hp⟩;rcases turn i n σ5 H5 w5 with⟨stop,qn⟩|⟨go,N,hN,step⟩;·refine bu (T.done (ar X scope cp tgN C s₃ (upd H2 D (.lst [])) fp) rfl rfl rfl hc i [] s5 σ5 H5 (λ_ _=>False) I5 (stat fr5) st5 stop) λr s6⟨hr,I6⟩=>?_;subst hr;refine⟨λ_=>?_,λv z=>by cases z⟩;obtain⟨m,hn,_⟩:=I6.loc;exact fin C D H5 s6 ⟨m,hn⟩ qn (I3.fpOk (by rw[hC];exact Ro _) I6.free) (tT I3 f3 nC I6)
  ·refine bu (T.item (ar X scope cp tgN C s₃ (upd H2 D (.lst [])) fp) rfl rfl rfl hc i [] s5 σ5 H5 (λ_ _=>False) I5 (stat fr5) st5 go) λr s6⟨u,hr,h6⟩=>?_;subst hr;refine⟨λz=>(by cases z),λv z=>?_⟩;cases z;refine bu h6 λ_ s7⟨x,H7,I7,r7,y7,st7,fr7⟩=>?_;have I7':=I7.pinned (stat fr7) (T.obj _ _ st7);have again:∀{σ8:L2.St}{H8:Hp}{s8:QS},av (ar X scope cp tgN C s₃ (upd H2 D (.lst [])) fp) ([]++mx fp s7.heap) σ8 H8 s8->N σ8 H8->∃m,m<n/\∃i σ' H',av (ar X scope cp tgN C s₃ (upd H2 D (.lst [])) fp) [] σ' H' s8/\tn i s8.heap/\(∀b∈fp,H' b=none)/\W i m σ' H':=fun{σ8 H8 s8}I8 n8=>by obtain⟨m',hm,w8⟩:=hN σ8 H8 n8;refine⟨m',hm,i+1,σ8,H8,I8.unpinned,T.keep _ _ _ st7 λb hb o e=>(I8.pin (b,o) (Sk _ (Sk _ (cW hb e)))).1,λb hb=>?_,w8⟩;obtain⟨o,e,d⟩:=T.obj _ _ st7 b hb;exact(I8.pin (b,o) (Sk _ (Sk _ (cW hb e)))).2.1
   refine bu (hg C s₃ (upd H2 D (.lst [])) fp _ s7 σ5 H7 x u _ I7' r7 (step x H7 y7)) λ_ s8⟨σ8,H8,I8,q8⟩=>?_;refine bu (ht C s₃ (upd H2 D (.lst [])) fp _ s8 σ8 H8 _ I8 q8) λok s9⟨H9,I9,q9⟩=>?_;cases ok with|false=>rw[if_neg Te]at q9⊢;exact again I9 q9|true=>rw[if_pos rfl]at q9⊢;refine bu (he C s₃ (upd H2 D (.lst [])) fp _ s9 σ8 H9 _ I9 q9) λv s10⟨xv,H10,I10,r10,ys,hl,hz,n10⟩=>?_;refine bu (lL _ s10 σ8 H10 (.ref D) [xv] (.ref D) [v] (λ_ H=>N σ8 H) I10 rfl (.cons r10 .nil) ⟨D,ys,xv,rfl,rfl,hl,hz,n10⟩) λ_ s11⟨_,H11,I11,_,q11⟩=>?_;exact again I11 q11
 exact codeAny_compStart_list loop (T.self X.A 0 _ _ _ hst4 loop)
theorem Dm{X:Cx}{elt iter tg:QT}{ifs:List QT}{scope:Rt}{pos:Pos}{wi:TI}{g:TG}{tc:TT}{te:TE}(sc0:Rt)(N0:List Str)(cp:List (Nat×Str))(tgN:List Str)(hc:X.calm=true)(hsc:X.env.scope=sc0)(hN0:X.N=N0)(hi:PI X tg iter wi)(hg:∀C s0 H0 fp,PG (ar X scope cp tgN C s0 H0 fp) tg g)(ht:∀C s0 H0 fp,uS (ar X scope cp tgN C s0 H0 fp) ifs tc)(he:∀C s0 H0 fp,PE (ar X scope cp tgN C s0 H0 fp) elt te)(hk:scope.kind=.function)(hown:∀y∈scope.names,y.2=.cell->scope.names.lookup y.1=some .cell)(hnames:∀y∈scope.names,y.2=.local->scope.names.lookup y.1=some .local)(hfr:∀y∈scope.names,y.2=.free->scope.names.lookup y.1=some .free/\sc0.names.lookup y.1=some .cell)(hcp:∀p∈cp,N0[p.1]?=some p.2)(hcq:∀p∈cp,sc0.names.lookup p.2=some .cell/\scope.names.lookup p.2=some .free)(hs:∀x,SF iter X.env x=pure x:=by intro _;rfl):PE X (.ListComp elt [⟨tg,iter,ifs,0⟩] scope pos) (Ad cp tgN.length wi g tc te):=by intro pins s σ H Q I h;rw[eval_ListComp];exact wC sc0 N0 cp tgN hc hsc hN0 hi hg ht he hk hown hnames hfr hcp hcq hs I h λC D H5 s6⟨m,hn⟩q _ key=>⟨m,hn,λh' sb=>⟨.ref D,H5,key h' sb,rfl,q⟩⟩
def Ck(sc0 scope:Rt)(N0:List Str)(cp:List (Nat×Str))(W:List Nat):Bool:=(scope.names.all λy=>(!(y.2==.local)||scope.names.lookup y.1==some .local)&&(!(y.2==.cell)||scope.names.lookup y.1==some .cell)&&(!(y.2==.free)||(scope.names.lookup y.1==some .free&&sc0.names.lookup y.1==some .cell)))&&(cp.all λp=>N0[p.1]?==some p.2&&sc0.names.lookup p.2==some .cell&&scope.names.lookup p.2==some .free)&&decide ((cp.map (·.1)).Nodup)&&W.all λj=>decide (cp.length<=j)
theorem uX{sc0 scope:Rt}{N0:List Str}{cp:List (Nat×Str)}{W:List Nat}(hch:Ck sc0 scope N0 cp W=true):(∀y∈scope.names,y.2=.cell->scope.names.lookup y.1=some .cell)/\(∀y∈scope.names,y.2=.local->scope.names.lookup y.1=some .local)/\(∀y∈scope.names,y.2=.free->scope.names.lookup y.1=some .free/\sc0.names.lookup y.1=some .cell)/\(∀p∈cp,N0[p.1]?=some p.2)/\(∀p∈cp,sc0.names.lookup p.2=some .cell/\scope.names.lookup p.2=some .free)/\(cp.map (·.1)).Nodup/\∀j∈W,cp.length<=j:=by
 simp only[Ck,RE,RV,decide_eq_true_eq]at hch;obtain⟨⟨⟨h1,h2⟩,h3⟩,h4⟩:=hch;refine⟨λy hy e=>?_,λy hy e=>?_,λy hy e=>?_,λp hp=>?_,λp hp=>?_,h3,h4⟩;·have:=(h1 y hy).1.2;rw[e]at this;simpa using this
 ·have:=(h1 y hy).1.1;rw[e]at this;simpa using this
 ·have:=(h1 y hy).2;rw[e]at this;simpa using this
 ·have:=(h2 p hp).1.1;simpa using this
 ·have a:=(h2 p hp).1.2;have c:=(h2 p hp).2;exact⟨by simpa using a,by simpa using c⟩
theorem ny{X:Cx}{K:QU}{pos:Pos}{elt iter tg:QT}{ifs:List QT}{scope:Rt}{fi:FI}{g:FG}{ft:FT}{fe:FE}{W:List Nat}(cp:List (Nat×Str))(tgN:List Str)(hKx:X.K=K)(hc:X.calm=true)(hi:PI X tg iter (fI K fi))(hg:∀C s0 H0 fp,PG (ar X scope cp tgN C s0 H0 fp) tg (fG K g W))(ht:∀C s0 H0 fp,uS (ar X scope cp tgN C s0 H0 fp) ifs (fT K ft))(he:∀C s0 H0 fp,PE (ar X scope cp tgN C s0 H0 fp) elt (fE K fe))(hk:scope.kind=.function)(hch:Ck X.env.scope scope X.N cp W=true)(hs:∀x,SF iter X.env x=pure x):PE X (.ListComp elt [⟨tg,iter,ifs,0⟩] scope pos) (fE K (dk cp tgN.length fi g ft fe)):=by subst hKx;obtain⟨h0,h1,h2,h3,h4,h5,h6⟩:=uX hch;exact(Dm X.env.scope X.N cp tgN hc rfl rfl hi hg ht he hk h0 h1 h2 h3 h4 hs).mono λ_ _ _ h=>xQ h5 h6 h
open PySem PySem.Spec PyProof.Rows PySem.W
structure IH (lt:Nat->Nat->Bool):Prop where
 irr:∀i,lt i i=false
 tr:∀{i j k},lt i j=false->lt j k=false->lt i k=false
 asy:∀{i j},lt i j=true->lt j i=false
section
variable{lt:Nat->Nat->Bool}{n:Nat}(O:IH lt)
include O
end
open PySem PySem.Spec PyProof.Rows PySem.W
section
variable{prog:QZ}{w:QW}{A:Rf}{E:QP->QS->Prop}{s:QS}
end
open PySem PySem.Spec PyProof.Rows PySem.W
section
variable{X:Cx}{K:QU}
end
open PySem PySem.Spec PyProof.Rows PySem.W PySem.SeqAt
open PySem.AutoSeq1 (wpAny_loadPart')
open MeetsSeq MeetsSeq2 MeetsSeq3 SeqRoads2
open PySem PySem.Spec PyProof.Rows PySem.W PySem.SeqAt
section
variable{A:Rf}{s:QS}
end
section
variable{A:Rf}{s:QS}
end
open PySem PySem.Spec PyProof.Rows PySem.W PySem.SeqAt
section
variable{X:Cx}{K:QU}
end
open PySem PySem.Spec PyProof.Rows PySem.W
section
variable{prog:QZ}{w:QW}{A:Rf}{E:QP->QS->Prop}{s:QS}{κ:SortKind}{it:Array Keyed}{N:Nat}{lt:Nat->Nat->Bool}{st:SortSt}
end
open PySem PySem.Spec PyProof.Rows PySem.W
section
variable{lt:Nat->Nat->Bool}(O:IH lt)
end
section
variable{lt:Nat->Nat->Bool}{A B o:List Nat}{ia ib:Nat}
end
section
variable{it:Array Keyed}
end
open PySem PySem.Spec PyProof.Rows PySem.W
section
variable{prog:QZ}{w:QW}{A:Rf}{E:QP->QS->Prop}{s:QS}{κ:SortKind}{it:Array Keyed}{N:Nat}{lt:Nat->Nat->Bool}{st:SortSt}{a b:Array Nat}
end
open PySem PySem.Spec PyProof.Rows PySem.W
section
variable{lt:Nat->Nat->Bool}{A B o:List Nat}{na nb:Nat}
end
section
variable{it:Array Keyed}
end
section
variable{prog:QZ}{w:QW}{A:Rf}{E:QP->QS->Prop}{s:QS}{κ:SortKind}{it:Array Keyed}{N:Nat}{lt:Nat->Nat->Bool}{st:SortSt}{a b:Array Nat}
end
open PySem PySem.Spec PyProof.Rows PySem.W
section
variable{prog:QZ}{w:QW}{A:Rf}{E:QP->QS->Prop}{s:QS}{κ:SortKind}{it:Array Keyed}{N:Nat}{lt:Nat->Nat->Bool}{st:SortSt}
end
open PySem PySem.Spec PyProof.Rows PySem.W
section
variable{lt:Nat->Nat->Bool}(O:IH lt){p:Array Nat}{lo m:Nat}
include O
end
section
variable{prog:QZ}{w:QW}{A:Rf}{E:QP->QS->Prop}{s:QS}{κ:SortKind}{it:Array Keyed}{N:Nat}{lt:Nat->Nat->Bool}{p:Array Nat}{pend:Array (Nat×Nat×Nat)}{g lo nrem:Nat}
end
open PySem PySem.Spec PyProof.Rows PySem.W
section
variable{prog:QZ}{w:QW}{A:Rf}{E:QP->QS->Prop}{s:QS}{κ:SortKind}{it:Array Keyed}{N:Nat}{lt:Nat->Nat->Bool}{p:Array Nat}{pend:Array (Nat×Nat×Nat)}{g lo:Nat}
end
open PySem PySem.Spec PyProof.Rows PySem.W
section
variable{prog:QZ}{w:QW}{A:Rf}{E:QP->QS->Prop}{s:QS}
end
section
variable{X:Cx}{K:QU}
end
open PySem PySem.Spec PyProof.Rows PySem.W
section
variable{X:Cx}{K:QU}
end
open PySem PySem.Spec PyProof.Rows PySem.W
section
variable{X:Cx}{K:QU}
end
section
variable{X:Cx}{K:QU}
variable{o a:QT}{es:List QT}{fo:FE}{fs:FA}{apos cpos:Pos}
end
theorem xq{X:Cx}{ix:Nat}{nm:Str}{posn poss:Pos}{elt iter tg:QT}{ifs:List QT}{scope:Rt}{pos:Pos}{wi:TI}{g:TG}{tc:TT}{te:TE}(sc0:Rt)(N0:List Str)(cp:List (Nat×Str))(tgN:List Str)(hc:X.calm=true)(hsc:X.env.scope=sc0)(hN0:X.N=N0)(hi:PI X tg iter wi)(hg:∀C s0 H0 fp,PG (ar X scope cp tgN C s0 H0 fp) tg g)(ht:∀C s0 H0 fp,uS (ar X scope cp tgN C s0 H0 fp) ifs tc)(he:∀C s0 H0 fp,PE (ar X scope cp tgN C s0 H0 fp) elt te)(hk:scope.kind=.function)(hown:∀y∈scope.names,y.2=.cell->scope.names.lookup y.1=some .cell)(hnames:∀y∈scope.names,y.2=.local->scope.names.lookup y.1=some .local)(hfr:∀y∈scope.names,y.2=.free->scope.names.lookup y.1=some .free/\sc0.names.lookup y.1=some .cell)(hcp:∀p∈cp,N0[p.1]?=some p.2)(hcq:∀p∈cp,sc0.names.lookup p.2=some .cell/\scope.names.lookup p.2=some .free)(hNd:X.N.Nodup)(hix:X.N[ix]?=some nm)(hlc:X.env.scope.names.lookup nm=some .local)(hsw:SV (.ListComp elt [⟨tg,iter,ifs,0⟩] scope pos) (some (.Name nm posn)) poss.line X.env=pure true)(hs:∀x,SF iter X.env x=pure x:=by intro _;rfl):PS X (.Assign [.Name nm posn] (.ListComp elt [⟨tg,iter,ifs,0⟩] scope pos) poss) (Ku (Ad cp tgN.length wi g tc te) (CG ix)):=by intro pins s σ H D0 I h;rw[exec_Assign_Name_used _ _ _ _ hsw];refine QV (Ud (QV ?_));unfold evalThenUse;exact QV (wC sc0 N0 cp tgN hc hsc hN0 hi hg ht he hk hown hnames hfr hcp hcq hs I h (Cn hNd hix hlc))
theorem rR{X:Cx}{K:QU}{pos:Pos}{ix:Nat}{nm:Str}{posn poss:Pos}{elt iter tg:QT}{ifs:List QT}{scope:Rt}{fi:FI}{g:FG}{ft:FT}{fe:FE}{W:List Nat}(cp:List (Nat×Str))(tgN:List Str)(hKx:X.K=K)(hc:X.calm=true)(hi:PI X tg iter (fI K fi))(hg:∀C s0 H0 fp,PG (ar X scope cp tgN C s0 H0 fp) tg (fG K g W))(ht:∀C s0 H0 fp,uS (ar X scope cp tgN C s0 H0 fp) ifs (fT K ft))(he:∀C s0 H0 fp,PE (ar X scope cp tgN C s0 H0 fp) elt (fE K fe))(hk:scope.kind=.function)(hch:Ck X.env.scope scope X.N cp W=true)(hNd:X.N.Nodup)(hix:X.N[ix]?=some nm)(hlc:X.env.scope.names.lookup nm=some .local)(hsw:SV (.ListComp elt [⟨tg,iter,ifs,0⟩] scope pos) (some (.Name nm posn)) poss.line X.env=pure true)(hs:∀x,SF iter X.env x=pure x):PS X (.Assign [.Name nm posn] (.ListComp elt [⟨tg,iter,ifs,0⟩] scope pos) poss) (fS K (aW ix (dk cp tgN.length fi g ft fe)) [ix]):=by subst hKx;obtain⟨h0,h1,h2,h3,h4,h5,h6⟩:=uX hch;exact(xq X.env.scope X.N cp tgN hc rfl rfl hi hg ht he hk h0 h1 h2 h3 h4 hNd hix hlc hsw hs).mono λD σ H h=>by obtain⟨F,e,fl,R,hf,q⟩:=h;unfold aW at hf;obtain⟨⟨r,e1⟩,hh1,hf⟩:=QI hf;obtain⟨e2,hh2,hf⟩:=QJ hf;cases hf;refine xQ h5 h6 ⟨F,e,r,e1,R,hh1,λF1 H1 v X1 R1 A1=>?_⟩;obtain⟨x,R2⟩:=DP R X1 R1 A1 hh2;exact q F1 H1 _ x R2
section
variable{X:Cx}{K:QU}{σ σ2:L2.St}{H0 F H F2 H2 F3:Hp}{e e2:En}
end
section
variable{X:Cx}{K:QU}{a b:QT}{fa fb:FE}{pos p p1 p2 p3 pos':Pos}{x:Str}{i:Nat}
end
section
variable{X:Cx}{K:QU}
end
section
variable{prog:QZ}{w:QW}{A:Rf}{R:Result->QS->Prop}
end
def aK(p:Int×pB):dh×V:=(Sum.inl p.1,p.2.toV)
def aD(p:Int×pB):QR×QR:=(.int p.1,p.2.toD)
section
variable{K:QU}{F H F' H':Hp}{σ σ':L2.St}{e e':En}{nT:Nat}
theorem aR.putO(R:aR K F H σ e){l:QQ}{o:HO}(h1:F l=none)(h2:¬bq σ e H l):aR K F (upd H l o) σ e/\∀a,bq σ e (upd H l o) a↔bq σ e H a:=R.keep (aw.refl F) (λb o q=>by
 have z:b≠l:=λz=>by rw[z,h1]at q;cases q
 rw[aq z];exact R.sm b o q) (λa⟨i,h⟩=>(R.fpAt h).1) λa o ha q=>by have z:a≠l:=λz=>h2 (z▸ha);rw[aq z];exact q
end
section
variable{X:Cx}{K:QU}{pos:Pos}
def kh:En->Rv->Rv->Option Rv:=λ_ x y=>match x,y with|.d (.dict kvs),.d (.int k)=>(kvs.find? λp=>match p.1 with|.int i=>i==k|_=>false).map λp=>.d p.2|_,_=>none
theorem wK(k:Int):∀(m:List (Int×pB)),(m.map λp=>(PyData.int p.1,p.2.toD)).find? (λp=>match p.1 with|.int i=>i==k|_=>false)=(m.find? λp=>p.1==k).map λp=>(PyData.int p.1,p.2.toD)|[]=>rfl|p::r=>by rw[Rn,RL,RL];dsimp only;cases c:p.1==k with|true=>rfl|false=>exact wK k r
theorem wL(k:Int):∀(m:List (Int×pB)),mE (m.map λp=>((Sum.inl p.1:dh),p.2.toV)) (Sum.inl k)=(m.find? λp=>p.1==k).map λp=>p.2.toV|[]=>rfl|p::r=>by rw[Rn,RL];cases c:p.1==k with|true=>rw[lD (by rw[beq_iff_eq]at c;rw[c])];rfl|false=>rw[lC (λz=>by rw[beq_eq_false_iff_ne]at c;exact c (Sum.inl.inj z))];exact wL k r
mutual
theorem jf.da{F:Hp}:∀{d:QR}{v:V},jf K F d v->DA K F d v|.none,_,q=>by simp only[DA,jf]at q⊢;exact q|.bool b,_,q=>by simp only[DA,jf]at q⊢;exact q|.int i,_,q=>by simp only[DA,jf]at q⊢;exact q|.str x,_,q=>by simp only[jf]at q|.tuple ds,_,q=>by simp only[DA,jf]at q⊢;obtain⟨a,xs,e,s,r⟩:=q;exact⟨a,xs,e,s,gA.da r⟩|.list ds,_,q=>by simp only[jf]at q|.dict ds,_,q=>by simp only[jf]at q
theorem gA.da{F:Hp}:∀{ds:List QR}{vs:List V},gA K F ds vs->aI K F ds vs|[],_,q=>by simp only[aI,gA]at q⊢;exact q|d::ds,_,q=>by simp only[aI,gA]at q⊢;obtain⟨x,r,e,a,b⟩:=q;exact⟨x,r,e,jf.da a,gA.da b⟩
end
mutual
def qk:QR->Bool|.none=>true|.bool _=>true|.int _=>true|.tuple ds=>qm ds|_=>false
def qm:List QR->Bool|[]=>true|d::r=>qk d&&qm r
end
mutual
theorem DA.da0{F:Hp}:∀{d:QR}{v:V},qk d=true->DA K F d v->jf K F d v|.none,_,_,q=>by simp only[DA,jf]at q⊢;exact q|.bool b,_,_,q=>by simp only[DA,jf]at q⊢;exact q|.int i,_,_,q=>by simp only[DA,jf]at q⊢;exact q|.str x,_,f,_=>by simp[qk]at f|.tuple ds,_,f,q=>by simp only[DA,jf]at q⊢;obtain⟨a,xs,e,s,r⟩:=q;exact⟨a,xs,e,s,aI.da0 (by simpa[qk]using f) r⟩|.list ds,_,f,_=>by simp[qk]at f|.dict ds,_,f,_=>by simp[qk]at f
theorem aI.da0{F:Hp}:∀{ds:List QR}{vs:List V},qm ds=true->aI K F ds vs->gA K F ds vs|[],_,_,q=>by simp only[aI,gA]at q⊢;exact q|d::ds,_,f,q=>by simp only[qm,RE]at f;simp only[aI,gA]at q⊢;obtain⟨x,r,e,a,b⟩:=q;exact⟨x,r,e,DA.da0 f.1 a,aI.da0 f.2 b⟩
end
theorem IK{F:Hp}{a:pB}(h:a.ok K F):DA K F a.toD a.toV:=by cases a with|vp a p q=>exact bH.mpr ⟨a,_,rfl,h,aI.ints (ns:=[p,q]).mpr rfl⟩|vd v d=>exact jf.da h|_=>simp[pB.toD,pB.toV,DA]
theorem IQ:fY K (λx y H Q=>∃a v,x=.ref a/\nZ H a y (some v)/\Q v H) kh:=by
 intro σ H0 F H e x y z v u Q R A B hg q;unfold kh at hg;split at hg;case h_2=>cases hg
 case h_1 kvs k=>
 obtain⟨p,hp,hg⟩:=QJ hg;cases hg;have A':DA K F (.dict kvs) v:=A;simp only[DA]at A';rcases A' with⟨a,m,rfl,hF,rfl,ok⟩|⟨a,m,rfl,hF,r,_⟩;case inr=>cases (hp.symm.trans (r.noInt (k:=k)))
 have B':u=.int k:=bc.mp (show DA K F (.int k) u from B);subst B';rw[wK]at hp;obtain⟨pm,h1,rfl⟩:=QJ hp;have hv:=wL k m;rw[h1]at hv;have g:=nZ.k (k:=Sum.inl k) (R.sm _ _ hF);rw[hv]at g;exact⟨a,pm.2.toV,rfl,g,q F H _ (dF.refl _ _ _ _) R (IK (ok pm (List.mem_of_find?_eq_some h1)))⟩
theorem JZ{a b:QT}{fa fb:FE}{k:Nat}(hr:bE k X.A)(ha:PE X a (fE K fa))(hb:PE X b (fE K fb))(hs:Aq b):PE X (.Subscript a b pos) (fE K (aB kh fa fb)):=(GA (by have:=hr.units;lia) ha hb hs).mono λσ H Q h=>oP IQ h
end
def pe:List QR->Option (List Int)|[]=>some []|.int i::r=>(pe r).map λl=>i::l|_::_=>none
theorem rc:∀{ds:List QR}{ns:List Int},pe ds=some ns->ds=ns.map .int|[],_,h=>by cases h;rfl|.int i::r,_,h=>by obtain⟨l,h1,rfl⟩:=QJ h;rw[rc h1];rfl
theorem oq:∀(ns:List Int),pe (ns.map .int)=some ns|[]=>rfl|n::r=>by show(pe (r.map .int)).map _=_;rw[oq r];rfl
def mC:QR->Option SK|.tuple [.tuple as,.tuple bs]=>(pe as).bind λa=>(pe bs).map λb=>(a,b)|_=>none
theorem lx(k:SK):mC (yV k)=some k:=by show(pe (k.1.map .int)).bind (λa=>(pe (k.2.map .int)).map λb=>(a,b))=_;rw[oq,oq];rfl
theorem p7{d:QR}{k:SK}(h:mC d=some k):d=yV k:=by
 unfold mC at h;split at h;·obtain⟨a,h1,h⟩:=QI h;obtain⟨b,h2,rfl⟩:=QJ h;rw[rc h1,rc h2];rfl
 ·cases h
def gW(kvs:List (QR×QR))(k:SK):Option QR:=(kvs.find? λp=>mC p.1==some k).map (·.2)
section
variable{K:QU}{F:Hp}
theorem DA.sk{k:SK}{v:V}(h:DA K F (yV k) v):∃b,v=.ref b/\dO K F k b:=by obtain⟨b,xs,rfl,s,r⟩:=bH.mp h;simp only[aI]at r;obtain⟨x,r1,rfl,h1,y,r2,rfl,h2,rfl⟩:=r;obtain⟨c,ys,rfl,s1,q1⟩:=bH.mp h1;obtain⟨d,zs,rfl,s2,q2⟩:=bH.mp h2;rw[aI.ints.mp q1]at s1;rw[aI.ints.mp q2]at s2;exact⟨b,rfl,c,d,s,s1,s2⟩
theorem dD.keys:∀{ps:List (QR×QR)}{m:SD},dD K F ps m->∀p∈m,dO K F p.1 p.2.1
 |[],_,q,p,hp=>by simp only[dD]at q;subst q;cases hp|(kd,d)::r,_,q,p,hp=>by
  simp only[dD,we]at q;obtain⟨x,m',rfl,⟨ek,s,_⟩,b⟩:=q;rcases QN hp with rfl|hp;·exact s
  ·exact dD.keys b p hp
theorem dD.find(k:SK):∀{ps:List (QR×QR)}{m:SD},dD K F ps m->(gW ps k=none/\eC m k=none)\/∃d v,gW ps k=some d/\eC m k=some v/\DA K F d v
 |[],_,q=>by simp only[dD]at q;subst q;exact .inl ⟨rfl,rfl⟩|(kd,d)::r,_,q=>by
  simp only[dD,we]at q;obtain⟨x,m',rfl,⟨ek,s,hd⟩,b⟩:=q;subst ek;have ih:=dD.find k b;by_cases e:x.1=k
  ·right;refine⟨d,x.2.2,?_,?_,hd⟩;·simp[gW,RL,lx,e]
   ·simp[eC,RL,e]
  ·have a1:gW ((yV x.1,d)::r) k=gW r k:=by simp[gW,RL,lx,e]
   have a2:eC (x::m') k=eC m' k:=by simp[eC,RL,e]
   rw[a1,a2];exact ih
def mI(kvs:List (QR×QR)):Bool:=kvs.all λp=>(mC p.1).isSome
theorem DA.sd{kvs:List (QR×QR)}{v:V}(h:DA K F (.dict kvs) v)(ha:mI kvs=true):∃(m:SD),(∃a,v=.ref a/\F a=some (xV a m))/\dD K F kvs m:=by
 simp only[DA]at h;rcases h with⟨a,m,rfl,hF,rfl,_⟩|⟨a,m,rfl,hF,r,n⟩;·cases m with|nil=>exact⟨[],⟨a,rfl,hF⟩,by simp[dD]⟩|cons p r=>simp[mI,mC]at ha
 ·cases m with
  |nil=>cases kvs with|nil=>exact absurd rfl n|cons p q=>simp only[dD]at r;obtain⟨_,_,e,_⟩:=r;cases e
  |cons p q=>exact⟨p::q,⟨a,rfl,hF⟩,r⟩
end
def f_:En->Rv->Rv->Option Rv:=λ_ x y=>match x,y with|.d (.dict kvs),.d k=>if mI kvs=true then(mC k).bind λk=>(gW kvs k).map .d else none|_,_=>none
section
variable{K:QU}{X:Cx}{pos:Pos}
theorem Hb:fY K (λx y H Q=>∃kvs k b v,BV K H x kvs/\y=.ref b/\dO K H k b/\eC kvs k=some v/\Q v H) f_:=by
 intro σ H0 F H e x y z v u Q R A B hg q;unfold f_ at hg;split at hg;case h_2=>cases hg
 case h_1 kvs kd=>
 split at hg;case isFalse=>cases hg
 rename_i ha;obtain⟨k,hk,hg⟩:=QI hg;obtain⟨d,hd,rfl⟩:=QJ hg;have ek:=p7 hk;subst ek;obtain⟨m,⟨a,rfl,hF⟩,hp⟩:=DA.sd (show DA K F (.dict kvs) v from A) ha;obtain⟨b,rfl,hb⟩:=DA.sk (show DA K F (yV k) u from B);rcases hp.find k with⟨h1,_⟩|⟨d',w,h1,h2,h3⟩;·rw[h1]at hd;cases hd
 ·rw[h1]at hd;cases hd;exact⟨m,k,b,w,⟨a,rfl,R.sm _ _ hF,λp hpm=>(hp.keys p hpm).mono R.sm⟩,rfl,hb.mono R.sm,h2,q F H _ (dF.refl _ _ _ _) R h3⟩
theorem GY{a b:QT}{fa fb:FE}{k:Nat}(hr:bE k X.A)(hK:X.K=K)(ha:PE X a (fE K fa))(hb:PE X b (fE K fb))(hs:Aq b):PE X (.Subscript a b pos) (fE K (aB f_ fa fb)):=by subst hK;exact(Dq (by have:=hr.un;lia) ha hb hs).mono λσ H Q h=>oP Hb h
def g_(neg:Bool):En->Rv->Rv->Option Rv:=λ_ y x=>match y,x with|.d k,.d (.dict kvs)=>if mI kvs=true then(mC k).map λk=>.d (.bool (if neg then !(gW kvs k).isSome else(gW kvs k).isSome)) else none|_,_=>none
theorem ED{neg:Bool}:fY K (λy x H Q=>∃kvs k b,BV K H x kvs/\y=.ref b/\dO K H k b/\Q (.bl (if neg then !(eC kvs k).isSome else(eC kvs k).isSome)) H) (g_ neg):=by
 intro σ H0 F H e x y z v u Q R A B hg q;unfold g_ at hg;split at hg;case h_2=>cases hg
 case h_1 kd kvs=>
 split at hg;case isFalse=>cases hg
 rename_i ha;obtain⟨k,hk,hg⟩:=QJ hg;cases hg;have ek:=p7 hk;subst ek;obtain⟨m,⟨a,rfl,hF⟩,hp⟩:=DA.sd (show DA K F (.dict kvs) u from B) ha;obtain⟨b,rfl,hb⟩:=DA.sk (show DA K F (yV k) v from A);have e:(eC m k).isSome=(gW kvs k).isSome:=by rcases hp.find k with⟨h1,h2⟩|⟨d',w,h1,h2,h3⟩<;>rw[h1,h2]<;>rfl
 refine⟨m,k,b,⟨a,rfl,R.sm _ _ hF,λp hpm=>(hp.keys p hpm).mono R.sm⟩,rfl,hb.mono R.sm,?_⟩;rw[e];exact q F H _ (dF.refl _ _ _ _) R eZ
end
section
variable{K:QU}{F H F' H' F1 H1 F2 H2:Hp}{σ σ' σ1 σ2:L2.St}{e e' e1 e2:En}{i:Nat}{W W1 W2:List Nat}
theorem Fp.drop{j:Nat}{a:QQ}(h:Fp σ (e.set i none) H j a):Fp σ e H j a:=by
 by_cases z:j=i
 ·subst z;rcases h with⟨xs,h,_⟩|⟨xss,_,_,h,_⟩
  ·rw[UK]at h;split at h;·split at h<;>cases h
   ·rename_i n;exact absurd rfl n
  ·rw[UK]at h;split at h;·split at h<;>cases h
   ·rename_i n;exact absurd rfl n
 ·unfold Fp at h⊢;rw[Ru (Rz z)]at h;exact h
theorem mY{j:Nat}{s:Sv}(h:(e.set i none)[j]?=some (some s)):e[j]?=some (some s):=by
 by_cases z:i=j;·subst z;rw[UK]at h;rw[if_pos rfl]at h;split at h<;>cases h
 ·rwa[Ru z]at h
theorem bq.drop{a:QQ}(h:bq σ (e.set i none) H a):bq σ e H a:=let⟨j,q⟩:=h;⟨j,q.drop⟩
theorem aR.drop(R:aR K F H σ e)(i:Nat):aR K F H σ (e.set i none):=⟨R.sm,by rw[Sy];exact R.len,λj x h=>R.dat j x (mY h),λj xs h=>R.own j xs (mY h),λj xss h=>R.nst j xss (mY h),λj k a h1 h2=>R.fp j k a h1.drop h2.drop⟩
def pC(K:QU)(F:Hp)(l:QQ)(kvs:List (QR×QR))(o:HO):Prop:=(∃m:List (Int×pB),kvs=m.map aD/\o=.dK (m.map aK)/\∀p∈m,p.2.ok K F)\/∃m:SD,kvs≠[]/\o=E5 l m/\dD K F kvs m
theorem pC.mono{l:QQ}{kvs:List (QR×QR)}{o:HO}(h:aw F F')(q:pC K F l kvs o):pC K F' l kvs o:=by
 rcases q with⟨m,a,b,c⟩|⟨m,a,b,c⟩;·exact .inl ⟨m,a,b,λp hp=>(c p hp).mono h⟩
 ·exact .inr ⟨m,a,b,dD.mono h c⟩
theorem pC.isD{l:QQ}{kvs:List (QR×QR)}{o:HO}(q:pC K F l kvs o):isD o=true:=by rcases q with⟨m,a,b,c⟩|⟨m,a,b,c⟩<;>subst b<;>rfl
theorem pC.nl{l:QQ}{kvs:List (QR×QR)}{o:HO}(q:pC K F l kvs o):∀vs,o≠.lst vs:=by rcases q with⟨m,a,b,c⟩|⟨m,a,b,c⟩<;>subst b<;>exactλ_ z=>nomatch z
theorem pC.da{l:QQ}{kvs:List (QR×QR)}{o:HO}(q:pC K F l kvs o)(h:F l=some o):DA K F (.dict kvs) (.ref l):=by
 simp only[DA];rcases q with⟨m,a,b,c⟩|⟨m,a,b,c⟩;·subst a b;exact .inl ⟨l,m,rfl,h,rfl,c⟩
 ·subst b;exact .inr ⟨l,m,rfl,h,c,a⟩
structure l_ (K:QU) (i:Nat) (F H:Hp) (σ:L2.St) (e:En):Prop where rel:aR K F H σ (e.set i none)dct:∃(l:QQ) (kvs:List (QR×QR)) (o:HO),e[i]?=some (some (.d (.dict kvs)))/\σ[i]?=some (some (.ref l))/\F l=none/\H l=some o/\pC K F l kvs o
structure iF (i:Nat) (W:List Nat) (σ:L2.St) (F H:Hp) (e:En) (σ':L2.St) (F' H':Hp) (e':En):Prop where
 sf:aw F F'
 dom:∀a,H' a=none->H a=none
 fr:∀a vs,F a=none->H a=some (.lst vs)->¬bq σ (e.set i none) H a->F' a=none
 lst:∀a vs,H a=some (.lst vs)->∃vs',H' a=some (.lst vs')tmp:∀a o,H a=some o->¬bq σ (e.set i none) H a->σ[i]?≠some (some (.ref a))->H' a=some o
 own:∀a,bq σ' (e'.set i none) H' a->bq σ (e.set i none) H a\/H a=none
 wr:∀j,j∉W->σ'[j]?=σ[j]?
 dd:σ'[i]?=σ[i]?
 fd:∀a (m:DI),F a=none->H a=some m.1->¬bq σ (e.set i none) H a->σ[i]?≠some (some (.ref a))->F' a=none
theorem iF.refl(i:Nat):iF i W σ F H e σ F H e:=⟨aw.refl _,λ_ h=>h,λ_ _ h _ _=>h,λ_ vs h=>⟨vs,h⟩,λ_ _ h _ _=>h,λ_ h=>.inl h,λ_ _=>rfl,rfl,λ_ _ h _ _ _=>h⟩
theorem iF.lst_ne(x:iF i W σ F H e σ1 F1 H1 e1){a:QQ}(no:¬bq σ (e.set i none) H a){o:HO}(h:H a=some o):¬bq σ1 (e1.set i none) H1 a:=λz=>(x.own a z).elim no λz=>by rw[h]at z;cases z
theorem iF.trans(x:iF i W σ F H e σ1 F1 H1 e1)(y:iF i W σ1 F1 H1 e1 σ2 F2 H2 e2):iF i W σ F H e σ2 F2 H2 e2:=⟨x.sf.trans y.sf,λa h=>x.dom a (y.dom a h),λa vs h n no=>let⟨vs',q⟩:=x.lst a vs n;y.fr a vs' (x.fr a vs h n no) q (x.lst_ne no n),λa vs h=>let⟨vs',q⟩:=x.lst a vs h;y.lst a vs' q,λa o h n l=>y.tmp a o (x.tmp a o h n l) (x.lst_ne n h) (by rw[x.dd];exact l),λa h=>(y.own a h).elim (x.own a) (λz=>.inr (x.dom a z)),λj h=>(y.wr j h).trans (x.wr j h),y.dd.trans x.dd,λa m h n no l=>y.fd a m (x.fd a m h n no l) (x.tmp a _ n no l) (x.lst_ne no n) (by rw[x.dd];exact l)⟩
theorem iF.mono(x:iF i W1 σ F H e σ' F' H' e')(h:∀j,j∈W1->j∈W):iF i W σ F H e σ' F' H' e':=⟨x.sf,x.dom,x.fr,x.lst,x.tmp,x.own,λj n=>x.wr j λz=>n (h j z),x.dd,x.fd⟩
theorem cP.toD(x:cP W σ F H (e.set i none) σ' F' H' e1)(hi:i∉W)(o:Option Sv):iF i W σ F H e σ' F' H' (e1.set i o):=⟨x.sf,x.dom,x.fr,x.lst,λa o h n _=>x.tmp a o h n,λa h=>x.own a (by rw[SR]at h;exact h.drop),x.wr,x.wr i hi,λa m h n no _=>x.fd a m h n no⟩
theorem l_.next(R:l_ K i F H σ e)(x:cP W σ F H (e.set i none) σ' F' H' e1)(hi:i∉W)(R1:aR K F' H' σ' e1):l_ K i F' H' σ' (e1.set i (e[i]?).join):=by
 obtain⟨l,kvs,o,h1,h2,h3,h4,h5⟩:=R.dct;have no:¬bq σ (e.set i none) H l:=R.rel.notOwn h4 h5.nl;have hs:σ'[i]?=some (some (.ref l)):=(x.wr i hi).trans h2;have hlt:i<e1.length:=by rw[<-R1.len];exact(QK hs).1
 refine⟨by rw[SR];exact R1.drop i,l,kvs,o,?_,hs,x.fd l ⟨o,h5.isD⟩ h3 h4 no,x.tmp l _ h4 no,h5.mono x.sf⟩;rw[RU hlt,h1];rfl
end
def oX(K:QU)(i:Nat)(W:List Nat)(σ:L2.St)(F H:Hp)(e:En)(D:pD):Fl->Prop|.nx e'=>∀F' H' σ',iF i W σ F H e σ' F' H' e'->l_ K i F' H' σ' e'->D.nx σ' H'|.bk e'=>∀F' H' σ',iF i W σ F H e σ' F' H' e'->l_ K i F' H' σ' e'->D.bk σ' H'|.ct e'=>∀F' H' σ',iF i W σ F H e σ' F' H' e'->l_ K i F' H' σ' e'->D.ct σ' H'|.rt r e'=>∀F' H' σ' v,iF i W σ F H e σ' F' H' e'->aR K F' H' σ' (e'.set i none)->bG K σ' H F' H' (e'.set i none) r v->D.rt v H'
def xW(K:QU)(i:Nat)(f:FS)(W:List Nat):TS:=λD σ H=>∃F e fl,l_ K i F H σ e/\f e=some fl/\oX K i W σ F H e D fl
theorem oX.later{K:QU}{i:Nat}{W W1 W2:List Nat}{σ σ1:L2.St}{F H F1 H1:Hp}{e e1:En}{D:pD}{fl:Fl}(h:oX K i W σ F H e D fl)(x:iF i W1 σ F H e σ1 F1 H1 e1)(h1:∀j,j∈W1->j∈W)(h2:∀j,j∈W2->j∈W):oX K i W2 σ1 F1 H1 e1 D fl:=by cases fl with|nx e'=>exactλF' H' σ' y R=>h F' H' σ' ((x.mono h1).trans (y.mono h2)) R|bk e'=>exactλF' H' σ' y R=>h F' H' σ' ((x.mono h1).trans (y.mono h2)) R|ct e'=>exactλF' H' σ' y R=>h F' H' σ' ((x.mono h1).trans (y.mono h2)) R|rt r e'=>exactλF' H' σ' v y R A=>h F' H' σ' v ((x.mono h1).trans (y.mono h2)) R (A.weak x.dom)
section
variable{X:Cx}{K:QU}{i:Nat}{W W1 W2:List Nat}{st:Rh}{dg:List Rh}{f g:FS}{ft:FT}{pos:Pos}
def Nq(i:Nat):Rv->Bool|.s j=>j !=i|_=>true
def ko(i:Nat)(f:FS):FS:=λe=>(f (e.set i none)).bind λfl=>match fl with|.nx e1=>some (.nx (e1.set i (e[i]?).join))|.bk e1=>some (.bk (e1.set i (e[i]?).join))|.ct e1=>some (.ct (e1.set i (e[i]?).join))|.rt r e1=>if Nq i r=true then some (.rt r (e1.set i (e[i]?).join)) else none
theorem bG.dropN{σ:L2.St}{F H H0:Hp}{e:En}{r:Rv}{v:V}(h:bG K σ H0 F H e r v)(hr:Nq i r=true):bG K σ H0 F H (e.set i none) r v:=by cases r with|d d=>exact h|l xs=>obtain⟨l,vs,g1,g2,g3,g4,g5,g6⟩:=h;exact⟨l,vs,g1,g2,g3,g4,g5,λz=>g6 z.drop⟩|s j=>
 obtain⟨g1,xs,g2⟩:=h;have ne:i≠j:=λz=>by simp[Nq,z]at hr
 exact⟨g1,xs,by rw[Ru ne];exact g2⟩
theorem nD(hi:i∉W)(h:PS X st (fS K f W)):PS X st (xW K i (ko i f) W):=h.mono λD σ H h=>by obtain⟨F,e,fl,R,hf,q⟩:=h;unfold ko at hf;obtain⟨fl1,h1,hf⟩:=QI hf;refine⟨F,_,fl1,R.rel,h1,?_⟩;cases fl1 with|nx e1=>cases hf;exactλF' H' σ' x R'=>q F' H' σ' (x.toD hi _) (R.next x hi R')|bk e1=>cases hf;exactλF' H' σ' x R'=>q F' H' σ' (x.toD hi _) (R.next x hi R')|ct e1=>cases hf;exactλF' H' σ' x R'=>q F' H' σ' (x.toD hi _) (R.next x hi R')|rt r e1=>
 dsimp only at hf;split at hf;case isFalse=>cases hf
 case isTrue hr=>cases hf;exactλF' H' σ' v x R' A=>q F' H' σ' v (x.toD hi _) (by rw[SR];exact R'.drop i) (by rw[SR];exact A.dropN hr)
theorem D6:kc X [] (xW K i bX []):=pX.mono λD σ H h=>by obtain⟨F,e,fl,R,hf,q⟩:=h;cases hf;exact q F H σ (iF.refl i) R
theorem df(h1:PS X st (xW K i f W1))(h2:kc X dg (xW K i g W2)):kc X (st::dg) (xW K i (ay f g) (W1++W2)):=(jv h1 h2).mono λD σ H h=>by obtain⟨F,e,fl,R,hf,q⟩:=h;unfold ay at hf;obtain⟨fl1,h1,hf⟩:=QI hf;have s1:∀j,j∈W1->j∈W1++W2:=λj h=>Si.mpr (.inl h);have s2:∀j,j∈W2->j∈W1++W2:=λj h=>Si.mpr (.inr h);refine⟨F,e,fl1,R,h1,?_⟩;cases fl1 with|nx e1=>exactλF' H' σ' x R'=>⟨F',e1,fl,R',hf,q.later x s1 s2⟩|bk e1=>cases hf;exactλF' H' σ' x R'=>q F' H' σ' (x.mono s1) R'|ct e1=>cases hf;exactλF' H' σ' x R'=>q F' H' σ' (x.mono s1) R'|rt r e1=>cases hf;exactλF' H' σ' v x R' A=>q F' H' σ' v (x.mono s1) R' A
theorem iq(h1:PS X st (xW K i f W)):kc X [st] (xW K i f W):=j2 h1
def NH(K:QU)(i:Nat)(f:FT):TT:=λσ H Q=>∃F e b e',l_ K i F H σ e/\f e=some (b,e')/\∀F' H',iF i [] σ F H e σ F' H' e'->l_ K i F' H' σ e'->Q b H'
def uH(i:Nat)(f:FT):FT:=λe=>(f (e.set i none)).map λp=>(p.1,p.2.set i (e[i]?).join)
theorem D7{c:QT}(h:PT X c (fT K ft)):PT X c (NH K i (uH i ft)):=h.mono λσ H Q h=>by obtain⟨F,e,b,e',R,hf,q⟩:=h;unfold uH at hf;obtain⟨⟨b1,e1⟩,h1,hf⟩:=QJ hf;cases hf;exact⟨F,_,b1,e1,R.rel,h1,λF' H' x R'=>q F' H' (x.s.toD ↥1 _) (R.next (W:=[]) x.s ↥1 R')⟩
theorem J8{c:QT}{bs cs:List Rh}(hc:PT X c (NH K i ft))(ha:kc X bs (xW K i f W1))(hb:kc X cs (xW K i g W2)):PS X (.If c bs cs pos) (xW K i (ir ft f g) (W1++W2)):=(zP hc ha hb).mono λD σ H h=>by obtain⟨F,e,fl,R,hf,q⟩:=h;unfold ir at hf;obtain⟨⟨x,e1⟩,h1,hf⟩:=QI hf;refine⟨F,e,x,e1,R,h1,λF1 H1 X1 R1=>?_⟩;cases x with|true=>exact⟨F1,e1,fl,R1,hf,q.later (W1:=[]) X1 (λj h=>by cases h) λj h=>Si.mpr (.inl h)⟩|false=>exact⟨F1,e1,fl,R1,hf,q.later (W1:=[]) X1 (λj h=>by cases h) λj h=>Si.mpr (.inr h)⟩
def kj(i:Nat)(fi:FI):FI:=λe=>(fi (e.set i none)).bind λp=>if (p.2.1.all λq=>q.1 !=i)=true then some (p.1,p.2.1,p.2.2.set i (e[i]?).join) else none
theorem yl{own:gB}{e:En}{i:Nat}(h:keeps own e)(hi:∀p∈own,p.1≠i):keeps own (e.set i none):=λp hp=>by rw[Ru (Rz (hi p hp))];exact h p hp
theorem ym{own:gB}{e:En}{i:Nat}{o:Option Sv}(h:keeps own e)(hi:∀p∈own,p.1≠i):keeps own (e.set i o):=λp hp=>by rw[Ru (Rz (hi p hp))];exact h p hp
def fJ(i:Nat)(g:FG):FG:=λx e=>(g x (e.set i none)).map λe1=>e1.set i (e[i]?).join
inductive ID (K:QU) (i:Nat) (own:gB) (σ0:L2.St) (F1:Hp) (P:En->Prop) (G:L2.St->Hp->Hp->En->Prop) (σ:L2.St) (H:Hp):Prop|mk{F:Hp}{e:En}(R:l_ K i F H σ e) (kp:keeps own e) (hσ:∀p∈own,σ[p.1]?=σ0[p.1]?) (sF:aw F1 F) (hf:P e) (q:G σ F H e):ID K i own σ0 F1 P G σ H
theorem l_.back{F H:Hp}{σ:L2.St}{e:En}(R:l_ K i F H σ e):(e.set i none).set i (e[i]?).join=e:=by
 obtain⟨l,kvs,o,g1,_⟩:=R.dct;rw[SR];refine Ul λj=>?_;by_cases z:i=j;·subst z;rw[RU (QK g1).1,g1];rfl
 ·rw[Ru z]
theorem pY{tg iter:QT}{body:List Rh}{fi:FI}{gg:FG}(hp:PassesOwn (QY X.prog X.w) X.A X.env X.xe)(hc:X.calm=true)(hi:PI X tg iter (fI K fi))(hg:PG X tg (fG K gg W1))(h1:i∉W1)(hb:kc X body (xW K i f W2))(hs:∀x,SF iter X.env x=pure x):PS X (.For tg iter body [] pos) (xW K i (cO (W1++W2) (kj i fi) (fJ i gg) f) (W1++W2)):=(DE hp hc hi hg hb hs).mono λD σ0 H0 hh=>by
 obtain⟨F0,e0,fl,R0,hf,q0⟩:=hh;unfold cO at hf;obtain⟨⟨items,own,e1'⟩,hI,hf⟩:=QI hf;unfold kj at hI;obtain⟨⟨items',own',e1⟩,hI1,hI⟩:=QI hI;dsimp only at hI;split at hI;case isFalse=>cases hI
 case isTrue ho=>
 cases hI;dsimp only at hf;split at hf;case isFalse=>cases hf
 case isTrue hW=>
 have hW':∀p∈own,p.1∉W1++W2:=λp hp=>by have:=RV.mp hW p hp;simpa using this
 have hoi:∀p∈own,p.1≠i:=λp hp=>by have:=RV.mp ho p hp;simpa using this
 refine⟨F0,_,items,own,e1,R0.rel,hI1,λJ F1 H1 X1 R1 kp ok=>?_⟩;have s1:∀j,j∈W1->j∈W1++W2:=λj h=>Si.mpr (.inl h);have s2:∀j,j∈W2->j∈W1++W2:=λj h=>Si.mpr (.inr h);have s0:∀j,j∈([]:List Nat)->j∈W1++W2:=λj h=>by cases h
 have R1D:=R0.next (W:=[]) X1.s ↥1 R1;have q1:oX K i (W1++W2) σ0 F1 H1 (e1.set i (e0[i]?).join) D fl:=q0.later (W1:=[]) (X1.s.toD ↥1 _) s0 λj h=>h;refine⟨λk m σ H=>m=items.length-k/\k<=items.length/\ID K i own σ0 F1 (λe=>iI own (fJ i gg) f (items.drop k) e=some fl) (λσ F H e=>oX K i (W1++W2) σ F H e D fl) σ H,⟨items.length,by simp,SY _,.mk R1D (ym kp hoi) (λ_ _=>rfl) (aw.refl _) hf q1⟩,?_⟩;rintro k m σ H⟨rfl,hk,⟨R,kp2,hσ,sF,hf,q⟩⟩;rename_i F e;have held:x4 K σ0 F H own:=λp hp=>by obtain⟨l,vs,g1,g2⟩:=R.rel.held (yl kp2 hoi) p hp;exact⟨l,vs,by rw[<-hσ p hp];exact g1,g2⟩
 obtain⟨go,stop,yld⟩:=ok F H sF R.rel.sm held;by_cases hlt:k<items.length
 ·have hd:items.drop k=items[k]::items.drop (k+1):=Uu hlt;rw[hd]at hf;unfold iI at hf;obtain⟨e2,h2,hf⟩:=QI hf;obtain⟨fl2,h3,hf⟩:=QI hf;refine .inr ⟨go k hlt,ID K i own σ0 F1 (λe=>iI own (fJ i gg) f (items.drop (k+1)) e=some fl) (λσ F H e=>oX K i (W1++W2) σ F H e D fl),λσ' H' r=>⟨items.length-(k+1),by lia,rfl,hlt,r⟩,λx H' hy=>?_⟩;obtain⟨F',sH,sF',sm',fz,hx⟩:=yld k items[k] x H' (RS hlt) hy;obtain⟨R',X'⟩:=R.rel.step sH sF' sm' fz;have RD:=R.next (W:=[]) X'.s ↥1 R';have XD:iF i [] σ F H e σ F' H' ((e.set i none).set i (e[i]?).join):=X'.s.toD ↥1 _;rw[R.back]at RD XD;unfold fJ at h2;obtain⟨e2',h2',rfl⟩:=QJ h2;refine⟨F',_,items[k],e2',R',hx,h2',λσ2 x2 R2=>⟨F',_,fl2,RD.next x2 h1 R2,h3,?_⟩⟩;have q2:oX K i (W1++W2) σ2 F' H' (e2'.set i (e[i]?).join) D fl:=(q.later (W1:=[]) (W2:=W1++W2) XD s0 λj h=>h).later (x2.toD h1 _) s1 λj h=>h
  have w2:∀p∈own,σ2[p.1]?=σ0[p.1]?:=λp hp=>(x2.wr p.1 λz=>hW' p hp (s1 _ z)).trans (hσ p hp);cases fl2 with|nx e3=>
   intro F3 H3 σ3 x3 R3;dsimp only at hf;split at hf;case isFalse=>cases hf
   case isTrue kp3=>exact .mk R3 kp3 (λp hp=>(x3.wr p.1 λz=>hW' p hp (s2 _ z)).trans (w2 p hp)) (sF.trans (sF'.trans x3.sf)) hf (q2.later x3 s2 λj h=>h)|ct e3=>
   intro F3 H3 σ3 x3 R3;dsimp only at hf;split at hf;case isFalse=>cases hf
   case isTrue kp3=>exact .mk R3 kp3 (λp hp=>(x3.wr p.1 λz=>hW' p hp (s2 _ z)).trans (w2 p hp)) (sF.trans (sF'.trans x3.sf)) hf (q2.later x3 s2 λj h=>h)|bk e3=>cases hf;exactλF3 H3 σ3 x3 R3=>q2 F3 H3 σ3 (x3.mono s2) R3|rt r e3=>cases hf;exactλF3 H3 σ3 v x3 R3 A3=>q2 F3 H3 σ3 v (x3.mono s2) R3 A3
 ·have hd:items.drop k=[]:=Vx ↥0;rw[hd]at hf;cases hf;exact .inl ⟨stop k ↥0,q F H σ (iF.refl i) R⟩
def zV(i:Nat):FS:=λe=>match e[i]? with|some (some (.d d))=>some (.rt (.d d) e)|_=>none
theorem G0{x:Str}{p:Pos}(ho:PE X (.Name x p) (vY i)):PS X (.Return (some (.Name x p)) pos) (xW K i (zV i) []):=(rO ho).mono λD σ H h=>by
 obtain⟨F,e,fl,R,hf,q⟩:=h;obtain⟨l,kvs,o,g1,g2,g3,g4,g5⟩:=R.dct;unfold zV at hf;rw[g1]at hf;cases hf;have no:¬bq σ (e.set i none) H l:=R.rel.notOwn g4 g5.nl;obtain⟨R2,s2⟩:=R.rel.freeze g3 g4 no;refine⟨_,g2,q _ H σ (.ref l) ⟨s2,λ_ z=>z,λa vs z z2 _=>?_,λ_ vs z=>⟨vs,z⟩,λ_ _ z _ _=>z,λ_ z=>.inl z,λ_ _=>rfl,rfl,λa m' z z2 _ nl=>?_⟩ R2 ((g5.mono s2).da ao)⟩
 ·have ea:a≠l:=λea=>by rw[ea,g4]at z2;cases z2;exact g5.nl _ rfl
  rw[aq ea];exact z
 ·have ea:a≠l:=λea=>nl (by rw[ea];exact g2);rw[aq ea];exact z
theorem vo{H:Hp}{σ:L2.St}{e:En}{v:Option V}{j:Nat}{a:QQ}:Fp (σ.set i v) (e.set i none) H j a↔Fp σ (e.set i none) H j a:=by
 by_cases z:i=j
 ·subst z;have no:∀s:Sv,(e.set i none)[i]?≠some (some s):=λs h=>by rw[UK,if_pos rfl]at h;split at h<;>cases h
  constructor
  ·rintro(⟨xs,h,_⟩|⟨xss,_,_,h,_⟩);·exact absurd h (no _)
   ·exact absurd h (no _)
  ·rintro(⟨xs,h,_⟩|⟨xss,_,_,h,_⟩);·exact absurd h (no _)
   ·exact absurd h (no _)
 ·have e1:(σ.set i v)[j]?=σ[j]?:=Ru z;unfold Fp;rw[e1]
theorem aR.poke{F H:Hp}{σ:L2.St}{e:En}(R:aR K F H σ (e.set i none))(v:Option V):aR K F H (σ.set i v) (e.set i none):=by
 have ne:∀(j:Nat) (s:Sv),(e.set i none)[j]?=some (some s)->i≠j:=λj s h z=>by subst z;rw[UK,if_pos rfl]at h;split at h<;>cases h
 refine⟨R.sm,by rw[Sy];exact R.len,λj x h=>?_,λj xs h=>?_,λj xss h=>?_,λj k a h1 h2=>R.fp j k a (vo.mp h1) (vo.mp h2)⟩;·rw[Ru (ne j _ h)];exact R.dat j x h
 ·rw[Ru (ne j _ h)];exact R.own j xs h
 ·rw[Ru (ne j _ h)];exact R.nst j xss h
end
mutual
def C8:QR->Bool|.tuple ds=>m_ ds|.list ds=>m_ ds|.dict _=>false|_=>true
def m_:List QR->Bool|[]=>true|d::r=>C8 d&&m_ r
end
def Ga:Sv->Bool|.d x=>C8 x|.l xs=>m_ xs|.n yss=>yss.all m_
def NO:Rv->Bool|.d x=>C8 x|.l xs=>m_ xs|.s _=>false
section
variable{K:QU}{F H F' H' F1 H1 F2 H2 F3:Hp}{σ σ' σ1 σ2:L2.St}{e e' e1 e2:En}{i:Nat}{W W1 W2:List Nat}
mutual
theorem DA.dropD(hd:∀a o,F2 a=some o->isD o=false->F3 a=some o):∀{d:QR}{v:V},C8 d=true->DA K F2 d v->DA K F3 d v
 |.none,_,_,h=>by simp only[DA]at h⊢;exact h|.bool _,_,_,h=>by simp only[DA]at h⊢;exact h|.int _,_,_,h=>by simp only[DA]at h⊢;exact h|.str _,_,_,h=>by simp only[DA]at h⊢;exact h|.tuple ds,v,f,h=>by
  obtain⟨a,xs,e1,h1,h2⟩:=bH.mp h;refine bH.mpr ⟨a,xs,e1,?_,aI.dropD hd (by simpa[C8]using f) h2⟩;rcases h1 with (h1|⟨o,h1⟩)|h1;·exact .inl (.inl (hd a _ h1 rfl))
  ·exact .inl (.inr ⟨o,hd a _ h1 rfl⟩)
  ·exact .inr h1|.list ds,v,f,h=>by
  obtain⟨a,xs,e1,h1,h2⟩:=cU.mp h;refine cU.mpr ⟨a,xs,e1,?_,aI.dropD hd (by simpa[C8]using f) h2⟩;rcases h1 with (h1|⟨o,h1⟩)|h1;·exact .inl (.inl (hd a _ h1 rfl))
  ·exact .inl (.inr ⟨o,hd a _ h1 rfl⟩)
  ·exact .inr h1|.dict _,_,f,_=>by simp[C8]at f
theorem aI.dropD(hd:∀a o,F2 a=some o->isD o=false->F3 a=some o):∀{ds:List QR}{vs:List V},m_ ds=true->aI K F2 ds vs->aI K F3 ds vs|[],_,_,h=>by simp only[aI]at h⊢;exact h|d::ds,vs,f,h=>by simp only[aI]at h⊢;obtain⟨x,r,e1,h1,h2⟩:=h;simp only[m_,RE]at f;exact⟨x,r,e1,DA.dropD hd f.1 h1,aI.dropD hd f.2 h2⟩
end
theorem aR.fill{d:QR}{v:V}(R:aR K F H σ (e.set i none))(he:e[i]?=some (some (.d d)))(hs:σ[i]?=some (some v))(hd:DA K F d v):aR K F H σ e:=by
 have ne:∀(j:Nat) (s:Sv),e[j]?=some (some s)->(∀x,s≠.d x)->i≠j:=λj s h n z=>by subst z;rw[he]at h;cases h;exact n _ rfl
 have bk:∀(j:Nat) (s:Sv),e[j]?=some (some s)->i≠j->(e.set i none)[j]?=some (some s):=λj s h n=>by rw[Ru n];exact h
 have fb:∀{j a},Fp σ e H j a->Fp σ (e.set i none) H j a:=fun{j a}h=>by
  rcases h with⟨xs,h1,h2⟩|⟨xss,l,bs,h1,h2,h3⟩;·exact .inl ⟨xs,bk j _ h1 (ne j _ h1 λ_ z=>nomatch z),h2⟩
  ·exact .inr ⟨xss,l,bs,bk j _ h1 (ne j _ h1 λ_ z=>nomatch z),h2,h3⟩
 refine⟨R.sm,by have:=R.len;rw[Sy]at this;exact this,λj x h=>?_,λj xs h=>R.own j xs (bk j _ h (ne j _ h λ_ z=>nomatch z)),λj xss h=>R.nst j xss (bk j _ h (ne j _ h λ_ z=>nomatch z)),λj k a h1 h2=>R.fp j k a (fb h1) (fb h2)⟩;by_cases z:i=j;·subst z;rw[he]at h;cases h;exact⟨v,hs,hd⟩
 ·exact R.dat j x (bk j _ h z)
theorem xm{d:QR}(he:e[i]?=some (some (.d d))){a:QQ}(h:bq σ e H a):bq σ (e.set i none) H a:=by
 have ne:∀(j:Nat) (s:Sv),e[j]?=some (some s)->(∀x,s≠.d x)->i≠j:=λj s h n z=>by subst z;rw[he]at h;cases h;exact n _ rfl
 have bk:∀(j:Nat) (s:Sv),e[j]?=some (some s)->i≠j->(e.set i none)[j]?=some (some s):=λj s h n=>by rw[Ru n];exact h
 obtain⟨j,h⟩:=h;rcases h with⟨xs,h1,h2⟩|⟨xss,l,bs,h1,h2,h3⟩;·exact⟨j,.inl ⟨xs,bk j _ h1 (ne j _ h1 λ_ z=>nomatch z),h2⟩⟩
 ·exact⟨j,.inr ⟨xss,l,bs,bk j _ h1 (ne j _ h1 λ_ z=>nomatch z),h2,h3⟩⟩
theorem aR.thinD(R:aR K F2 H σ e)(hd:∀a o,F2 a=some o->isD o=false->F3 a=some o)(sub:∀a,F2 a=none->F3 a=none)(sm:aw F3 H)(hf:∀(j:Nat) (s:Sv),e[j]?=some (some s)->Ga s=true\/∃d v,s=.d d/\σ[j]?=some (some v)/\DA K F3 d v):aR K F3 H σ e:=by
 refine⟨sm,R.len,λj d q=>?_,λj xs q=>?_,λj yss q=>?_,R.fp⟩
 ·obtain⟨v,h1,h2⟩:=R.dat j d q;rcases hf j _ q with w|⟨d',v',w1,w2,w3⟩;·exact⟨v,h1,DA.dropD hd w h2⟩
  ·cases w1;exact⟨v',w2,w3⟩
 ·obtain⟨l',vs,h1,h2,h3,h4⟩:=R.own j xs q;rcases hf j _ q with w|⟨d',v',w1,w2,w3⟩;·exact⟨l',vs,h1,sub l' h2,h3,aI.dropD hd w h4⟩
  ·cases w1
 ·obtain⟨l',bs',h1,h2,h3,h4,h5,h6,h7⟩:=R.nst j yss q;refine⟨l',bs',h1,sub l' h2,h3,h4,h5,h6,λk b ys q1 q2=>?_⟩;obtain⟨h8,us,h9,h10⟩:=h7 k b ys q1 q2;have fy:m_ ys=true:=by
   rcases hf j _ q with w|⟨d',v',w1,w2,w3⟩;·simp only[Ga,RV]at w;exact w ys (QO q2)
   ·cases w1
  exact⟨sub b h8,us,h9,aI.dropD hd fy h10⟩
def dN(W:List Nat)(i:Nat):Nat->En->En->Prop|_,_,[]=>True|k,e,o::y=>(k=i\/match o with|none=>True|some s=>Ga s=true\/(k∉W/\e.head?=some (some s)/\∃d,s=.d d))/\dN W i (k+1) e.tail y
theorem dN.at:∀{y e:En}{k:Nat},dN W i k e y->∀(j:Nat) (s:Sv),k+j≠i->y[j]?=some (some s)->Ga s=true\/(k+j∉W/\e[j]?=some (some s)/\∃d,s=.d d)
 |[],_,_,_,j,s,_,h=>by simp at h
 |o::y,e,k,q,j,s,n,h=>by obtain⟨q1,q2⟩:=q;cases j with|zero=>
  simp at h;subst h;rcases q1 with q1|q1;·exact absurd q1 n
  ·rcases q1 with q1|⟨q1,q3,q4⟩;·exact .inl q1
   ·exact .inr ⟨q1,by rw[<-List.head?_eq_getElem?];exact q3,q4⟩|succ j=>
  have e1:k+1+j=k+(j+1):=by lia
  have:=dN.at q2 j s (by rw[e1];exact n) (by simpa using h);rw[e1]at this;rcases this with w|⟨w1,w2,w3⟩;·exact .inl w
  ·refine .inr ⟨w1,?_,w3⟩;cases e with|nil=>simp at w2|cons a e=>simpa using w2
theorem l_.view(R:l_ K i F H σ e):∃F1,aR K F1 H σ e/\∀(W:List Nat) (F2 H2:Hp) (σ2:L2.St) (y:En),i∉W->cP W σ F1 H e σ2 F2 H2 y->aR K F2 H2 σ2 y->dN W i 0 e y->∃F3,iF i W σ F H e σ2 F3 H2 (y.set i (e[i]?).join)/\l_ K i F3 H2 σ2 (y.set i (e[i]?).join)/\(∀a,F2 a=none->F3 a=none)/\∀a o,F2 a=some o->isD o=false->F3 a=some o:=by
 obtain⟨l,kvs,o,h1,h2,h3,h4,h5⟩:=R.dct;have no:¬bq σ (e.set i none) H l:=R.rel.notOwn h4 h5.nl;obtain⟨R1,s1⟩:=R.rel.freeze h3 h4 no;refine⟨upd F l o,R1.fill h1 h2 ((h5.mono s1).da ao),λW F2 H2 σ2 y hi x R2 fl=>?_⟩;have hF2:F2 l=some o:=x.sf l o ao;have hs2:σ2[i]?=some (some (.ref l)):=(x.wr i hi).trans h2;have hlt:i<y.length:=by rw[<-R2.len];exact(QK hs2).1
 let F3:Hp:=λa=>if a=l then none else F2 a;have f3l:F3 l=none:=if_pos rfl;have f3:∀a,a≠l->F3 a=F2 a:=λa h=>if_neg h;have hd:∀a u,F2 a=some u->isD u=false->F3 a=some u:=λa u h q=>by rw[f3 a λz=>by subst z;rw[hF2]at h;cases h;rw[h5.isD]at q;cases q];exact h
 have sub:∀a,F2 a=none->F3 a=none:=λa h=>by
  by_cases z:a=l;·rw[z];exact f3l
  ·rw[f3 a z];exact h
 have sF:aw F F3:=λa u h=>by
  have z:a≠l:=λz=>by rw[z,h3]at h;cases h
  rw[f3 a z];exact x.sf a u (s1 a u h)
 have sm:aw F3 H2:=λa u h=>by
  have z:a≠l:=λz=>by rw[z,f3l]at h;cases h
  rw[f3 a z]at h;exact R2.sm a u h
 have up:∀a,F a=none->a≠l->(upd F l o) a=none:=λa h z=>by rw[aq z];exact h
 have nO:∀{a},¬bq σ (e.set i none) H a->¬bq σ e H a:=λh z=>h (xm h1 z);refine⟨F3,⟨sF,x.dom,λa vs z z2 n=>?_,x.lst,λa u z n nl=>x.tmp a u z (nO n),λa z=>?_,x.wr,x.wr i hi,λa m z z2 n nl=>?_⟩,⟨?_,l,kvs,o,?_,hs2,f3l,R2.sm l o hF2,h5.mono sF⟩,sub,hd⟩
 ·have ea:a≠l:=λea=>by rw[ea,h4]at z2;cases z2;exact h5.nl _ rfl
  exact sub a (x.fr a vs (up a z ea) z2 (nO n))
 ·rw[SR]at z;rcases x.own a z.drop with w|w;·exact .inl (xm h1 w)
  ·exact .inr w
 ·have ea:a≠l:=λea=>nl (by rw[ea];exact h2);exact sub a (x.fd a m (up a z ea) z2 (nO n))
 ·rw[SR];refine(R2.drop i).thinD hd sub sm λj s q=>?_;have ji:j≠i:=λz=>by subst z;rw[RU hlt]at q;cases q
  rcases fl.at j s ↥0 (mY q) with w|⟨w1,w2,d,rfl⟩;·exact .inl w
  ·refine .inr ⟨d,?_⟩;obtain⟨v,g1,g2⟩:=R.rel.dat j d (by rw[Ru (Rz ji)];exact w2);rw[Ta]at w1;exact⟨v,rfl,(x.wr j w1).trans g1,g2.mono sF⟩
 ·rw[RU hlt,h1];rfl
end
section
variable{X:Cx}{K:QU}{i:Nat}{W W1 W2:List Nat}{st:Rh}{dg:List Rh}{f g:FS}{ft:FT}{pos:Pos}
open Classical in noncomputable def lq(W:List Nat)(i:Nat)(f:FS):FS:=λe=>(f e).bind λfl=>match fl with|.nx y=>if dN W i 0 e y then some (.nx (y.set i (e[i]?).join)) else none|.bk y=>if dN W i 0 e y then some (.bk (y.set i (e[i]?).join)) else none|.ct y=>if dN W i 0 e y then some (.ct (y.set i (e[i]?).join)) else none|.rt r y=>if dN W i 0 e y/\NO r=true then some (.rt r (y.set i (e[i]?).join)) else none
theorem bG.thin{σ:L2.St}{H0 H F2 F3:Hp}{e e':En}{r:Rv}{v:V}(h:bG K σ H0 F2 H e r v)(hr:NO r=true)(hd:∀a o,F2 a=some o->isD o=false->F3 a=some o)(sub:∀a,F2 a=none->F3 a=none)(ow:∀a,bq σ e' H a->bq σ e H a):bG K σ H0 F3 H e' r v:=by cases r with|d d=>exact DA.dropD hd hr h|l xs=>obtain⟨l,vs,g1,g2,g3,g4,g5,g6⟩:=h;exact⟨l,vs,g1,g2,sub l g3,g4,aI.dropD hd hr g5,λz=>g6 (ow l z)⟩|s j=>cases hr
theorem nE(hi:i∉W)(h:PS X st (fS K f W)):PS X st (xW K i (lq W i f) W):=h.mono λD σ H h=>by
 obtain⟨F,e,fl,R,hf,q⟩:=h
 unfold lq at hf;obtain⟨fl1,h1,hf⟩:=QI hf;obtain⟨F1,R1,back⟩:=R.view;refine⟨F1,e,fl1,R1,h1,?_⟩;cases fl1 with|nx y=>
  dsimp only at hf;split at hf;case isFalse=>cases hf
  case isTrue hc=>cases hf;intro F2 H2 σ2 X2 R2;obtain⟨F3,X3,R3,_⟩:=back W F2 H2 σ2 y hi X2 R2 hc;exact q F3 H2 σ2 X3 R3|bk y=>
  dsimp only at hf;split at hf;case isFalse=>cases hf
  case isTrue hc=>cases hf;intro F2 H2 σ2 X2 R2;obtain⟨F3,X3,R3,_⟩:=back W F2 H2 σ2 y hi X2 R2 hc;exact q F3 H2 σ2 X3 R3|ct y=>
  dsimp only at hf;split at hf;case isFalse=>cases hf
  case isTrue hc=>cases hf;intro F2 H2 σ2 X2 R2;obtain⟨F3,X3,R3,_⟩:=back W F2 H2 σ2 y hi X2 R2 hc;exact q F3 H2 σ2 X3 R3|rt r y=>
  dsimp only at hf;split at hf;case isFalse=>cases hf
  case isTrue hc=>cases hf;intro F2 H2 σ2 v X2 R2 A2;obtain⟨F3,X3,R3,sub,hd⟩:=back W F2 H2 σ2 y hi X2 R2 hc.1;exact q F3 H2 σ2 v X3 R3.rel (A2.thin hc.2 hd sub λa z=>by rw[SR]at z;exact z.drop)
def sU(k:Int)(p:QR×QR):Bool:=match p.1 with|.int j=>j==k|_=>false
def As(kvs:List (QR×QR)):Bool:=kvs.all λp=>match p.1 with|.int _=>true|_=>false
def GR(kvs:List (QR×QR))(k:Int)(d:QR):List (QR×QR):=if kvs.any (sU k)=true then kvs.map λp=>if sU k p=true then(p.1,d) else p else kvs++[(.int k,d)]
def pg(kvs:List (QR×QR))(k:SK)(d:QR):List (QR×QR):=if (gW kvs k).isSome=true then kvs.map λp=>if mC p.1==some k then(p.1,d) else p else kvs++[(yV k,d)]
def xr(kvs:List (QR×QR))(kd d:QR):Option (List (QR×QR)):=if kvs.length<1000000 then match kd with|.int k=>if As kvs=true/\qk d=true then some (GR kvs k d) else none|kd=>if mI kvs=true then(mC kd).map λk=>pg kvs k d else none else none
theorem qh(k:Int):∀(m:List (Int×pB)),(m.map aD).any (sU k)=m.any λp=>p.1==k|[]=>rfl|p::r=>by rw[Rn,Us,Us,qh k r];rfl
theorem qi(k:Int):∀(m:List (Int×pB)),(mE (m.map aK) (Sum.inl k)).isSome=m.any λp=>p.1==k|[]=>rfl|p::r=>by rw[Rn,Us];cases c:p.1==k with|true=>rw[lD (by rw[beq_iff_eq]at c;show Sum.inl p.1=Sum.inl k;rw[c])];rfl|false=>rw[lC (λz=>by rw[beq_eq_false_iff_ne]at c;exact c (Sum.inl.inj z)),qi k r];rfl
theorem GT(m:List (Int×pB))(k:Int)(a:pB):j4 (m.map aK) (Sum.inl k) a.toV=(if (m.any λp=>p.1==k)=true then m.map λp=>if p.1=k then(p.1,a) else p else m++[(k,a)]).map aK:=by
 have h1:((m.map aK).any λkv=>decide (kv.1=(Sum.inl k:dh)))=(m.any λp=>p.1==k):=by rw[sJ,qi]
 unfold j4;rw[h1];split
 ·rw[SH,SH];refine VD λp _=>?_;by_cases z:p.1=k;·simp[aK,z]
  ·have:¬((Sum.inl p.1:dh)=Sum.inl k):=λw=>z (Sum.inl.inj w);simp[aK,z,this]
 ·rw[TY];rfl
theorem GS(m:List (Int×pB))(k:Int)(a:pB):GR (m.map aD) k a.toD=(if (m.any λp=>p.1==k)=true then m.map λp=>if p.1=k then(p.1,a) else p else m++[(k,a)]).map aD:=by
 unfold GR;rw[qh];split
 ·rw[SH,SH];refine VD λp _=>?_;by_cases z:p.1=k;·simp[aD,sU,z]
  ·simp[aD,sU,z]
 ·rw[TY];rfl
theorem dD.snoc{F:Hp}{k:SK}{b:QQ}{d:QR}{v:V}(hb:dO K F k b)(hd:DA K F d v):∀{ps:List (QR×QR)}{m:SD},dD K F ps m->dD K F (ps++[(yV k,d)]) (m++[(k,b,v)])|[],_,q=>by simp only[dD]at q;subst q;simp only[SN,dD,we];exact⟨_,[],rfl,⟨rfl,hb,hd⟩,rfl⟩|(kd,d')::r,_,q=>by simp only[dD,we]at q;obtain⟨x,m',rfl,h,q⟩:=q;simp only[Tw,dD,we];exact⟨x,_,rfl,h,dD.snoc hb hd q⟩
theorem dD.upd{F:Hp}{k:SK}{d:QR}{v:V}(hd:DA K F d v):∀{ps:List (QR×QR)}{m:SD},dD K F ps m->dD K F (ps.map λp=>if mC p.1==some k then(p.1,d) else p) (m.map (uo k v))
 |[],_,q=>by simp only[dD]at q;subst q;simp[dD]|(kd,d')::r,_,q=>by
  simp only[dD,we]at q;obtain⟨x,m',rfl,⟨ek,h1,h2⟩,q⟩:=q;subst ek;rw[Rn,Rn];simp only[dD];refine⟨_,_,rfl,?_,dD.upd hd q⟩;by_cases z:x.1=k;·simp only[lx,z,beq_self_eq_true,if_true,uo,we];first|exact⟨rfl,by rw[<-z];exact h1,hd⟩|exact⟨trivial,by rw[<-z];exact h1,hd⟩
  ·have:(some x.1==some k)=false:=by simp[z]
   simp only[lx,this,uo,z,if_false,we];first|exact⟨rfl,h1,h2⟩|exact⟨trivial,h1,h2⟩
theorem dD.put{F:Hp}{k:SK}{b:QQ}{d:QR}{v:V}{ps:List (QR×QR)}{m:SD}(q:dD K F ps m)(hb:dO K F k b)(hd:DA K F d v):dD K F (pg ps k d) (iU m k b v):=by
 have e:(eC m k).isSome=(gW ps k).isSome:=by rcases q.find k with⟨h1,h2⟩|⟨d',w,h1,h2,h3⟩<;>rw[h1,h2]<;>rfl
 unfold pg iU;rw[e];split;·exact q.upd hd
 ·exact q.snoc hb hd
theorem dD.len:∀{F:Hp}{ps:List (QR×QR)}{m:SD},dD K F ps m->ps.length=m.length|_,[],_,q=>by simp only[dD]at q;subst q;rfl|_,p::r,_,q=>by simp only[dD]at q;obtain⟨x,m',rfl,_,q⟩:=q;simp[dD.len q]
theorem DO{ps:List (QR×QR)}{k:SK}{d:QR}:pg ps k d≠[]:=by
 unfold pg;split;·cases ps with|nil=>rename_i h;simp[gW]at h|cons p r=>simp
 ·simp
open Classical in noncomputable def mB(i ik:Nat)(fv:FE):FS:=λe=>(fv e).bind λp=>match p.1 with|.d dv=>if C8 dv=true/\dN [] i 0 e p.2 then match e[i]?,(p.2.set i (e[i]?).join)[ik]? with|some (some (.d (.dict kvs))),some (some (.d kd))=>(xr kvs kd dv).map λkvs'=>.nx (p.2.set i (some (.d (.dict kvs'))))|_,_=>none else none|_=>none
theorem JU{t1 t2:TS}(h1:PS X st t1)(h2:PS X st t2):PS X st (λD σ H=>t1 D σ H\/t2 D σ H):=λpins s σ H D I h=>h.elim (h1 pins s σ H D I) (h2 pins s σ H D I)
theorem JL{x:QT}{t1 t2:TE}(h1:PE X x t1)(h2:PE X x t2):PE X x (λσ H Q=>t1 σ H Q\/t2 σ H Q):=λpins s σ H Q I h=>h.elim (h1 pins s σ H Q I) (h2 pins s σ H Q I)
theorem zR{value:QT}{fv:FE}{ik k:Nat}{x xk:Str}{p pk pos':Pos}(hr:bE k X.A)(hK:X.K=K)(ne:ik≠i)(ho:PE X (.Name x p) (vY i))(hk:PE X (.Name xk pk) (vY ik))(hv:PE X value (fE K fv))(hs:SV value (some (.Subscript (.Name x p) (.Name xk pk) pos')) pos.line X.env=pure false):PS X (.Assign [.Subscript (.Name x p) (.Name xk pk) pos'] value pos) (xW K i (mB i ik fv) []):=(JU (GM (by have:=hr.units;lia) ho hk hv hs) (DG (by have:=hr.un;lia) ho hk hv hs)).mono λD σ H h=>by
 subst hK;obtain⟨F,e,fl,R,hf,q⟩:=h;unfold mB at hf;obtain⟨⟨r,y⟩,h1,hf⟩:=QI hf;dsimp only at hf;split at hf;case h_2=>cases hf
 case h_1 dv=>
 split at hf;case isFalse=>cases hf
 case isTrue hc=>
 obtain⟨F1,R1,back⟩:=R.view;obtain⟨l0,kvs,o0,g1,g2,g3,g4,g5⟩:=R.dct;rw[g1]at hf;split at hf;case h_2=>cases hf
 case h_1 kvs1 kd eq1 eq2=>
 cases eq1;obtain⟨kvs',hp,hf⟩:=QJ hf;cases hf;have key:∀F2 H2 v,dF σ F1 H e F2 H2 y->aR X.K F2 H2 σ y->bG X.K σ H F2 H2 y (.d dv) v->∃l o o' kv,σ[i]?=some (some (.ref l))/\H2 l=some o/\σ[ik]?=some (some kv)/\((∃(m:List (dh×V)) (k:dh),o=.dK m/\kv=kV k/\m.length<Rm/\o'=.dK (j4 m k v))\/∃(m:SD) (k:SK) (b:QQ),o=xV l m/\kv=.ref b/\(∀p∈m,dO X.K H2 p.1 p.2.1)/\dO X.K H2 k b/\m.length<Rm/\o'=xV l (iU m k b v))/\D.nx σ (upd H2 l o'):=by
  intro F2 H2 v X2 R2 A2;obtain⟨F3,X3,R3,sub,hd⟩:=back [] F2 H2 σ y ↥1 X2.s R2 hc.2;obtain⟨l,kvs2,o,f1,f2,f3,f4,f5⟩:=R3.dct;have hlt:i<y.length:=by rw[<-R2.len];exact(QK f2).1
  rw[g1,RU hlt]at f1;cases f1;have dA:DA X.K F3 dv v:=DA.dropD hd hc.1 A2;rw[Ru (Rz ne)]at eq2;obtain⟨kv,w1,w2⟩:=R3.rel.dat ik kd (by rw[SR,Ru (Rz ne)];exact eq2);have no:¬bq σ ((y.set i (e[i]?).join).set i none) H2 l:=R3.rel.notOwn f4 f5.nl;have sl:Rm=16777216:=Se;have nx:∀o',pC X.K F3 l kvs' o'->D.nx σ (upd H2 l o'):=λo' dc=>by
   obtain⟨R4,o4⟩:=R3.rel.putO (o:=o') f3 no;refine q F3 _ σ ⟨X3.sf,λa z=>?_,λa vs z z2 n=>X3.fr a vs z z2 n,λa vs z=>?_,λa u z n nl=>?_,λa z=>?_,λ_ _=>rfl,rfl,λa m z z2 n nl=>X3.fd a m z z2 n nl⟩ ⟨by rw[SR];rw[SR]at R4;exact R4,l,kvs',o',RU hlt,f2,f3,ao,dc⟩
   ·by_cases ea:a=l;·rw[ea,ao]at z;cases z
    ·rw[aq ea]at z;exact X3.dom a z
   ·obtain⟨vs',z'⟩:=X3.lst a vs z;have ea:a≠l:=λea=>by rw[ea,f4]at z';cases z';exact f5.nl _ rfl
    rw[aq ea];exact⟨vs',z'⟩
   ·have ea:a≠l:=λea=>nl (by rw[ea];exact f2);rw[aq ea];exact X3.tmp a u z n nl
   ·rw[SR]at z;refine X3.own a ?_;rw[SR]at o4⊢;exact(o4 a).mp z
  unfold xr at hp;split at hp;case isFalse=>cases hp
  case isTrue hl=>
  split at hp;case h_1 k0=>
   split at hp;case isFalse=>cases hp
   case isTrue ha=>
   cases hp;rcases f5 with⟨m,rfl,rfl,ok⟩|⟨m,n0,rfl,dp⟩;case inr=>exact absurd (ha.1.symm.trans (show As kvs=false from dp.notInts n0)) ↥1
   have e1:=GT m k0 (.vd v dv);have e2:=GS m k0 (.vd v dv);refine⟨l,_,_,kv,f2,f4,w1,.inl ⟨m.map aK,Sum.inl k0,rfl,bc.mp w2,by rw[Rq]at hl⊢;lia,rfl⟩,?_⟩;rw[show j4 (m.map aK) (Sum.inl k0) v=_ from e1];refine nx _ (.inl ⟨_,e2,rfl,λp hp=>?_⟩);have okv:(pB.vd v dv).ok X.K F3:=DA.da0 ha.2 dA;split at hp
   ·obtain⟨p0,hp0,hp1⟩:=QM hp;split at hp1;·rw[<-hp1];exact okv
    ·rw[<-hp1];exact ok p0 hp0
   ·rcases QL hp with hp|hp;·exact ok p hp
    ·rw[Uk.mp hp];exact okv
  case h_2=>
   split at hp;case isFalse=>cases hp
   case isTrue ha=>
   obtain⟨k0,hk0,rfl⟩:=QJ hp;have ek:=p7 hk0;subst ek;obtain⟨b,rfl,hb⟩:=DA.sk w2;have:∃m:SD,o=xV l m/\dD X.K F3 kvs m:=by
    rcases f5 with⟨m,rfl,rfl,ok⟩|⟨m,n0,rfl,dp⟩;·cases m with|nil=>exact⟨[],rfl,by simp[dD]⟩|cons p r=>simp[mI,mC,aD]at ha
    ·cases m with
     |nil=>cases kvs with|nil=>exact absurd rfl n0|cons p q=>simp only[dD]at dp;obtain⟨_,_,z,_⟩:=dp;cases z
     |cons p q=>exact⟨p::q,rfl,dp⟩
   obtain⟨m,rfl,dp⟩:=this;refine⟨l,_,_,_,f2,f4,w1,.inr ⟨m,k0,b,rfl,rfl,λp hpm=>(dp.keys p hpm).mono R3.rel.sm,hb.mono R3.rel.sm,by rw[<-dp.len];lia,rfl⟩,?_⟩;rw[zh];exact nx _ (.inr ⟨_,DO,rfl,dp.put hb dA⟩)
 have hk0:(∃k0,kd=.int k0)\/∃k0,mC kd=some k0:=by
  unfold xr at hp;split at hp;case isFalse=>cases hp
  split at hp;case h_1 k0=>exact .inl ⟨k0,rfl⟩
  split at hp;case isFalse=>cases hp
  obtain⟨k0,hk0,_⟩:=QJ hp;exact .inr ⟨k0,hk0⟩
 have hlt0:i<e.length:=(QK g1).1;rcases hk0 with⟨k0,rfl⟩|⟨k0,hk0⟩
 ·left;refine⟨F1,e,_,y,R1,h1,λF2 H2 v X2 R2 A2=>?_⟩;obtain⟨l,o,o',kv,c1,c2,c3,c4,c5⟩:=key F2 H2 v X2 R2 A2;refine⟨_,c1,kv,c3,?_⟩;rcases c4 with⟨m,k,rfl,rfl,hl,rfl⟩|⟨m,k,b,rfl,rfl,c6,c7,c8,rfl⟩;·exact⟨l,_,rfl,BU.k c2 hl,c5⟩
  ·exfalso;obtain⟨v',w1,w2⟩:=R2.dat ik (.int k0) (by rw[Ru (Rz ne)]at eq2;exact eq2);rw[w1]at c3;cases c3;exact nomatch bc.mp w2
 ·right;refine⟨F1,e,_,y,R1,h1,λF2 H2 v X2 R2 A2=>?_⟩;obtain⟨l,o,o',kv,c1,c2,c3,c4,c5⟩:=key F2 H2 v X2 R2 A2;refine⟨_,c1,kv,c3,?_⟩;rcases c4 with⟨m,k,rfl,rfl,hl,rfl⟩|⟨m,k,b,rfl,rfl,c6,c7,c8,rfl⟩;·exfalso;obtain⟨v',w1,w2⟩:=R2.dat ik kd (by rw[Ru (Rz ne)]at eq2;exact eq2);rw[w1]at c3;cases c3;have ek:=p7 hk0;subst ek;obtain⟨b,z,_⟩:=DA.sk w2;cases k<;>cases z
  ·exact⟨l,m,k,b,rfl,c2,c6,rfl,c7,c8,c5⟩
end
abbrev FD:=En->Option (List (QR×QR)×En)
def M5(K:QU)(f:FD):TE:=λσ H Q=>∃F e kvs e',aR K F H σ e/\f e=some (kvs,e')/\∀F' H' l o,dF σ F H e F' H' e'->aR K F' H' σ e'->H l=none->F' l=none->H' l=some o->pC K F' l kvs o->Q (.ref l) H'
section
variable{X:Cx}{K:QU}{i:Nat}{W W1 W2:List Nat}{st:Rh}{dg:List Rh}{f g:FS}{ft:FT}{pos:Pos}
theorem aR.emptyD{σ:L2.St}{F H:Hp}{e:En}(R:aR K F H σ e){p:QQ}(hp:H p=none):aR K F (upd H p (.dK [])) σ e/\(∀a,bq σ e (upd H p (.dK [])) a↔bq σ e H a)/\F p=none/\¬bq σ e (upd H p (.dK [])) p:=by have fp:=R.freeF hp;obtain⟨R1,o1⟩:=R.putO (l:=p) (o:=.dK []) fp λz=>R.ownH p z hp;exact⟨R1,o1,fp,R1.notOwn ao (λ_ z=>nomatch z)⟩
def KI:FD:=λe=>some ([],e)
theorem LU:PE X (.Dict [] [] pos) (M5 K KI):=Dn.mono λσ H Q h=>by
 obtain⟨F,e,kvs,e',R,hf,q⟩:=h;cases hf;intro p hp;obtain⟨R1,o1,fp,no⟩:=R.emptyD hp;refine q F _ p (.dK []) ⟨aw.refl _,λa z=>?_,λ_ _ z _ _=>z,λa vs z=>⟨vs,?_⟩,λa o z _=>?_,λ_=>Iff.rfl,λa z=>.inl ((o1 a).mp z),λ_ _ z _ _=>z⟩ R1 hp fp ao (.inl ⟨[],rfl,rfl,by simp⟩)
 ·by_cases ea:a=p;·rw[ea,ao]at z;cases z
  ·rw[aq ea]at z;exact z
 ·have ea:a≠p:=λea=>by rw[ea,hp]at z;cases z
  rw[aq ea];exact z
 ·have ea:a≠p:=λea=>by rw[ea,hp]at z;cases z
  rw[aq ea];exact z
def Hw(fk fv:FE):FD:=λe=>(fk e).bind λp0=>(fv p0.2).bind λp=>match p0.1,p.1 with|.d (.int k),.d dv=>if qk dv=true then some ([(.int k,dv)],p.2) else none|_,_=>none
theorem LV{ke ve:QT}{fk fv:FE}(hk:PE X ke (fE K fk))(hv:PE X ve (fE K fv)):PE X (.Dict [some ke] [ve] pos) (M5 K (Hw fk fv)):=(GB (DB hk hv GL) rfl rfl ↥1 ↥1).mono λσ H Q h=>by
 obtain⟨F,e,kvs,e',R,hf,q⟩:=h;unfold Hw at hf;obtain⟨⟨r0,y0⟩,h0,hf⟩:=QI hf;obtain⟨⟨r,y⟩,h1,hf⟩:=QI hf;dsimp only at hf h1;split at hf;case h_2=>cases hf
 case h_1 k dv hf0=>
 split at hf;case isFalse=>cases hf
 case isTrue ha=>
 cases hf;intro p hp;obtain⟨R1,o1,fp,no⟩:=R.emptyD hp;refine⟨F,e,_,y0,R1,h0,λF0 H0 v0 X0 R0 A0=>⟨F0,y0,_,e',R0,h1,λF2 H2 v X02 R2 A2=>?_⟩⟩;have X2:=X0.trans X02;obtain rfl:v0=V.int k:=bc.mp (show DA K F0 (.int k) v0 from A0);have h2p:H2 p=some (.dK []):=X2.tmp p _ ao no;have f2p:F2 p=none:=X2.fd p ⟨.dK [],rfl⟩ fp ao no;refine⟨h2p,[(Sum.inl k,v)],rfl,by simp,?_⟩;obtain⟨R3,o3⟩:=R2.putO (l:=p) (o:=.dK (ox [] [((Sum.inl k:dh),v)])) f2p (R2.notOwn h2p (λ_ z=>nomatch z));have ne:∀a u,H a=some u->a≠p:=λa u z ea=>by rw[ea,hp]at z;cases z
 have up:∀a u,H a=some u->(upd H p (.dK [])) a=some u:=λa u z=>by rw[aq (ne a u z)];exact z
 have nO:∀{a},¬bq σ e H a->¬bq σ e (upd H p (.dK [])) a:=λn z=>n ((o1 _).mp z);have dm:∀a,(upd H p (.dK [])) a=none->H a=none:=λa z=>by
  by_cases ea:a=p;·rw[ea];exact hp
  ·rw[aq ea]at z;exact z
 refine q F2 _ p _ ⟨X2.sf,λa z=>?_,λa vs z z2 n=>X2.fr a vs z (up a _ z2) (nO n),λa vs z=>?_,λa u z n=>?_,X2.shp,λa z=>?_,λa m z z2 n=>X2.fd a m z (up a _ z2) (nO n)⟩ R3 hp f2p ao (.inl ⟨[(k,.vd v dv)],rfl,rfl,λp hp=>?_⟩)
 ·by_cases ea:a=p;·rw[ea,ao]at z;cases z
  ·rw[aq ea]at z;exact dm a (X2.dom a z)
 ·obtain⟨vs',z'⟩:=X2.lst a vs (up a _ z);exact⟨vs',by rw[aq (ne a _ z)];exact z'⟩
 ·rw[aq (ne a u z)];exact X2.tmp a u (up a u z) (nO n)
 ·rcases X2.ow a ((o3 a).mp z) with w|w;·exact .inl ((o1 a).mp w)
  ·exact .inr (dm a w)
 ·rw[Uk.mp hp];exact DA.da0 ha A2
def oI(i:Nat)(fd:FD)(f:FS):FS:=λe=>(fd e).bind λp=>if i<p.2.length then(f (p.2.set i (some (.d (.dict p.1))))).bind λfl=>match fl with|.rt r e'=>some (.rt r (e'.set i none))|_=>none else none
theorem uq{x:Str}{fd:FD}{ex:QT}{pos':Pos}(hN:X.N.Nodup)(hix:X.N[i]?=some x)(hx:HI X.env.scope x)(he:PE X ex (M5 K fd))(hs:SV ex (some (.Name x pos')) pos.line X.env=pure false)(hf':X.fn x=true\/X.env.scope.names.lookup x=some .local)(hr:kc X dg (xW K i f W)):kc X (.Assign [.Name x pos'] ex pos::dg) (fS K (oI i fd f) (i::W)):=(jv (rP hN hix hx he hs hf') hr).mono λD σ H h=>by
 obtain⟨F,e,fl,R,hf,q⟩:=h;unfold oI at hf;obtain⟨⟨kvs,e1⟩,h0,hf⟩:=QI hf;dsimp only at hf;split at hf;case isFalse=>cases hf
 case isTrue hlt=>
 obtain⟨fl1,h1,hf⟩:=QI hf;refine⟨F,e,kvs,e1,R,h0,λF1 H1 l o X1 R1 hl f1 hl1 dc=>?_⟩;have Rd:=R1.drop i;have R2:=Rd.poke (some (.ref l));have hσ:(σ.set i (some (V.ref l)))[i]?=some (some (.ref l)):=RU (by rw[R1.len];exact hlt);have es:(e1.set i (some (Sv.d (.dict kvs)))).set i none=e1.set i none:=SR ..;refine⟨F1,e1.set i (some (.d (.dict kvs))),fl1,⟨by rw[SR];exact R2,l,kvs,o,RU hlt,hσ,f1,hl1,dc⟩,h1,?_⟩
 cases fl1 with|rt r e'=>
  cases hf;intro F' H' σ' v x R' A;have ne:∀a u,H a=some u->a≠l:=λa u z ea=>by rw[ea,hl]at z;cases z
  have nl:∀a u,H a=some u->(σ.set i (some (V.ref l)))[i]?≠some (some (.ref a)):=λa u z w=>by rw[hσ]at w;exact ne a u z (V.ref.inj (RG (RG w))).symm
  have ow:∀a,bq (σ.set i (some (.ref l))) ((e1.set i (some (Sv.d (.dict kvs)))).set i none) H1 a->bq σ e H a\/H a=none:=λa⟨j,z⟩=>by rw[es]at z;exact X1.ow a ⟨j,(vo.mp z).drop⟩
  have nO:∀a u,H a=some u->¬bq σ e H a->¬bq (σ.set i (some (.ref l))) ((e1.set i (some (Sv.d (.dict kvs)))).set i none) H1 a:=λa u z n w=>(ow a w).elim n λw=>by rw[z]at w;cases w
  refine q F' H' σ' v ⟨X1.sf.trans x.sf,λa z=>X1.dom a (x.dom a z),λa vs z z2 no=>x.fr a vs (X1.fr a vs z z2 no) (X1.tmp a _ z2 no) (nO a _ z2 no),λa vs z=>?_,λa u z no=>x.tmp a u (X1.tmp a u z no) (nO a u z no) (nl a u z),λa z=>?_,λj n=>?_,λa m z z2 no=>x.fd a m (X1.fd a m z z2 no) (X1.tmp a _ z2 no) (nO a _ z2 no) (nl a _ z2)⟩ R' (A.weak X1.dom);·obtain⟨vs',z'⟩:=X1.lst a vs z;exact x.lst a vs' z'
  ·rcases x.own a z with w|w;·exact ow a w
   ·exact .inr (X1.dom a w)
  ·have n2:j∉W/\j≠i:=⟨λz=>n (Td _ z),λz=>n (by rw[z];exact Tz)⟩;rw[x.wr j n2.1,Ru (Rz n2.2)]|_=>cases hf
def f9(g1 g2:En->Rv->Rv->Option Rv):En->Rv->Rv->Option Rv:=λe x y=>match g1 e x y with|some r=>some r|none=>g2 e x y
theorem GW{x:QT}{g1 g2:En->Rv->Rv->Option Rv}{fa fb:FE}(h1:PE X x (fE K (aB g1 fa fb)))(h2:PE X x (fE K (aB g2 fa fb))):PE X x (fE K (aB (f9 g1 g2) fa fb)):=(JL h1 h2).mono λσ H Q h=>by
 obtain⟨F,e,r,e',R,hf,q⟩:=h;unfold aB at hf;obtain⟨p,k1,hf⟩:=QI hf;obtain⟨p2,k2,hf⟩:=QI hf;obtain⟨z,k3,hf⟩:=QJ hf;unfold f9 at k3;split at k3;case h_1 r' eq1=>cases k3;exact .inl ⟨F,e,r,e',R,by unfold aB;rw[k1,Rr,k2,Rr,eq1,Su,hf],q⟩
 case h_2=>exact .inr ⟨F,e,r,e',R,by unfold aB;rw[k1,Rr,k2,Rr,k3,Su,hf],q⟩
abbrev Lc:=f9 kh f_
theorem yQ{a b:QT}{fa fb:FE}{k:Nat}(hr:bE k X.A)(hK:X.K=K)(ha:PE X a (fE K fa))(hb:PE X b (fE K fb))(hs:Aq b):PE X (.Subscript a b pos) (fE K (aB Lc fa fb)):=GW (JZ hr ha hb hs) (GY hr hK ha hb hs)
def mi(neg:Bool):En->Rv->Rv->Option Rv:=λ_ y x=>match y,x with|.d (.int k),.d (.dict kvs)=>if As kvs=true then some (.d (.bool (if neg then !(kvs.any (sU k)) else kvs.any (sU k)))) else none|_,_=>none
theorem HQ{neg:Bool}:fY K (λy x H Q=>∃a o,x=.ref a/\nZ H a y o/\Q (.bl (if neg then !o.isSome else o.isSome)) H) (mi neg):=by
 intro σ H0 F H e x y z v u Q R A B hg q;unfold mi at hg;split at hg;case h_2=>cases hg
 case h_1 k kvs=>
 split at hg;case isFalse=>cases hg
 case isTrue ha=>
 cases hg;have B':DA K F (.dict kvs) u:=B;simp only[DA]at B';rcases B' with⟨a,m,rfl,hF,rfl,ok⟩|⟨a,m,rfl,hF,r,n⟩;case inr=>exact absurd (ha.symm.trans (show As kvs=false from r.notInts n)) ↥1
 have A':v=.int k:=bc.mp (show DA K F (.int k) v from A);subst A';have g:=nZ.k (k:=Sum.inl k) (R.sm _ _ hF);have e2:=qi k m;have e3:=qh k m;refine⟨a,_,rfl,g,?_⟩;show Q (.bl (if neg then !(mE (m.map aK) (Sum.inl k)).isSome else(mE (m.map aK) (Sum.inl k)).isSome)) H;rw[e2,<-e3];exact q F H _ (dF.refl _ _ _ _) R eZ
theorem JB{k:Nat}(hr:bE k X.A):eG X (RI .In) (λy x H Q=>∃a o,x=.ref a/\nZ H a y o/\Q (.bl (if false then !o.isSome else o.isSome)) H):=by intro pins s σ H y x iv u Q I ry rx⟨a,o,ex,g,q⟩;subst ex;obtain rfl:u=Value.ref a:=rx;exact M4 (by have:=hr.units;lia) I g ry λs3 I3=>⟨.bl o.isSome,H,I3,rfl,q⟩
theorem Gn{k:Nat}(hr:bE k X.A):eG X (RI .NotIn) (λy x H Q=>∃a o,x=.ref a/\nZ H a y o/\Q (.bl (if true then !o.isSome else o.isSome)) H):=by intro pins s σ H y x iv u Q I ry rx⟨a,o,ex,g,q⟩;subst ex;obtain rfl:u=Value.ref a:=rx;exact Fv (by have:=hr.units;lia) I g ry λs3 I3=>⟨.bl (!o.isSome),H,I3,rfl,q⟩
theorem Gv{k:Nat}(hr:bE k X.A):eG X (RI .In) (λy x H Q=>∃kvs k b,BV X.K H x kvs/\y=.ref b/\dO X.K H k b/\Q (.bl (if false then !(eC kvs k).isSome else(eC kvs k).isSome)) H):=by intro pins s σ H y x iv u Q I ry rx⟨kvs,k,b,⟨a,ex,e,hk⟩,ey,hb,q⟩;subst ex ey;obtain rfl:u=Value.ref a:=rx;obtain rfl:iv=Value.ref b:=ry;exact z9 (by have:=hr.un;lia) I e hk hb λs3 I3=>⟨.bl _,H,I3,rfl,q⟩
theorem Dh{k:Nat}(hr:bE k X.A):eG X (RI .NotIn) (λy x H Q=>∃kvs k b,BV X.K H x kvs/\y=.ref b/\dO X.K H k b/\Q (.bl (if true then !(eC kvs k).isSome else(eC kvs k).isSome)) H):=by intro pins s σ H y x iv u Q I ry rx⟨kvs,k,b,⟨a,ex,e,hk⟩,ey,hb,q⟩;subst ex ey;obtain rfl:u=Value.ref a:=rx;obtain rfl:iv=Value.ref b:=ry;exact EC (by have:=hr.un;lia) I e hk hb λs3 I3=>⟨.bl _,H,I3,rfl,q⟩
theorem HJ{r1 r2:R2}{g1 g2:En->Rv->Rv->Option Rv}(h1:fY K r1 g1)(h2:fY K r2 g2):fY K (λx y H Q=>r1 x y H Q\/r2 x y H Q) (f9 g1 g2):=by
 intro σ H0 F H e x y z v u Q R A B hg q;unfold f9 at hg;split at hg;case h_1 r' eq1=>cases hg;exact .inl (h1 σ H0 F H e x y z v u Q R A B eq1 q)
 case h_2=>exact .inr (h2 σ H0 F H e x y z v u Q R A B hg q)
theorem Df{f:QP->QP->Sem QP}{r1 r2:R2}(h1:eG X f r1)(h2:eG X f r2):eG X f (λx y H Q=>r1 x y H Q\/r2 x y H Q):=λpins s σ H x y v u Q I rx ry h=>h.elim (h1 pins s σ H x y v u Q I rx ry) (h2 pins s σ H x y v u Q I rx ry)
theorem Cc{k:Nat}(hK:X.K=K)(hr:bE k X.A):lR X K .In (f9 (mi false) (g_ false)):=by subst hK;exact⟨_,Df (JB hr) (Gv hr),HJ (HQ (neg:=false)) (ED (neg:=false))⟩
theorem zq{k:Nat}(hK:X.K=K)(hr:bE k X.A):lR X K .NotIn (f9 (mi true) (g_ true)):=by subst hK;exact⟨_,Df (Gn hr) (Dh hr),HJ (HQ (neg:=true)) (ED (neg:=true))⟩
end
abbrev BK:List QP:=[.type "ValueError",.type "Exception",.type "BaseException",.type "object"]
def MQ(h:Re)(C:QQ):Prop:=∃(bm:List QP) (N:QQ) (nm q:Str) (bs:List QP) (hd:Bool) (sn:List Str) (sub:List QP) (ab:Bool) (col:Option Bool) (dd:Option QQ) (k0 k1 k2 k3 k5:Option QP) (m:Str->Option QP),h.get? C=some (excClassObj nm q C N bs bm hd sn sub ab col dd k0 k1 k2 k3 k5 "ValueError.__new__")/\h.Ns N m/\m "__init__"=none/\OwnTail h BK bm
theorem Fx{K:QU}{h:Re}{C:QQ}(X:K.In h)(q:Vj K C BK "ValueError.__new__"=true):MQ h C:=by
 unfold Vj at q;split at q;case h_2=>cases q
 case h_1 dd cd sl ho=>
 split at q;case h_2=>cases q
 case h_1 C' bm k0 k1 k2 k3 n k5 hm hs=>simp only[RE,beq_iff_eq,Vy]at q;obtain⟨⟨⟨⟨⟨e1,e2⟩,e3⟩,e4⟩,e5⟩,e6⟩:=q;subst e1 e2;cases cd with|mk nm bs mro ns qn hd sn sub ab col del=>have e7:mro=.ref C'::bm:=hm;have e8:del=false:=e3;subst e7 e8;cases sl with|mk l=>have e9:l=[k0,k1,k2,k3,some (.builtin "ValueError.__new__"),k5]:=hs;subst e9;exact⟨bm,ns,nm,qn,bs,hd,sn,sub,ab,col,dd,k0,k1,k2,k3,k5,_,X _ _ ho,.of_isNs (PySem.W.isNs_of_in X e5),PySem.W.nsMap_none_of_in X e5 e6,PySem.W.tail_of_in X e4⟩
section
variable{X:Cx}{C:QQ}{x:Str}{p pos rp:Pos}{e:QT}{t:TA}
def Kp(H H':Hp):Prop:=∀a o,H a=some o->H' a=some o
def uT(X:Cx)(C:QQ):Prop:=∀(pins:List (QQ×Obj)) (σ:St) (H:Hp) (s:QS) (h':Re) (a:QQ) (vs:List QP),av X pins σ H s->Kp X.H₀ H->Heap.MadeExcOf s.heap h' a (.ref C) vs->X.xe (.ref a) {s with heap:=h'}
theorem DF(hcalm:X.calm=true)(hg:Gl X x)(hm:X.mg x=some (.ref C))(hC:Vj X.K C BK "ValueError.__new__"=true)(hx:uT X C)(ha:PA X [e] t)(hdb:(x==("__debug__":Str))=false:=by decide)(he:Rg [e] X.env=[(false,Rj e X.env)]:=by rfl):PS X (.Raise (some (.Call (.Name x p) [e] [] pos)) none rp) (λ_ σ H=>t σ H λvs H1=>vs.length<=Rm/\Kp X.H₀ H1):=by intro pins s σ H D I h;obtain⟨bm,N,nm,q,bs,hd,sn,sub,ab,col,dd,k0,k1,k2,k3,k5,m,c1,c2,c3,c4⟩:=Fx I.mod.kin hC;refine wpAny_Raise_call_subU (C:=C) (N:=N) (nm:=nm) (q:=q) (bs:=bs) (bm:=bm) (hdct:=hd) (sn:=sn) (sub:=sub) (ab:=ab) (col:=col) (dd:=dd) (k0:=k0) (k1:=k1) (k2:=k2) (k3:=k3) (k5:=k5) (mN:=m) F.excBase_ValueError ↥2 F.excBase_ValueError (c4.hasType ↥2) (I.ok.hd hcalm) (by rw[he];rfl) c3 (lJ I hg hm ⟨rfl,?_⟩ hdb);have hA:=ha pos pins s σ H _ I h;rw[he]at hA⊢;refine Calls.evalArgs_plain (bu hA λus s1⟨vs,H1,I1,r,q,kq⟩=>⟨rfl,?_,I1.bk _ _ c1,c2.keeps I1.bk,c4.keeps I1.bk,λh' a hx'=>hx pins σ H1 s1 h' a us I1 kq hx'⟩);rw[<-r.length];exact q
end
theorem bv.some{P:QZ}{w:QW}{H:Hp}{h:Re}{a:QQ}{o:HO}(x:bv P w H h a o):∃u,h.get? a=.some u:=by cases o with|lst xs=>obtain⟨_,_,_,_,e⟩:=x;exact⟨_,e⟩|tup xs=>obtain⟨_,_,_,p⟩:=x;obtain⟨o,e,_⟩:=p;exact⟨o,e⟩|dK kvs=>obtain⟨_,_,_,_,o,_,_,e,_⟩:=x;exact⟨_,e⟩|dT kvs=>obtain⟨_,_,_,_,o,_,_,e,_⟩:=x;exact⟨_,e⟩|set S n=>obtain⟨o,_,_,_,e,_⟩:=x;exact⟨_,e⟩|ins C dx fs=>obtain⟨_,_,_,e,_⟩:=x;exact⟨_,e⟩|own y=>obtain⟨o,e⟩:=x;exact⟨o,e⟩|xd fs=>obtain⟨_,⟨_,_,_,e,_⟩,_⟩:=x;exact⟨_,e⟩|rng lo hi=>obtain⟨_,_,_,e⟩:=x;exact⟨_,e⟩|frz ob u=>obtain⟨e,_⟩:=x;exact⟨_,e⟩|tbl ps=>exact⟨_,show h.get? a=.some _ from x⟩|met f y=>exact⟨_,show h.get? a=.some _ from x⟩|ext φ=>obtain⟨_,⟨o,e⟩,_⟩:=x;exact⟨o,e⟩
def Ao(l:List Env)(h h':Re):Prop:=∀b∈jo l,∀o,h.get? b=some o->∃sl,h'.get? b=some {o with slots:=sl}
structure HF (P:QZ) (w:QW) (fs:List QQ) (H H':Hp) (h b0:Re):Prop where
 keep:∀b o,h.get? b=some o->H b=none->b∉fs->b0.get? b=some o
 there:∀b o,h.get? b=some o->b∉fs->∃o',b0.get? b=some o'
 free:∀b o,h.get? b=some o->H b=none->H' b=none
 tups:∀b xs,H b=some (.tup xs)->H' b=some (.tup xs)frzs:∀b o u,H b=some (.frz o u)->H' b=some (.frz o u)tbls:∀b ps,H b=some (.tbl ps)->∃more,H' b=some (.tbl (ps++more))hok:l7 P w H' b0
theorem HF.un{P:QZ}{w:QW}{l:List Env}{H H':Hp}{h b0 h2:Re}(x:HF P w (jo l) H H' h b0)(st:b0.StaysIn h2)(sl:Ao l h h2):Un (jo l) [] H H' h h2/\l7 P w H' h2:=⟨⟨λb o e n hb _=>st b o (x.keep b o e n hb),λb o e n hb _=>sl b hb o e,λb o e n _=>x.free b o e n,λb o e _=>by
 by_cases hb:b∈jo l;·obtain⟨s2,e2⟩:=sl b hb o e;exact⟨_,e2⟩
 ·obtain⟨o',e'⟩:=x.there b o e hb;exact⟨o',st b o' e'⟩,x.tups,x.frzs,x.tbls⟩,x.hok.kept st⟩
def qc(P:QZ)(w:QW)(C:QQ):sO:=λouter H s _ e s'=>∃(a:QQ) (t:QP) (b0:Re) (H':Hp),e=.ref a/\s'.os=s.os/\Tp s'.gens/\Heap.FlyingW b0 outer a (.ref C) t s'.heap/\Ao outer s.heap s'.heap/\H' a=none/\s.heap.get? a=none/\Kp H H'/\HF P w (jo outer) H H' s.heap b0
theorem tZ{h base b0:Re}:∀{l:List Env},(∀b∈jo l,b0.get? b=none)->h.FunFrames base l->h.FunFrames b0 l
 |[],_,_=>trivial|env::r,hn,hl=>by
  obtain⟨hk,⟨L,o,hf,_,ho,hd⟩,hr⟩:=hl;have e:jo (env::r)=L::jo r:=by unfold jo;rw[UR,hf]
  rw[e]at hn;exact⟨hk,⟨L,o,hf,hn L ↥1,ho,hd⟩,tZ (λb hb=>hn b (by simp[hb])) hr⟩
section
variable{P:QZ}{w:QW}{K:QU}{mg:Str->Option QP}{base:Re}{N:List Str}{qual:Str}{scope:Rt}{f:QQ}{cd:QP}{A:Rf}{outer:List Env}{s:QS}{H:Hp}{E:XK}{C:QQ}{pins:List (QQ×Obj)}{σ:L2.St}{H1:Hp}{s1:QS}
theorem oD{CX:sO}(I:av (eL CX P w K mg base N qual scope f cd A outer s H E) pins σ H1 s1):(RB qual scope ↑s f cd).frame=some (RB qual scope ↑s f cd).locals/\∀b o,s.heap.get? b=some o->b∉jo outer->b∉jo (RB qual scope ↑s f cd::outer):=by
 have hf:(RB qual scope ↑s f cd).frame=some (RB qual scope ↑s f cd).locals:=by
  rcases I.ok.stk with e|e;·exact absurd (congrArg List.length (show RB qual scope ↑s f cd::outer=outer from e)) ↥1
  ·exact e.2
 refine⟨hf,λb o e hb z=>?_⟩;have frc:jo (RB qual scope ↑s f cd::outer)=(RB qual scope ↑s f cd).locals::jo outer:=by unfold jo;rw[UR,hf]
 rw[frc]at z;have lt:=Rp e;rcases QN z with z|z;·have ab:↑s<=(RB qual scope ↑s f cd).locals:=I.ok.above;rw[z]at lt;exact absurd lt (Nat.not_lt.mpr ab)
 ·exact hb z
theorem Hj{env:Env}{b:QQ}(h:b∈jo outer):b∈jo (env::outer):=by
 unfold jo at h⊢;rw[UR];split;·exact h
 ·exact Td _ h
theorem HF.up{CX:sO}{H':Hp}{b0:Re}(I:av (eL CX P w K mg base N qual scope f cd A outer s H E) pins σ H1 s1)(x:HF P w (jo (RB qual scope ↑s f cd::outer)) H1 H' s1.heap b0):HF P w (jo outer) H H' s.heap b0:=by have ib:Un (jo outer) [] H H1 s.heap s1.heap:=I.base;have nf:=(oD I).2;exact⟨λb o e n hb=>x.keep b o (ib.keep b o e n hb ↥1) (ib.free b o e n ↥1) (nf b o e hb),λb o e hb=>by obtain⟨o',e'⟩:=ib.there b o e ↥1;exact x.there b o' e' (nf b o e hb),λb o e n=>by obtain⟨o',e'⟩:=ib.there b o e ↥1;exact x.free b o' e' (ib.free b o e n ↥1),λb xs q=>x.tups b xs (ib.tups b xs q),λb o u q=>x.frzs b o u (ib.frzs b o u q),λb ps q=>by obtain⟨m1,e1⟩:=ib.tbls b ps q;obtain⟨m2,e2⟩:=x.tbls b _ e1;exact⟨m1++m2,by rw[e2,Array.append_assoc]⟩,x.hok⟩
theorem ly{l:List Env}{h h1 h2 b0:Re}(x:Ao l h h1)(f:h1.FunFrames b0 l)(u:h1.UpToSlots h2):Ao l h h2:=λb hb o e=>by obtain⟨sl,q⟩:=x b hb o e;obtain⟨_,o',q',nf⟩:=f.mem hb;rw[q]at q';cases q';obtain⟨s2,q2⟩:=u b _ q nf;exact⟨s2,q2⟩
theorem xl{CX:sO}{a:QQ}(I:av (eL CX P w K mg base N qual scope f cd A outer s H E) pins σ H1 s1)(h:s1.heap.get? a=none):s.heap.get? a=none:=by have ib:Un (jo outer) [] H H1 s.heap s1.heap:=I.base;cases q:s.heap.get? a with|none=>rfl|some o=>obtain⟨o',e⟩:=ib.there a o q ↥1;rw[e]at h;cases h
theorem um{CX:sO}(I:av (eL CX P w K mg base N qual scope f cd A outer s H E) pins σ H1 s1):Ao outer s.heap s1.heap:=λb hb o e=>(show Un (jo outer) [] H H1 s.heap s1.heap from I.base).slot b o e (I.ok.frf b hb) hb ↥1
theorem Ee:uT (eL (qc P w C) P w K mg base N qual scope f cd A outer s H E) C:=by
 intro pins σ H1 s1 h' a vs I hkp hx;have hst:(eL (qc P w C) P w K mg base N qual scope f cd A outer s H E).stack=RB qual scope ↑s f cd::outer:=rfl;have sfr:=I.stkFree;have sfun:=I.stack;rw[hst]at sfr sfun;have hf:=(oD I).1;have hid:∀b o,s1.heap.get? b=some o->b∉jo (RB qual scope ↑s f cd::outer)->(UP s1.heap (jo (RB qual scope ↑s f cd::outer))).get? b=some o:=λb o e hn=>PySem.W.hideAll_get _ e hn;have hx0:HF P w (jo (RB qual scope ↑s f cd::outer)) H1 H1 s1.heap (UP s1.heap (jo (RB qual scope ↑s f cd::outer))):=⟨λb o e _ hb=>hid b o e hb,λb o e hb=>⟨o,hid b o e hb⟩,λ_ _ _ n=>n,λ_ _ q=>q,λ_ _ _ q=>q,λb ps q=>⟨#[],by rw[q];simp⟩,λb u e=>(I.hok b u e).stay (λc v hc q=>hid c v q λz=>by
  have zn:=sfr c z;rcases hc with rfl|hc;·rw[e]at zn;cases zn
  ·rw[hc]at zn;cases zn) (λ_ q=>q) (λ_ _ q=>q)⟩;have kb:s1.heap.FunFrames (UP s1.heap (jo (RB qual scope ↑s f cd::outer))) (RB qual scope ↑s f cd::outer):=tZ (λb hb=>PySem.W.hideAll_none _ hb) sfun;refine wpAny_leaves_madeW (base:=UP s1.heap (jo (RB qual scope ↑s f cd::outer))) (h:=s1.heap) (I.ok.frames.trans (by rw[hst])) hf (λb o e=>PySem.W.of_hideAll _ e) kb hx λh2 t fl _ _ up=>?_;refine⟨a,.ref t,_,H1,rfl,I.os,I.bare,fl,?_,?_,xl I hx.new,hkp,hx0.up I⟩;·refine ly (b0:=UP s1.heap (jo (RB qual scope ↑s f cd::outer))) (h1:=h') (λb hb o e=>?_) (kb.of_keeps λb o hb _=>⟨o,hx.keeps b o hb,rfl⟩).2.2 up;obtain⟨sl,q⟩:=um I b hb o e;exact⟨sl,hx.keeps b _ q⟩
 ·cases q:H1 a with|none=>rfl|some u=>obtain⟨o,e⟩:=(I.hok a u q).some;have:=hx.new;rw[e]at this;cases this
theorem Gx{x:QP}{s2:QS}(I:av (eL (qc P w C) P w K mg base N qual scope f cd A outer s H E) pins σ H1 s1)(kp:Kp H H1)(h:qc P w C (RB qual scope ↑s f cd::outer) H1 s1 E0 x s2):(eL (qc P w C) P w K mg base N qual scope f cd A outer s H E).xe x s2:=by obtain⟨a,t,b0,H',rfl,os,bare,fl,sl,hn,na,kp2,ex⟩:=h;have hst:(eL (qc P w C) P w K mg base N qual scope f cd A outer s H E).stack=RB qual scope ↑s f cd::outer:=rfl;refine wpAny_leaves_onW (I.ok.frames.trans (by rw[hst])) (oD I).1 fl λh2 fl2 up=>?_;refine⟨a,t,b0,H',rfl,os.trans I.os,bare,fl2,?_,hn,xl I na,λc o q=>kp2 c o (kp c o q),ex.up I⟩;refine ly (h1:=s2.heap) (b0:=b0) (λb hb o e=>?_) fl.2.2.1.2.2 up;obtain⟨s3,q3⟩:=um I b hb o e;obtain⟨s4,q4⟩:=sl b (Hj hb) _ q3;exact⟨s4,q4⟩
end
theorem HH.okX{P:QZ}{w:QW}{K:QU}{mg:Str->Option QP}{base:Re}{CX:sO}{x qual:Str}{st:Rh}{f:QQ}{fd:RJ}{N ps:List Str}{k:Nat}{sp:Sp}(F:HH K x qual st f fd)(S:aC N ps (am st))(len:∀vs H Q E,sp vs H Q E->vs.length=ps.length)(hb:∀(cdv:QP) (A:Rf) (outer:List Env) (s:QS) (H:Hp) (vs:List V) (Q:VK) (E:XK),bE k (A.deeper (RB qual (am st) ↑s f cdv))->sp vs H Q E->∃t,kc (eL CX P w K mg base N qual (am st) f cdv A outer s H E) (cn st) t/\t {nx:=λ_ H'=>Q .non H',rt:=Q} (eA N vs) H):bg P w K mg base CX (k+1) f fd ps sp:=by obtain⟨oc,od,kV,doc,pm,an,cdv,ct,osl,e1,lk,hcd⟩:=F.ex;rw[e1]at lk⊢;exact HU lk hcd S len λA outer s H vs Q E hr hsp=>hb cdv A outer s H vs Q E hr hsp
def oz(e:En):Bool:=e.all λs=>match s with|none=>true|some (.d _)=>true|_=>false
theorem lM{e:En}(h:oz e=true){σ:L2.St}{H:Hp}{a:QQ}(o:bq σ e H a):False:=by
 obtain⟨i,⟨xs,q,_⟩|⟨xss,_,_,q,_⟩⟩:=o;·have:=RV.mp h _ (QO q);cases this
 ·have:=RV.mp h _ (QO q);cases this
def fR(H0:Hp)(K:QU)(g:En->Prop):TS:=λ_ σ H=>∃F e,aR K F H σ e/\oz e=true/\Kp H0 H/\g e
section
variable{X:Cx}{K:QU}{st r:Rh}{dg:List Rh}{c:QT}{pos:Pos}{f1:FS}{ft:FT}{W1:List Nat}{g:En->Prop}
theorem PA.nox{es:List QT}{t:TA}(h:PA X.nox es t):PA X es t:=λpp pins s σ H Q I hw=>Rx (h pp pins s σ H Q (I.wish _) hw) (λ_ _⟨vs,H',I',r,q⟩=>⟨vs,H',I'.unwish,r,q⟩) λ_ _ z=>Sj z
theorem L_(hc:PT X c (fT K ft))(hr:PS X r (fR X.H₀ K g)):kc X (.If c [r] [] pos::dg) (fR X.H₀ K λe=>∃e',ft e=some (true,e')/\oz e'=true/\g e'):=by
 intro pins s σ H D I⟨F,e,R,no,kp,e',he,no',hg⟩;have hi:=zP (pos:=pos) hc (j2 hr) (pX (X:=X));refine Vl (bu (hi pins s σ H {nx:=λ_ _=>False,rt:=λ_ _=>False} I ⟨F,e,true,e',R,he,λF' H' x R'=>?_⟩) λf s1 q=>?_);·exact AU ⟨F',e',R',no',λa o h=>x.tmp a o (kp a o h) (lM no),hg⟩
 ·cases f with|next=>obtain⟨_,_,_,z⟩:=q;exact z.elim|brk=>obtain⟨_,_,_,z⟩:=q;exact z.elim|cont=>obtain⟨_,_,_,z⟩:=q;exact z.elim|ret u=>obtain⟨_,_,_,_,_,z⟩:=q;exact z.elim
theorem Kj(hr:PS X r (fR X.H₀ K g)):kc X (r::dg) (fR X.H₀ K g):=by intro pins s σ H D I h;refine Vl (bu (hr pins s σ H {nx:=λ_ _=>False,rt:=λ_ _=>False} I h) λf s1 q=>?_);cases f with|next=>obtain⟨_,_,_,z⟩:=q;exact z.elim|brk=>obtain⟨_,_,_,z⟩:=q;exact z.elim|cont=>obtain⟨_,_,_,z⟩:=q;exact z.elim|ret u=>obtain⟨_,_,_,_,_,z⟩:=q;exact z.elim
end
def Fc(K:QU)(n k0:Nat)(g:En->Prop):Sp:=λvs H _ _=>vs.length=n/\∃(F:Hp) (as:List Sv),aR K F H (vs.map some) (as.map some)/\oz (as.map some)=true/\g (as.map some++Rk k0 none)
theorem C_{e:En}{k:Nat}(h:oz e=true):oz (e++Rk k none)=true:=by unfold oz at h⊢;rw[List.all_append,h,Bool.true_and,RV];intro s hs;rw[(List.mem_replicate.mp hs).2]
theorem fW.fnR{P:QZ}{w:QW}{K:QU}{mg:Str->Option QP}{base:Re}{x:Str}{st:Rh}{f C:QQ}{fd:RJ}{N ps:List Str}{k n k0:Nat}{g:En->Prop}(h:fW K mg x st f fd ps)(S:aC N ps (am st))(hn:ps.length=n)(hN:N.length=n+k0)(hb:∀(cdv:QP) (A:Rf) (outer:List Env) (s:QS) (H:Hp) (E:XK),bE k (A.deeper (RB x (am st) ↑s f cdv))->kc (eL (qc P w C) P w K mg base N x (am st) f cdv A outer s H E) (cn st) (fR H K g)):bg P w K mg base (qc P w C) (k+1) f fd ps (Fc K n k0 g):=by
 refine h.F.okX S (λvs H Q E q=>by rw[hn];exact q.1) λcdv A outer s H vs Q E hr hsp=>⟨_,hb cdv A outer s H E hr,?_⟩;obtain⟨hl,F,as,R,no,hg⟩:=hsp;have hst:eA N vs=vs.map some++Rk k0 none:=by unfold eA;rw[hN,hl];congr 2;lia
 rw[hst];exact⟨F,_,R.pad,C_ no,λ_ _ z=>z,hg⟩
open PySem PySem.Spec PyProof.Rows PySem.W
section
variable{prog:QZ}{w:QW}{A:Rf}{E:QP->QS->Prop}{h:Re}{g:Array GenState}{d:Drawn}{t:Nat}{os:OsState}{a D:QQ}{o:Obj}{K:Frag}
structure sP (K:Frag) (D:QQ):Prop where
 ga:findIn K (.ref D) "__getattribute__"=some (some (.builtin "BaseException.__getattribute__"))gt:findIn K (.ref D) "__getattr__"=some none
 cl:findIn K (.ref D) "__class__"=some (some (.builtin "object.__class__"))mo:mroIn K D (.type "object")=some true
 mb:mroIn K D (.type "BaseException")=some true
 cs:(clsIn K D).isSome=true
theorem qN(hx:h.get? a=some o)(hc:o.cls=.ref D)(M:Model):Looks M h (typeOf (.ref a)) (.ref D):=hc▸(Looks.ld hx).andThen .now
theorem AI{tk:Tok}{Q:Fin->QS->Prop}(X:K.In h)(Z:sP K D)(hx:h.get? a=some o)(hc:o.cls=.ref D)(hq:Q (.done (.ret (.ref D))) ⟨h,g,d,t,os⟩):QX (QY prog w) A (Tg.«object.__getattribute__» ⟨[.ref a,.str "__class__" tk],[]⟩) Q E ⟨h,g,d,t,os⟩:=by
 have T:=qN hx hc (QY prog w);have L1:=looks_findIn (M:=QY prog w) X Z.cl;have hT5:(⟨h,g,d,t,os⟩:QS).TypeIs (.builtin "object.__class__") "getset_descriptor":=F.typeOf_object_class;have f5:=F.typeOf_object_class;have f6:=F.slot_gs_get.lookup;have f7:=F.slot_gs_set.lookup;repeat (any_goals (first|assumption|(with_reducible refine VE hx ?_;rw[hc])|with_reducible refine L1.at ?_|wp_step))
 have L2:=looks_mroIn (M:=QY prog w) X Z.mo;refine codeAny_call_builtin F.slot_gs_get.plain F.entry_gs_get (F.slot_gs_get.check _ _ _ _ _ _ _ _ hT5 (F.args_gs_get _ _ _) ?_);unfold Tg.«getset_descriptor.__get__»Builtin.Getset_descriptor.descrGet;rw[dga_obj];refine QV (Rl ?_);unfold Builtin.Getset_descriptor.descrGetter Builtin.Getset_descriptor.descrCheckInstance Builtin.Getset_descriptor.descrNameAndClass isInstance;simp only[KF.owner_class];repeat (any_goals (first|assumption|(with_reducible refine VE hx ?_;rw[hc])|with_reducible refine L2.at ?_|wp_step))
 refine⟨Code.quiet_builtin _ ↥2,codeAny_builtin KF.entry_class ?_⟩;unfold Tg.«object.__class__»shownTypeOf;repeat (any_goals (first|assumption|(with_reducible refine VE hx ?_;rw[hc])|wp_step))
theorem AH{nv:QP}{Q:Unit->QS->Prop}(X:K.In h)(Z:sP K D)(hx:h.get? a=some o)(hc:o.cls=.ref D)(hq:Q () ⟨h,g,d,t,os⟩):QX (QY prog w) A (checkBuiltinCall "BaseException.__getattribute__" ⟨[.ref a,nv],[]⟩) Q E ⟨h,g,d,t,os⟩:=by
 have L3:=looks_mroIn (M:=QY prog w) X Z.mb;have hk:builtinKind "BaseException.__getattribute__"=some .slot:=by decide+kernel
 have hs:splitId "BaseException.__getattribute__"=some ("BaseException","__getattribute__"):=by decide+kernel
 have ha:=F.args_bexc_ga (.ref a) nv;simp only[checkBuiltinCall,hk,hs];refine QV ?_;unfold isInstance;repeat (first|(with_reducible refine VE hx ?_;rw[hc])|with_reducible refine L3.at ?_|wp_step)
 exact hq
theorem IS{tk:Tok}{Q:QP->QS->Prop}(X:K.In h)(Z:sP K D)(hx:h.get? a=some o)(hc:o.cls=.ref D)(hq:Q (.ref D) ⟨h,g,d,t,os⟩):QX (QY prog w) A (getAttrBy (.ref a) (.str "__class__" tk) false) Q E ⟨h,g,d,t,os⟩:=by
 have L1:=looks_findIn (M:=QY prog w) X Z.ga;have L2:=looks_findIn (M:=QY prog w) X Z.gt;have L3:=looks_mroIn (M:=QY prog w) X Z.mb;have f3:=F.excAttr_ValueError.ga.bind (.ref a);have hx2:(Wn "BaseException.__getattribute__"==Wn "object.__getattribute__")=false:=by decide+kernel
 have hx1:(onTheHeap (Value.ref D)&&Wn "BaseException.__getattribute__"==Wn "object.__getattribute__")=false:=by rw[hx2,Bool.and_false]
 repeat (any_goals (first|assumption|(with_reducible refine VE hx ?_;rw[hc])|with_reducible refine L1.at ?_|with_reducible refine L2.at ?_|wp_step))
 exact codeAny_call_builtin F.attr_ValueError.ga.plain F.entry_bexc_ga (AH X Z hx hc (AI X Z hx hc (handed_on rfl hq)))
theorem wX(Z:sP K D):KitX K (.ref a) (.ref D) (λh=>∃o,h.get? a=some o/\o.cls=.ref D) where
 ty:=λM h _⟨o,h1,h2⟩=>qN h1 h2 M;it:=λM h X _=>by
  obtain⟨cd,hc⟩:=Ww.mp Z.cs;unfold clsIn at hc;split at hc;case h_2=>cases hc
  case h_1 ho=>intro A' Q' E' s' k q;unfold isType loadHead;exact QV (wpAny_loadPart (k _ _ (X _ _ ho)) (Rl q))
 ne:=λh tp dd its n sl X htp=>by
  obtain⟨cd,hc⟩:=Ww.mp Z.cs;refine Bool.eq_false_iff.mpr λq=>?_;have e:D=tp:=Value.ref.inj (beq_iff_eq.mp q);subst e;unfold clsIn at hc;split at hc;case h_2=>cases hc
  case h_1 ho=>cases (X _ _ ho).symm.trans htp
 ca:=fun{_ _ _ _ _ s}X⟨o,h1,h2⟩k=>by obtain⟨hh,g,d,t,os⟩:=s;unfold getAttr? getAttrBy?;exact QV (wpAny_mkText (QV (wpAny_attempt (IS X Z h1 h2 (Rl k)))))
end
def Nb(C a:QQ)(h:Re):Prop:=∃o,h.get? a=some o/\o.cls=.ref C
def BP(C a:QQ):HO:=.ext (Nb C a)
section
variable{X:Cx}{pins:List (QQ×Obj)}{σ:L2.St}{H H':Hp}{s:QS}{n:Str}{j:Nat}
theorem FN{M:Model}{A:Rf}{E:QP->QS->Prop}{pos:Pos}{Q:Unit->QS->Prop}(I:av X pins σ H s)(hN:X.N.Nodup)(hj:X.N[j]?=some n)(lj:X.env.scope.names.lookup n=some .local)(h:∀s',av X pins (σ.set j none) H s'->Q () s'):QX M A (do bindName X.env n .none;unbindBehindTheSuite X.env n pos) Q E s:=by
 obtain⟨m,hn,hl⟩:=id I.loc;have hp:(X.env.scope.kind==.class||(X.env.scope.kind==.module&&X.env.locals !=X.env.globals))=false:=by rw[I.ok.kind];rfl
 refine wpAny_nameGoes_keeps lj hn hp λh' v hn' hs=>h _ ?_;obtain⟨oL,_,_,hoL,_⟩:=id hn;have old:∀b o,X.s₀.heap.get? b=some o->h'.get? b=s.heap.get? b:=λb o e=>hs.2 b (Sd (Sb (Rp e) I.ok.above));refine⟨I.ok,I.os,I.bare,⟨λb o e k hb hx=>(old b o e).trans (I.base.keep b o e k hb hx),λb o e k hb hx=>?_,I.base.free,λb o e hx=>?_,I.base.tups,I.base.frzs,I.base.tbls⟩,⟨_,hn',λi y w e1 e2 e3=>?_⟩,λy c e=>?_,I.free,I.freeC,λp hp'=>?_,λb ob e=>?_,by rw[Sy];exact I.len⟩;·obtain⟨sl,q⟩:=I.base.slot b o e k hb hx;exact⟨sl,(old b o e).trans q⟩
 ·obtain⟨o',q⟩:=I.base.there b o e hx;exact⟨o',(old b o e).trans q⟩
 ·have ij:i≠j:=λz=>by
   subst z;by_cases z2:i<σ.length;·rw[RU z2]at e2;cases e2
   ·rw[Vi (by rw[Sy];lia)]at e2;cases e2
  rw[Ru (Rz ij)]at e2;obtain⟨u,r,q⟩:=hl i y w e1 e2 e3;refine⟨u,r,?_⟩;have yn:y≠n:=λz=>ij (rG hN e1 (z▸hj));rcases q with⟨k,q⟩|⟨k,c,q,z⟩;·exact .inl ⟨k,(if_neg yn).trans q⟩
  ·exact .inr ⟨k,c,q,z.sameBut hs (I.cne y c q)⟩
 ·obtain⟨w,z⟩:=I.cell y c e;exact⟨w,z.sameBut hs (I.cne y c e)⟩
 ·obtain⟨e,k,ne,nf,d⟩:=I.pin p hp';exact⟨(hs.2 p.1 ne).trans e,k,ne,nf,d⟩
 ·refine(I.hok b ob e).stay (λc w hc q=>(hs.2 c ?_).trans q) (λ_ q=>q) λ_ _ q=>q;rintro rfl;have fr:=I.free;rcases hc with rfl|hc;·rw[fr]at e;cases e
  ·rw[fr]at hc;cases hc
abbrev Cx.inX(X:Cx)(a:QQ):Cx:={X with A:=X.A.mark (some (.ref a)),calm:=false,xe:=λ_ _=>False}
theorem av.inX(I:av X pins σ H s)(a:QQ):av (X.inX a) pins σ H s:=⟨⟨I.ok.mod,I.ok.kind,I.ok.glob,I.ok.blt,I.ok.above,I.ok.inj,I.ok.has,I.ok.cab,λz=>(by cases z),I.ok.frames,I.ok.stk,I.ok.exf,I.ok.bs,I.ok.bsz,I.ok.noex,I.ok.exfs,I.ok.funs,I.ok.frf⟩,I.os,I.bare,I.base,I.loc,I.cell,I.free,I.freeC,I.pin,I.hok,I.len⟩
theorem av.outX{a:QQ}(I:av (X.inX a) pins σ H s)(hd:X.calm=true->X.A.handled=none):av X pins σ H s:=⟨⟨I.ok.mod,I.ok.kind,I.ok.glob,I.ok.blt,I.ok.above,I.ok.inj,I.ok.has,I.ok.cab,hd,I.ok.frames,I.ok.stk,I.ok.exf,I.ok.bs,I.ok.bsz,I.ok.noex,I.ok.exfs,I.ok.funs,I.ok.frf⟩,I.os,I.bare,I.base,I.loc,I.cell,I.free,I.freeC,I.pin,I.hok,I.len⟩
theorem av.raised{C a:QQ}{t:QP}{b0 h2:Re}{g':Array GenState}{d':Drawn}{t':Nat}(I:av X pins σ H s)(hf:Heap.FlyingW b0 X.stack a (.ref C) t h2)(sl:Ao X.stack s.heap h2)(hn:H' a=none)(na:s.heap.get? a=none)(bare:Tp g')(un:HF X.prog X.w (jo X.stack) H H' s.heap b0):av X pins σ (upd H' a (BP C a)) {s with heap:=h2,gens:=g',drawn:=d',toks:=t'}:=by
 obtain⟨u,ok⟩:=un.un hf.1 sl;obtain⟨oe,vs,he,hc,hd,_⟩:=hf.first;have nb:∀b o,H' b=some o->b≠a:=λb o q z=>by subst z;rw[hn]at q;cases q
 refine I.call (ch:=[]) ⟨u.keep,u.slot,λb o e k hx=>?_,u.there,λb xs q=>?_,λb o v q=>?_,λb ps q=>?_⟩ (λb o e=>?_) bare (λb z=>by cases z);·rw[aq λz=>by subst z;rw[na]at e;cases e];exact u.free b o e k hx
 ·have:=u.tups b xs q;rw[aq (nb b _ this)];exact this
 ·have:=u.frzs b o v q;rw[aq (nb b _ this)];exact this
 ·obtain⟨mo,q⟩:=u.tbls b ps q;exact⟨mo,by rw[aq (nb b _ q)];exact q⟩
 ·by_cases z:b=a;·subst z;rw[ao]at e;cases e;exact⟨⟨oe,he,hc⟩,⟨oe,he⟩,λh1 h3⟨o,q1,q2⟩k=>⟨o,k o q1,q2⟩⟩
  ·rw[aq z]at e;exact(ok b o e).stay (λ_ _ _ q=>q) (λc q=>by rw[aq (nb c _ q)];exact q) λc xs q=>by rw[aq (nb c _ q)];exact q
end
section
variable{X:Cx}{C Cb f:QQ}{fd:RJ}{ps:List Str}{k n k0 i j:Nat}{g:En->Prop}{fn B kx nx:Str}{p pos ep bp kp np ap hp tp:Pos}{e:QT}{es:List QT}{t:TA}
theorem DC(hcalm:X.calm=true)(hst:X.stack=X.env::X.outer)(F:bg X.prog X.w X.K X.mg X.base (qc X.prog X.w C) k f fd ps (Fc X.K n k0 g))(hr:bE k X.A)(hg:Gl X fn)(hm:X.mg fn=some (.ref f))(hk:UW X.K (.ref f)=true)(hb:qa X.K fd ps [])(ha:PA X.nox (e::es) t)(hB:Gl X B)(hmB:X.mg B=some (.ref Cb))(hex:PySem.W.exmOne X.K (.ref C) (.ref Cb)=some true)(nd:X.N.Nodup)(hi:X.N[i]?=some kx)(hj:X.N[j]?=some nx)(li:X.env.scope.names.lookup kx=some .local)(lj:X.env.scope.names.lookup nx=some .local)(ij:i≠j)(hs:SV (.Call (.Name fn p) (e::es) [] pos) none ep.line X.env=pure false:=by rfl)(hs2:SV (.Name nx np) (some (.Name kx kp)) ap.line X.env=pure false:=by rfl)(hdb:(fn==("__debug__":Str))=false:=by decide)(hdB:(B==("__debug__":Str))=false:=by decide)(hdn:(nx==("__debug__":Str))=false:=by decide)(hdc:(nx==("__classdict__":Str))=false:=by decide)(he:Rg (e::es) X.env=(false,Rj e X.env)::Rg es X.env:=by rfl)(hpl:(RF pos (Rg es X.env)).any (·.1)=false:=by rfl):PS X (.Try [.Expr (.Call (.Name fn p) (e::es) [] pos) ep] [.ExceptHandler (some (.Name B bp)) (some nx) [.Assign [.Name kx kp] (.Name nx np) ap] hp] [] [] tp) (λD σ H=>t σ H λvs H1=>Fc X.K n k0 g vs H1 (λ_ _=>False) E0/\∀a H',Kp H1 H'->H' a=none->D.nx (((σ.set j (some (.ref a))).set i (some (.ref a))).set j none) (upd H' a (BP C a))):=by
 intro pins s σ H D I h;refine wpAny_Try_except (Vl (wpAny_Expr_any ?_ I.quiet hs));refine UX (lJ I hg hm ?_ hdb);refine Wv (h₀:=X.base) I.ok.mod.kin hk (Rx (ha pos pins s σ H _ (I.wish _) h) (λus s1⟨vs,H1,I1,r,q,qD⟩=>⟨I1.kIn,?_⟩) λ_ _ z=>z.elim) he hpl;have I1:av X pins σ H1 s1:=I1.unwish;have hl:us.length=ps.length:=by rw[<-r.length];exact F.len _ _ _ _ q
 refine wpAny_call (Vn (F.run X.A X.stack s1 H1 ⟨us,[]⟩ us vs (λ_ _=>False) E0 hr I1.env0 (by have:=hb s1 us I1.kIn (by rw[Sl];exact hl);rw[Sl]at this;exact this) r q) λr s' hq=>?_);cases r with
 |ok fl=>cases fl with|ret u=>obtain⟨_,_,_,_,_,_,_,z⟩:=hq;exact z.elim|next=>exact Sj hq|brk=>exact Sj hq|cont=>exact Sj hq
 |error x=>
  obtain⟨a,ta,b0,H',rfl,os,bare,fl,sl,hn,na,kpp,un⟩:=hq;have hfr:X.A.frames=some (X.env::X.outer):=by rw[I.ok.frames,hst]
  have hf:X.env.frame=some X.env.locals:=by
   rcases I.ok.stk with z|z;·rw[hst]at z;exact absurd (congrArg List.length z) ↥1
   ·exact z.2
  have fl':=fl;rw[hst]at fl;refine wpAny_looks_onW hfr hf fl λh2 held up2=>?_;have sl2:=ly sl fl'.2.2.1 up2;refine wpAny_landsW (s:={s' with heap:=h2}) held λh3 fl3 up3=>?_;rw[<-hst]at fl3 held;have sl3:=ly sl2 held.2.2.1 up3;obtain⟨hh,g',d',t',o'⟩:=s';have eo:o'=s1.os:=os;subst eo;have I3:=I1.raised (h2:=h3) (g':=g') (d':=d') (t':=t') fl3 sl3 hn na bare un;obtain⟨oe,vs0,e3,c3,_,_⟩:=fl3.first;refine wpAny_handleBy_cons (codeAny_handlers_test (lJ (I3.inX a) hB hmB ?_ hdB)) (by intro z;cases z);refine(PySem.W.exm_one (M:=QY X.prog X.w) I3.kIn (qN e3 c3 _) hex).at ?_;show SW _ _ _ _ _;refine codeAny_handlers_suite_as ?_;refine lands_againW (s:={heap:=h3,gens:=g',drawn:=d',toks:=t',os:=s1.os}) fl3 λh4 fl4 up4=>?_;have sl4:=ly sl3 fl3.2.2.1 up4;have I4:=(I1.raised (h2:=h4) (g':=g') (d':=d') (t':=t') fl4 sl4 hn na bare un);refine lA I4 nd hj (.inl lj) (v:=.ref a) rfl (λs5 I5=>?_) (.inr lj);have hjl:j<σ.length:=by rw[I.len];exact(QK hj).1
  have as:=j2 (rP (X:=X.inX a) (pos:=ap) (pos':=kp) nd hi (.inl li) (eW (X:=X.inX a) (pos:=np) hj (.inl lj) hdn hdc) hs2 (.inr li));refine Rx (as pins s5 _ _ {nx:=λσ' H''=>σ'=(σ.set j (some (.ref a))).set i (some (.ref a))/\H''=upd H' a (BP C a),rt:=λ_ _=>False} (I5.inX a) ⟨.ref a,by rw[RU hjl],rfl,rfl⟩) (λfl s6 q6=>?_) λ_ _ z=>z.elim;cases fl with|next=>obtain⟨σ6,H6,I6,e6,e7⟩:=q6;subst e6 e7;exact FN (I6.outX I.ok.hd) nd hj lj λs7 I7=>⟨_,_,I7,qD a _ kpp hn⟩|brk=>obtain⟨_,_,_,z⟩:=q6;exact z.elim|cont=>obtain⟨_,_,_,z⟩:=q6;exact z.elim|ret u=>obtain⟨_,_,_,_,_,z⟩:=q6;exact z.elim
end
section
variable{X:Cx}{C:QQ}{i:Nat}{x c:Str}{p p1 p2 pos:Pos}{v:V}{u:QP}{b:Bool}
theorem Cg(Z:sP X.K C):du X (.builtin "isinstance") (λxs H Q=>∃a v u b,xs=[.ref a,v]/\H a=some (BP C a)/\(∀u',aS v u'->u'=u)/\TX X.K (.ref C) u=some b/\Q (.bl b) H):=by
 intro pins s σ H xs us Q I r h;obtain⟨a,v,u,b,rfl,ha,hu,hk,q⟩:=h;obtain⟨u1,u2,rfl,r1,r2⟩:∃u1 u2,us=[u1,u2]/\aS (.ref a) u1/\aS v u2:=by cases r with|cons p q=>cases q with|cons p' q'=>cases q';exact⟨_,_,rfl,p,p'⟩
 cases (show u1=Value.ref a from r1);cases hu u2 r2;obtain⟨o,h1,h2⟩:=(show bv X.prog X.w H s.heap a (BP C a) from I.hok a _ ha).1;exact Um (wX Z) I.kIn ⟨o,h1,h2⟩ hk (λz=>nomatch z) λtk=>⟨.bl b,H,I.tok _,rfl,q⟩
def Kw(i:Nat)(C:QQ)(b:Bool):TE:=λσ H Q=>∃a,σ[i]?=some (some (.ref a))/\H a=some (BP C a)/\Q (.bl b) H
theorem yL(Z:sP X.K C)(hg:Gl X "isinstance")(hm:X.mg "isinstance"=none)(hv:SC "isinstance"=some (.builtin "isinstance"))(hx:PE X (.Name x p1) (vY i))(hc:PE X (.Name c p2) (tC v))(hu:∀u',aS v u'->u'=u)(hk:TX X.K (.ref C) u=some b)(he:Rg [.Name x p1,.Name c p2] X.env=(false,Rj (.Name x p1) X.env)::Rg [.Name c p2] X.env:=by rfl)(he2:Rg [.Name c p2] X.env=(false,Rj (.Name c p2) X.env)::Rg [] X.env:=by rfl)(hpl:(RF pos (Rg [.Name c p2] X.env)).any (·.1)=false:=by rfl):PE X (.Call (.Name "isinstance" p) [.Name x p1,.Name c p2] [] pos) (Kw i C b):=(lb (Cg Z) hg hm hv (c_ hx (c_ hc io he2) he) ⋯ ⋯ he hpl).mono λσ H Q⟨a,h1,h2,q⟩=>⟨.ref a,h1,a,v,u,b,rfl,h2,hu,hk,q⟩
end
abbrev t3(C:QQ)(b1 b2 b3:Bool):TE:=Mo (nX (Kw 0 C b1) (nX (Kw 0 C b2) (nX (Kw 0 C b3) EL)))
theorem rq{H:Hp}{l:QQ}{o:HO}(h:H l=none):Kp H (upd H l o):=λa u e=>by rw[aq λz=>by subst z;rw[h]at e;cases e];exact e
open Classical in noncomputable def KW(n k0:Nat)(g:En->Prop):FM:=λas=>if as.length=n/\oz (as.map some)=true/\g (as.map some++Rk k0 none) then some (.d (.bool true),as) else none
theorem Jn{n k0:Nat}{g:En->Prop}{as:List Sv}(h1:as.length=n)(h2:oz (as.map some)=true)(h3:g (as.map some++Rk k0 none)):KW n k0 g as=some (.d (.bool true),as):=if_pos ⟨h1,h2,h3⟩
section
variable{K:QU}
theorem IR{n k0:Nat}{g:En->Prop}{vs:List V}{H H':Hp}{Q:VK}{E:XK}(h:iB K n (KW n k0 g) vs H Q E)(kp:Kp H H'):Q (.bl true) H':=by
 obtain⟨hl,F,as,r,as',R,nN,hm,nr,q⟩:=h;unfold KW at hm;split at hm;case isFalse=>cases hm
 case isTrue hc=>
 cases hm;have no:∀{a:QQ}{Z:Hp},¬bq (vs.map some) (as.map some) Z a:=λz=>lM hc.2.1 z;have nol:∀(i:Nat) (xs:List QR),(as.map some)[i]?≠some (some (.l xs)):=λi xs z=>by have:=RV.mp hc.2.1 _ (QO z);cases this
 have non:∀(i:Nat) (xs:List (List QR)),(as.map some)[i]?≠some (some (.n xs)):=λi xs z=>by have:=RV.mp hc.2.1 _ (QO z);cases this
 refine q F H' (.bl true) ⟨aw.refl _,λa z=>?_,λ_ _ z _ _=>z,λa vs z=>⟨vs,kp a _ z⟩,λa o z _=>kp a o z,λ_=>Iff.rfl,λa z=>(no z).elim,λ_ _ z _ _=>z⟩ ⟨λa o z=>kp a o (R.sm a o z),R.len,R.dat,λi xs z=>(nol i xs z).elim,λi xs z=>(non i xs z).elim,λi j a z=>(no ⟨i,z⟩).elim⟩ (show DA K F (.bool true) (.bl true) from dH.mpr rfl);cases e:H a with|none=>rfl|some o=>rw[kp a o e]at z;cases z
theorem EJ{n k0:Nat}{g:En->Prop}{vs:List V}{H:Hp}{Q Q':VK}{E E':XK}(h:iB K n (KW n k0 g) vs H Q E):Fc K n k0 g vs H Q' E':=by
 obtain⟨hl,F,as,r,as',R,nN,hm,nr,q⟩:=h;unfold KW at hm;split at hm;case isFalse=>cases hm
 case isTrue hc=>exact⟨hl,F,as,R,hc.2.1,hc.2.2⟩
end
theorem ce.len{K:QU}{σ:L2.St}{H0 F H:Hp}{e:En}:∀{rs:List Rv}{vs:List V},ce K σ H0 F H e rs vs->vs.length=rs.length|[],vs,h=>by rw[show vs=[]from h];rfl|r::rs,vs,h=>by obtain⟨v,ws,rfl,_,h2⟩:=h;rw[SA,SA,ce.len h2]
theorem zU{K:QU}{σ:L2.St}{H0 F H:Hp}{e:En}:∀{ds:List QR}{vs:List V},ce K σ H0 F H e (ds.map Rv.d) vs->∀(i:Nat) (x:QR),ds[i]?=some x->∃v,vs[i]?=some v/\DA K F x v|[],vs,_,i,x,h=>by simp at h|d::ds,vs,h,i,x,hi=>by obtain⟨v,ws,rfl,h1,h2⟩:=h;cases i with|zero=>simp at hi;subst hi;exact⟨v,rfl,h1⟩|succ i=>exact zU h2 i x (by simpa using hi)
theorem Ke{K:QU}{σ:L2.St}{H0 F H:Hp}{e:En}{ds:List QR}{vs:List V}(sm:aw F H)(h:ce K σ H0 F H e (ds.map Rv.d) vs):aR K F H (vs.map some) ((ds.map Sv.d).map some)/\oz ((ds.map Sv.d).map some)=true:=by
 have no:oz ((ds.map Sv.d).map some)=true:=by unfold oz;rw[RV];intro s hs;obtain⟨y,hy,rfl⟩:=QM hs;obtain⟨x,_,rfl⟩:=QM hy;rfl
 refine⟨⟨sm,by have:=h.len;simp at this⊢;exact this,λi x q=>?_,λi xs q=>(lM (σ:=(ds.map λ_=>some (V.ref 0))) (H:=H) (a:=0) no ?_).elim,λi xs q=>?_,λi j a z=>(lM no ⟨i,z⟩).elim⟩,no⟩;·rw[RK,RK]at q;obtain⟨y,hy,e1⟩:=QJ q;obtain⟨z,hz,e2⟩:=QJ hy;cases e2;cases e1;obtain⟨v,hv,hd⟩:=zU h i x hz;exact⟨v,by rw[RK,hv];rfl,hd⟩
 ·have:=RV.mp no _ (QO q);cases this
 ·have:=RV.mp no _ (QO q);cases this
section
variable{X:Cx}{K:QU}{C:QQ}{x:Str}{p pos rp:Pos}{e:QT}{fs:FA}
theorem Em(hcalm:X.calm=true)(hg:Gl X x)(hm:X.mg x=some (.ref C))(hC:Vj X.K C BK "ValueError.__new__"=true)(hx:uT X C)(ha:PA X.nox [e] (fA K fs))(hdb:(x==("__debug__":Str))=false:=by decide)(he:Rg [e] X.env=[(false,Rj e X.env)]:=by rfl):PS X (.Raise (some (.Call (.Name x p) [e] [] pos)) none rp) (fR X.H₀ K λe=>∃(rs:List Rv) (e':En),fs e=some (rs,e')/\rs.length=1):=PS.mono (DF hcalm hg hm hC hx (PA.nox ha) hdb he) λD σ H⟨F,e,R,no,kp,rs,e',he,hl⟩=>⟨F,e,rs,e',R,he,λF' H' vs x R' A=>⟨by rw[A.len,hl];decide,λa o h=>x.tmp a o (kp a o h) (lM no)⟩⟩
end
section
variable{P:QZ}{w:QW}{K:QU}{mg:Str->Option QP}{base:Re}{N ps:List Str}{qual fn:Str}{scope:Rt}{fa f:QQ}{cd:QP}{A:Rf}{outer:List Env}{s:QS}{H:Hp}{E:XK}{C:QQ}{st:Rh}{fd:RJ}{k n k0:Nat}{g:En->Prop}{p pos ep:Pos}{e:QT}{es:List QT}{fs:FA}
theorem G9(h:fW K mg fn st f fd ps)(F:bg P w K mg base (qc P w C) k f fd ps (Fc K n k0 g))(hr:bE k (eL (qc P w C) P w K mg base N qual scope fa cd A outer s H E).A)(hg:Gl (eL (qc P w C) P w K mg base N qual scope fa cd A outer s H E) fn)(ha:PA (eL (qc P w C) P w K mg base N qual scope fa cd A outer s H E).nox (e::es) (fA K fs))(hs:SV (.Call (.Name fn p) (e::es) [] pos) none ep.line (eL (qc P w C) P w K mg base N qual scope fa cd A outer s H E).env=pure false:=by rfl)(hdb:(fn==("__debug__":Str))=false:=by decide)(he:Rg (e::es) (eL (qc P w C) P w K mg base N qual scope fa cd A outer s H E).env=(false,Rj e (eL (qc P w C) P w K mg base N qual scope fa cd A outer s H E).env)::Rg es (eL (qc P w C) P w K mg base N qual scope fa cd A outer s H E).env:=by rfl)(hpl:(RF pos (Rg es (eL (qc P w C) P w K mg base N qual scope fa cd A outer s H E).env)).any (·.1)=false:=by rfl):PS (eL (qc P w C) P w K mg base N qual scope fa cd A outer s H E) (.Expr (.Call (.Name fn p) (e::es) [] pos) ep) (fR H K λe=>∃(ds:List QR) (e':En),fs e=some (ds.map Rv.d,e')/\ds.length=n/\g ((ds.map Sv.d).map some++Rk k0 none)):=by
 intro pins s0 σ H0 D I⟨F0,en,R,no,kp,ds,e',hfs,hl,hg'⟩;refine wpAny_Expr_any ?_ I.quiet hs;refine UX (lJ I hg h.m ?_ hdb);refine Wv (h₀:=base) I.ok.mod.kin h.F.kp (Rx (ha pos pins s0 σ H0 (λvs H1=>Fc K n k0 g vs H1 (λ_ _=>False) E0/\Kp H H1) (I.wish _) ⟨F0,en,_,e',R,hfs,λF' H' vs x R' A'=>?_⟩) (λus s1⟨vs,H1,I1,r,q,kq⟩=>⟨I1.kIn,?_⟩) λ_ _ z=>z.elim) he hpl;·obtain⟨rr,nn⟩:=Ke R'.sm A';exact⟨⟨by rw[A'.len,Rq];exact hl,F',ds.map Sv.d,rr,nn,hg'⟩,λa o z=>x.tmp a o (kp a o z) (lM no)⟩
 ·have I1:=I1.unwish;have hl':us.length=ps.length:=by rw[<-r.length];exact F.len _ _ _ _ q
  refine wpAny_call (Vn (F.run _ _ s1 H1 ⟨us,[]⟩ us vs (λ_ _=>False) E0 hr I1.env0 (by have:=h.b s1 us I1.kIn (by rw[Sl];exact hl');rw[Sl]at this;exact this) r q) λr s' hq=>?_);cases r with
  |ok fl=>cases fl with|ret u=>obtain⟨_,_,_,_,_,_,_,z⟩:=hq;exact z.elim|next=>exact Sj hq|brk=>exact Sj hq|cont=>exact Sj hq
  |error y=>exact Gx I1 kq hq
end
section
variable{X:Cx}{C:QQ}{i:Nat}{x:Str}{p p1 p2 pos:Pos}{vs:List V}{us:List QP}{b:Bool}{cs:List QT}{ctx:Nat}
theorem Cf(Z:sP X.K C):du X (.builtin "isinstance") (λxs H Q=>∃a tp vs us b,xs=[.ref a,.ref tp]/\H a=some (BP C a)/\H tp=some (.tup vs)/\(∀us',aN vs us'->us'=us)/\PySem.W.kitAny X.K (.ref C) us=some b/\Q (.bl b) H):=by
 intro pins s σ H xs ws Q I r h;obtain⟨a,tp,vs,us,b,rfl,ha,ht,hu,hk,q⟩:=h;obtain⟨u1,u2,rfl,r1,r2⟩:∃u1 u2,ws=[u1,u2]/\aS (.ref a) u1/\aS (.ref tp) u2:=by cases r with|cons p q=>cases q with|cons p' q'=>cases q';exact⟨_,_,rfl,p,p'⟩
 cases (show u1=Value.ref a from r1);cases (show u2=Value.ref tp from r2);obtain⟨o,h1,h2⟩:=(show bv X.prog X.w H s.heap a (BP C a) from I.hok a _ ha).1;obtain⟨_,its,hv,o',g1,g2,n,g3,g4⟩:=(show bv X.prog X.w H s.heap tp (.tup vs) from I.hok tp _ ht);have eu:=hu its hv;subst eu;obtain⟨oc,od,odt,osl⟩:=o';have g2:oc=.type "tuple":=g2;have g3:odt=.seq its.toArray n:=g3;subst g2 g3;exact PySem.W.kia_tup (wX Z) I.kIn ⟨o,h1,h2⟩ g1 hk (λz=>nomatch z) λtk=>⟨.bl b,H,I.tok _,rfl,q⟩
def Mn(i:Nat)(C:QQ)(vs:List V)(b:Bool):TE:=λσ H Q=>∃a,σ[i]?=some (some (.ref a))/\H a=some (BP C a)/\∀p,H p=none->Q (.bl b) (upd H p (.tup vs))
theorem JO(Z:sP X.K C)(hg:Gl X "isinstance")(hm:X.mg "isinstance"=none)(hv:SC "isinstance"=some (.builtin "isinstance"))(hx:PE X (.Name x p1) (vY i)){t:TA}(hc:PA X cs t)(ht:∀σ H Q,Q vs H->t σ H Q)(hl:vs.length<=Rm)(hu:∀us',aN vs us'->us'=us)(hk:PySem.W.kitAny X.K (.ref C) us=some b)(he:Rg [.Name x p1,.Tuple cs ctx p2] X.env=(false,Rj (.Name x p1) X.env)::Rg [.Tuple cs ctx p2] X.env:=by rfl)(he2:Rg [.Tuple cs ctx p2] X.env=(false,Rj (.Tuple cs ctx p2) X.env)::Rg [] X.env:=by rfl)(hpl:(RF pos (Rg [.Tuple cs ctx p2] X.env)).any (·.1)=false:=by rfl):PE X (.Call (.Name "isinstance" p) [.Name x p1,.Tuple cs ctx p2] [] pos) (Mn i C vs b):=(lb (Cf Z) hg hm hv (c_ hx (c_ (Ds hc) io he2) he) ⋯ ⋯ he hpl).mono λσ H Q⟨a,h1,h2,q⟩=>⟨.ref a,h1,ht _ _ _ ⟨hl,λz hz=>⟨a,z,vs,us,b,rfl,rq hz _ _ h2,ao,hu,hk,q z hz⟩⟩⟩
end
section
variable{K:QU}{σ:L2.St}{H:Hp}
end
section
variable{X:Cx}
end
def Nt(C:QQ):Sp:=λvs H Q _=>∃a,vs=[.ref a]/\H a=some (BP C a)/\∀H',Kp H H'->Q (.bl true) H'
theorem Bq{C a:QQ}{vs:List V}{D:pD}{H:Hp}(ha:H a=some (BP C a))(q:∀H',Kp H H'->D.rt (.bl true) H'):Ms (Mm (Nx (Kx (tB (Kw 0 C true))) (tB (Mn 0 C vs false))) (Hm (tC (.bl false))) Iu) (Hm (Ir (Kw 0 C true) (Kw 0 C true))) D [some (.ref a)] H:=by refine⟨a,rfl,ha,true,rfl,?_⟩;refine AS ⟨a,rfl,ha,λp hp=>⟨false,rfl,AS ?_⟩⟩;exact⟨a,rfl,rq hp _ _ ha,true,rfl,AU ⟨a,rfl,rq hp _ _ ha,q _ (rq hp)⟩⟩
theorem Br{C a:QQ}{i:Nat}{D:pD}{H:Hp}{σ:L2.St}(h0:σ[i]?=some (some (.ref a)))(ha:H a=some (BP C a))(q:∀H',Kp H H'->D.rt (.bl true) H'):Hm (Ac (Nt C) [] E0 (nX (vY i) EL)) D σ H:=⟨.ref a,h0,a,rfl,ha,q⟩
section
variable{prog:QZ}{w:QW}{A:Rf}{E:QP->QS->Prop}{s:QS}
end
section
variable{prog:QZ}{w:QW}{A:Rf}{E:QP->QS->Prop}{s:QS}
end
section
variable{prog:QZ}{w:QW}{A:Rf}{E:QP->QS->Prop}{s:QS}
end
section
variable{prog:QZ}{w:QW}{A:Rf}{E:QP->QS->Prop}{s:QS}{I a p:QQ}{es:Array (Int×QP)}{ep:Nat}{t:SetTable}{L:List QP}{i:Nat}
end
section
variable{prog:QZ}{w:QW}{A:Rf}{E:QP->QS->Prop}{s:QS}{a:QQ}{es:Array (Int×QP)}{ep:Nat}{t:SetTable}
end
section
variable{prog:QZ}{w:QW}{A:Rf}{E:QP->QS->Prop}{s:QS}
end
section
variable{prog:QZ}{w:QW}{A:Rf}{E:QP->QS->Prop}{s:QS}
end
section
variable{X:Cx}{K:QU}{a:QT}{fa:FE}{pos p pos2 p2:Pos}
end
section
variable{X:Cx}{K:QU}{a b1 b2 b3:QT}{fa:FE}{fs:FA}{pos p pos2 p2:Pos}
end
section
variable{prog:QZ}{w:QW}{A:Rf}{E:QP->QS->Prop}{s:QS}
end
section
variable{X:Cx}{K:QU}{b1 b2 b3:QT}{fs:FA}{pos p pos2 p2:Pos}
end
section
variable{X:Cx}{K:QU}{es:List QT}{k0:Nat}{tp:Pos}{a b:QT}{fs:FA}{p pos:Pos}
end
def wa:Bool->QU->Hp->QQ->List V->Prop|true=>i6|false=>dX
def Ln(b:Bool)(it l:QQ)(i:Nat)(h:Re):Prop:=match b with|true=>h.IsListIter it l i|false=>h.IsTupleIter it l i
def BO(b:Bool)(h:Re)(l:QQ)(xs:Array QP):Prop:=match b with|true=>h.IsList l xs|false=>h.IsTuple l xs
def oB(b:Bool)(l:QQ):Obj:={cls:=.type (match b with|true=>"list_iterator"|false=>"tuple_iterator"),data:=.fields #[.ref l,.int 0 0]}
theorem kD{prog:QZ}{w:QW}:∀(b:Bool) (it l:QQ),Sc prog w it l (Ln b it l) λh xs=>BO b h l xs|true,it,l=>G' it l|false,it,l=>Km it l
theorem zF{b:Bool}{it l:QQ}{h:Re}(e:h.get? it=some (oB b l)):Ln b it l 0 h:=match b,e with|true,e=>⟨_,e,rfl,rfl⟩|false,e=>⟨_,e,rfl,rfl⟩
theorem B1{b:Bool}{h:Re}{l:QQ}{xs:Array QP}(o:Obj)(t:BO b h l xs):BO b (h.push o) l xs:=match b,t with|true,t=>Heap.IsList.push t o|false,t=>Heap.IsTuple.push t o
theorem CQ{prog:QZ}{w:QW}{A:Rf}{E:QP->QS->Prop}{s:QS}{l:QQ}{xs:Array QP}{Q:QP->QS->Prop}{b:Bool}(t:BO b s.heap l xs)(h:Q (.ref ↑s) {s with heap:=s.heap.push (oB b l)}):QX (QY prog w) A (pyIter (.ref l)) Q E s:=match b,t,h with|true,t,h=>wpAny_pyIter_list t h|false,t,h=>Vm t h
section
variable{X:Cx}{pins:List (QQ×Obj)}{σ:L2.St}{H:Hp}{s:QS}
theorem wb(I:av X pins σ H s){c:Bool}{b l:QQ}{xs:List V}(f:iG X pins H b)(q:wa c X.K H l xs):l≠b:=match c,q with|true,q=>Au I f q|false,q=>BZ I f q
theorem vy(I:av X pins σ H s){c:Bool}{l:QQ}{xs:List V}(q:wa c X.K H l xs):∃its,aN xs its/\BO c s.heap l its.toArray:=match c,q with|true,q=>let⟨its,v,p,_⟩:=I.list q;⟨its,v,p.isList⟩|false,q=>let⟨its,v,p,_⟩:=I.tuple q;⟨its,v,p⟩
theorem IZ(I:av X pins σ H s){c:Bool}{l:QQ}{xs ys:List V}(p:wa c X.K H l xs)(q:wa c X.K H l ys):xs=ys:=match c,p,q with|true,p,q=>I.list_inj p q|false,p,q=>I.tuple_inj p q
end
def KZ(b1 b2:Bool)(K:QU)(l1 l2:QQ):It:=⟨λi H=>∃xs ys x y,wa b1 K H l1 xs/\wa b2 K H l2 ys/\xs[i]?=some x/\ys[i]?=some y,λi H v H'=>∃p x y,v=.ref p/\H p=none/\H'=upd H p (.tup [x,y])/\∀xs ys,wa b1 K H l1 xs->wa b2 K H l2 ys->xs[i]?=some x/\ys[i]?=some y,λi H=>∃xs ys,wa b1 K H l1 xs/\wa b2 K H l2 ys/\(xs.length<=i\/ys.length<=i)⟩
def EX(b1 b2:Bool)(z TI TO i1 i2 l1 l2:QQ)(i:Nat)(h:Re):Prop:=IsZip h z TI TO .none/\Sf h TI (.ref i1) (.ref i2)/\(∃a b,Sf h TO a b)/\Ln b1 i1 l1 i h/\Ln b2 i2 l2 i h
theorem BH{b1 b2:Bool}{P:QZ}{w:QW}{K:QU}{es:List QT}{k0:Nat}{pos:Pos}{z TI TO i1 i2:QQ}(l1 l2:QQ)(n1:TO≠z)(n2:i1≠z)(n3:i2≠z)(n4:TO≠i1)(n5:TO≠i2)(n6:i1≠i2)(n7:TI≠z)(n8:TI≠TO)(n9:TI≠i1)(n10:TI≠i2):Ar P w K (.Tuple es k0 pos) (KZ b1 b2 K l1 l2) [z,TI,TO,i1,i2] z (EX b1 b2 z TI TO i1 i2 l1 l2) where
 mem:=by simp
 obj:=λi h st b hb=>by
  obtain⟨hz,hI,⟨a,c,hO⟩,u1,u2⟩:=st;simp only[RC,RM,or_false]at hb;rcases hb with rfl|rfl|rfl|rfl|rfl;·exact⟨_,hz,λv z=>by cases z⟩
  ·exact⟨_,hI,λv z=>by cases z⟩
  ·exact⟨_,hO,λv z=>by cases z⟩
  ·exact(kD (prog:=P) (w:=w) b1 _ _).live u1
  ·exact(kD (prog:=P) (w:=w) b2 _ _).live u2
 keep:=λi h h' st k=>by obtain⟨hz,hI,⟨a,c,hO⟩,u1,u2⟩:=st;exact⟨k _ ↥1 _ hz,k _ ↥1 _ hI,⟨a,c,k _ ↥1 _ hO⟩,(kD (prog:=P) (w:=w) b1 _ _).stay u1 λo e=>k _ ↥1 o e,(kD (prog:=P) (w:=w) b2 _ _).stay u2 λo e=>k _ ↥1 o e⟩
 item:=by
  intro X hP hw hK hc i pins s σ H E I hf st hg;subst hP hw hK;obtain⟨xs,ys,x,y,q1,q2,hx,hy⟩:=hg;obtain⟨hz,hI,⟨a,b,hO⟩,u1,u2⟩:=id st;obtain⟨its1,rv1,p1⟩:=vy I q1;obtain⟨its2,rv2,p2⟩:=vy I q2;obtain⟨ux,hux,rux⟩:=rv1.get hx;obtain⟨uy,huy,ruy⟩:=rv2.get hy;have fz:=hf z ↥1;have fO:=hf TO ↥1;have f1:=hf i1 ↥1;have f2:=hf i2 ↥1;have D:tu z TI TO i1 i2 l1 l2:=⟨n1,n2,n3,n4,n5,n6,wb I fz q1,wb I fO q1,wb I f1 q1,wb I f2 q1,wb I fz q2,wb I fO q2,wb I f1 q2,wb I f2 q2⟩;refine EZ (xs:=its1.toArray) (ys:=its2.toArray) (kD b1 i1 l1) (kD b2 i2 l2) D hz hI hO u1 u2 p1 p2 (by simpa using hux) (by simpa using huy) λg gz gO g1 g2 gT gs gk=>?_;refine⟨_,rfl,wpAny_letOwnedTupleGo_zip gz λg' gz' ge=>?_⟩;have lt:∀b∈[z,TI,TO,i1,i2],b<↑s:=λb hb=>by
   simp only[RC,RM,or_false]at hb;rcases hb with rfl|rfl|rfl|rfl|rfl;·exact Rp hz
   ·exact Rp hI
   ·exact Rp hO
   ·obtain⟨o,e,_⟩:=(kD (prog:=X.prog) (w:=X.w) b1 _ _).live u1;exact Rp e
   ·obtain⟨o,e,_⟩:=(kD (prog:=X.prog) (w:=X.w) b2 _ _).live u2;exact Rp e
  have hT:H ↑s=none:=I.hok.fresh (Ro _);have vv:aN [x,y] [ux,uy]:=.cons rux (.cons ruy .nil);have I1:av X pins σ (upd H ↑s (.tup [x,y])) {s with heap:=s.heap.push {cls:=.type "tuple",data:=.seq #[ux,uy]},toks:=s.toks}:=I.laid (t':=s.toks) (λb u e=>RH _ e) (Ro _) ⟨(by show 2<=Rm;decide),[ux,uy],vv,qe.new _ _⟩;have hf1:∀b∈[z,TI,TO,i1,i2],iG X pins (upd H ↑s (.tup [x,y])) b:=λb hb=>by obtain⟨f0,fr⟩:=hf b hb;exact⟨by rw[aq (Sd (lt b hb))];exact f0,fr⟩
  have nzT:↑s≠z:=Nat.ne_of_gt (lt z ↥1);have I2:av X pins σ (upd H ↑s (.tup [x,y])) {s with heap:=g',toks:=s.toks}:=by
   refine I1.turnedL (t':=s.toks) hf1 λb o nb e=>?_;have nb':b≠z/\b≠TI/\b≠TO/\b≠i1/\b≠i2:=by simpa using nb
   refine ge.extBut _ _ nb'.1 ?_;rcases Heap.get?_push_cases e with⟨rfl,rfl⟩|e;·exact gT
   ·exact gk b o nb'.1 nb'.2.2.1 nb'.2.2.2.1 nb'.2.2.2.2 e
  refine⟨.ref ↑s,_,I2,rfl,⟨_,x,y,rfl,hT,rfl,λxs' ys' w1 w2=>?_⟩,⟨gz',ge.extBut _ _ n7 (gk _ _ n7 n8 n9 n10 hI),⟨ux,uy,ge.extBut _ _ n1 gO⟩,(kD (prog:=X.prog) (w:=X.w) b1 _ _).stay g1 λo e=>ge.extBut _ _ n2 e,(kD (prog:=X.prog) (w:=X.w) b2 _ _).stay g2 λo e=>ge.extBut _ _ n3 e⟩,λb hb=>(hf1 b hb).1⟩;rw[IZ I w1 q1,IZ I w2 q2];exact⟨hx,hy⟩
 done:=by
  intro X hP hw hK hc i pins s σ H E I hf st hg;subst hP hw hK;obtain⟨xs,ys,q1,q2,hn⟩:=hg;obtain⟨hz,hI,⟨a,b,hO⟩,u1,u2⟩:=id st;obtain⟨its1,rv1,p1⟩:=vy I q1;obtain⟨its2,rv2,p2⟩:=vy I q2;have fz:=hf z ↥1;have fO:=hf TO ↥1;have f1:=hf i1 ↥1;have f2:=hf i2 ↥1;have D:tu z TI TO i1 i2 l1 l2:=⟨n1,n2,n3,n4,n5,n6,wb I fz q1,wb I fO q1,wb I f1 q1,wb I f2 q1,wb I fz q2,wb I fO q2,wb I f1 q2,wb I f2 q2⟩;have e1:=rv1.length;have e2:=rv2.length;refine E1 (xs:=its1.toArray) (ys:=its2.toArray) (I.ok.hd hc) (kD b1 i1 l1) (kD b2 i2 l2) D hz hI hO u1 u2 p1 p2 ?_ λg gk=>⟨rfl,I.turnedL (t':=s.toks) hf λb o nb e=>?_⟩
  ·rcases hn with hn|hn;·exact .inl ↥7
   ·exact .inr ↥7
  ·have nb':b≠z/\b≠TI/\b≠TO/\b≠i1/\b≠i2:=by simpa using nb
   exact gk b o nb'.1 nb'.2.2.1 nb'.2.2.2.1 nb'.2.2.2.2 e
 self:=λA i s Q E st h=>wpAny_pyIter_zip st.1 h
theorem EY(b1 b2:Bool)(l1 l2:QQ)(xs ys:Array QP):Meets (Tg.«zip.__new__» ⟨[.type "zip",.ref l1,.ref l2],[]⟩) (λ_ R s=>BO b1 s.heap l1 xs/\BO b2 s.heap l2 ys/\R (.ok (.ret (.ref (↑s+4)))) {s with heap:=((((s.heap.push (oB b1 l1)).push (oB b2 l2)).push {cls:=.type "tuple",data:=.seq #[.ref ↑s,.ref (↑s+1)]}).push {cls:=.type "tuple",data:=.seq #[.none,.none]}).push {cls:=.type "zip",data:=.fields #[.none,.bool false,.bool false,.ref (↑s+2),.ref (↑s+3)]}}):=.of_wp λprog w A R s h=>by obtain⟨hp,g,d,tk,os⟩:=s;obtain⟨t1,t2,h⟩:=h;have sz:=PySem.sub_zip;have T1:BO b1 (Shared.heap ⟨hp,g,d,tk,os⟩) l1 xs:=t1;have T2:BO b2 (Shared.heap ⟨hp.push (oB b1 l1),g,d,tk,os⟩) l2 ys:=B1 _ t2;wp_walk using CQ T1,CQ T2;refine⟨_,rfl,?_⟩;simp only[SZ];exact h
section
variable{prog:QZ}{w:QW}{A:Rf}{E:QP->QS->Prop}{s:QS}
theorem BM{b1 b2:Bool}{l1 l2:QQ}{xs ys:Array QP}{Q:QP->QS->Prop}(t1:BO b1 s.heap l1 xs)(t2:BO b2 s.heap l2 ys)(h:∀g,EX b1 b2 (↑s+4) (↑s+2) (↑s+3) ↑s (↑s+1) l1 l2 0 g->(∀c o,s.heap.get? c=some o->g.get? c=some o)->Q (.ref (↑s+4)) {s with heap:=g}):QX (QY prog w) A (call (.type "zip") [.ref l1,.ref l2]) Q E s:=by
 refine callType_new F.called_zip ⋯ (F.typeCall_zip_2 _ _) (F.newCall_zip_2 _ _) (λobj=>F.args_object_init_3 obj _ _) F.entry_zip_new (EY b1 b2 l1 l2 xs ys) ⟨t1,t2,?_⟩;have at5:∀(g:Re) (o:Obj) (a:QQ),o.isFreed=false->a=g.objs.size->(g.push o).get? a=some o:=λg o a hf e=>by rw[e];exact Sn _ hf
 have g5:=at5 ((((s.heap.push (oB b1 l1)).push (oB b2 l2)).push {cls:=.type "tuple",data:=.seq #[.ref ↑s,.ref (↑s+1)]}).push {cls:=.type "tuple",data:=.seq #[.none,.none]}) {cls:=.type "zip",data:=.fields #[.none,.bool false,.bool false,.ref (↑s+2),.ref (↑s+3)]} (↑s+4) rfl (by simp only[SZ]);have g4:=at5 (((s.heap.push (oB b1 l1)).push (oB b2 l2)).push {cls:=.type "tuple",data:=.seq #[.ref ↑s,.ref (↑s+1)]}) {cls:=.type "tuple",data:=.seq #[.none,.none]} (↑s+3) rfl (by simp only[SZ]);have g3:=at5 ((s.heap.push (oB b1 l1)).push (oB b2 l2)) {cls:=.type "tuple",data:=.seq #[.ref ↑s,.ref (↑s+1)]} (↑s+2) rfl (by simp only[SZ]);have g2:=at5 (s.heap.push (oB b1 l1)) (oB b2 l2) (↑s+1) rfl (by simp only[SZ]);have g1:=at5 s.heap (oB b1 l1) ↑s rfl rfl;have up:∀{g:Re}{a:QQ}{u:Obj}(o:Obj),g.get? a=some u->(g.push o).get? a=some u:=λo e=>RH o e;refine⟨⟨_,g5,rfl⟩,h _ ⟨g5,up _ (up _ g3),⟨_,_,up _ g4⟩,zF (up _ (up _ (up _ (up _ g1)))),zF (up _ (up _ (up _ g2)))⟩ λc o x=>up _ (up _ (up _ (up _ (up _ x))))⟩
end
def Li(b1 b2:Bool)(K:QU)(ta:TA):TI:=λσ H R=>ta σ H λvs H1=>∃a b,vs=[.ref a,.ref b]/\(∃xs,wa b1 K H1 a xs)/\(∃ys,wa b2 K H1 b ys)/\R (KZ b1 b2 K a b) H1
theorem GH{b1 b2:Bool}{X:Cx}{K:QU}{es:List QT}{k0:Nat}{tp:Pos}{a b:QT}{ta:TA}{p pos:Pos}(hK:X.K=K)(hg:Gl X "zip")(hm:X.mg "zip"=none)(ha:PA X [a,b] ta)(hs:Rg [a,b] X.env=[(false,Rj a X.env),(false,Rj b X.env)]:=by rfl)(hs2:Rg [b] X.env=[(false,Rj b X.env)]:=by rfl):PI X (.Tuple es k0 tp) (.Call (.Name "zip" p) [a,b] [] pos) (Li b1 b2 K ta):=by intro pins s σ H R I h;subst hK;refine Call_ (kZ I hg hm B_ (UU (bu (ha pos pins s σ H _ I h) λus s1⟨vs,H1,I1,r1,q1⟩=>?_) (by rw[hs,hs2]) (by rw[hs2];rfl)));obtain⟨a,b,e,⟨xs,qx⟩,⟨ys,qy⟩,q⟩:=q1;subst e;cases r1 with|cons r rr=>cases rr with|cons r' rr=>
 cases rr;cases r;cases r';obtain⟨i1,v1,p1⟩:=vy I1 qx;obtain⟨i2,v2,p2⟩:=vy I1 qy;refine BM p1 p2 λg st hk=>wpAny_pyIter_zip st.1 ?_;have I2:av X pins σ H1 {s1 with heap:=g,toks:=s1.toks}:=I1.kept (t':=s1.toks) λb o e=>hk b o e;have nn:∀i j:Nat,i≠j->(↑s1+i:Nat)≠↑s1+j:=λi j h=>by lia
 refine⟨↑s1+4,[↑s1+4,↑s1+2,↑s1+3,↑s1,↑s1+1],_,_,H1,rfl,I2,BH a b (nn 3 4 ⋯) (nn 0 4 ⋯) (nn 1 4 ⋯) (nn 3 0 ⋯) (nn 3 1 ⋯) (nn 0 1 ⋯) (nn 2 4 ⋯) (nn 2 3 ⋯) (nn 2 0 ⋯) (nn 2 1 ⋯),st,λc hc=>?_,q⟩;have le:↑s1<=c:=by
  simp only[RC,RM,or_false]at hc;rcases hc with rfl|rfl|rfl|rfl|rfl;·exact VF _ 4
  ·exact VF _ 2
  ·exact VF _ 3
  ·exact Ro _
  ·exact VF _ 1
 have f:=I1.fpOk (H':=H1) le (I1.hok.fresh le);exact f
section
variable{X:Cx}{K:QU}{es:List QT}{k0:Nat}{tp:Pos}{a b:QT}{fs:FA}{p pos:Pos}
theorem EI{H:Hp}{l:QQ}{vs:List V}{b:Bool}(h:if b=true then i6 K H l vs else dX K H l vs):wa b K H l vs:=match b,h with|true,h=>h|false,h=>h
theorem D4(hK:X.K=K)(hg:Gl X "zip")(hm:X.mg "zip"=none)(ha:PA X [a,b] (fA K fs))(hs:Rg [a,b] X.env=[(false,Rj a X.env),(false,Rj b X.env)])(hs2:Rg [b] X.env=[(false,Rj b X.env)]):PI X (.Tuple es k0 tp) (.Call (.Name "zip" p) [a,b] [] pos) (fI K (zD fs)):=(GH (b1:=false) (b2:=false) (es:=es) (k0:=k0) (tp:=tp) hK hg hm ha hs hs2).mono λσ H R hh=>by obtain⟨F,e,items,own,e',R0,hf,q⟩:=hh;unfold zD at hf;obtain⟨⟨rs,e1⟩,h1,hf⟩:=QI hf;match rs,h1,hf with|[.d (.tuple xs),.d (.tuple ys)],h1,hf=>cases hf;refine⟨F,e,_,e1,R0,h1,λF1 H1 vs X1 R1 A1=>?_⟩;obtain⟨v,u,rfl,a1,a2⟩:=vP A1;obtain⟨p1,vs,rfl,s1,d1⟩:=bH.mp (show DA K F1 (.tuple xs) v from a1);obtain⟨p2,us,rfl,s2,d2⟩:=bH.mp (show DA K F1 (.tuple ys) u from a2);exact⟨p1,p2,rfl,⟨vs,R1.sm.tup s1⟩,⟨us,R1.sm.tup s2⟩,q _ F1 H1 X1 R1 (λz hz=>by cases hz) (CP (own1:=[]) (own2:=[]) (P:=dX K) (Q:=dX K) (.tup s1 d1) (.tup s2 d2) (λ_ _ h=>h) (λ_ _ h=>h) (λi H vs us x y h1 h2 h3 h4=>⟨vs,us,x,y,h1,h2,h3,h4⟩) (λi H vs us h1 h2 h3=>⟨vs,us,h1,h2,h3⟩) λi H v H' h=>h)⟩
end
section
variable{prog:QZ}{w:QW}{A:Rf}{E:QP->QS->Prop}{s:QS}{z TI TO i1 i2 i3 l1 l2 l3:QQ}{k:Nat}{xs ys zs:Array QP}{a b c:QP}
end
section
variable{K:QU}{σ:L2.St}{F H:Hp}
end
section
variable{X:Cx}{K:QU}{es:List QT}{k0:Nat}{tp:Pos}{a b c:QT}{fs:FA}{p pos:Pos}
end
section
variable{X:Cx}{K:QU}{es:List QT}{k0:Nat}{tp:Pos}{a b:QT}{fs:FA}{p pos:Pos}
end
def IE(bb:Bool)(K:QU)(l:QQ):It:=⟨λi H=>∃xs x,wa bb K H l xs/\xs[i]?=some x,λi H v H'=>∃p x,v=.ref p/\H p=none/\H'=upd H p (.tup [.int i,x])/\∀xs,wa bb K H l xs->xs[i]?=some x,λi H=>∃xs,wa bb K H l xs/\xs.length<=i⟩
def zx(bb:Bool)(e it l:QQ)(i:Nat)(h:Re):Prop:=(∃old,IsEnum h e it i old)/\Ln bb it l i h
theorem y4{bb:Bool}{P:QZ}{w:QW}{K:QU}{es:List QT}{k0:Nat}{pos:Pos}{e it:QQ}(l:QQ)(ne:e≠it):Ar P w K (.Tuple es k0 pos) (IE bb K l) [e,it] e (zx bb e it l) where
 mem:=by simp
 obj:=λi h st c hb=>by
  obtain⟨⟨old,he⟩,u⟩:=st;simp only[RC,RM,or_false]at hb;rcases hb with rfl|rfl;·exact⟨_,he,λv z=>by cases z⟩
  ·exact(kD (prog:=P) (w:=w) bb _ _).live u
 keep:=λi h h' st k=>by obtain⟨⟨old,he⟩,u⟩:=st;exact⟨⟨old,k _ ↥1 _ he⟩,(kD (prog:=P) (w:=w) bb _ _).stay u λo e=>k _ ↥1 o e⟩
 item:=by
  intro X hP hw hK hc i pins s σ H E I hf st hg;subst hP hw hK;obtain⟨xs,x,q1,hx⟩:=hg;obtain⟨⟨old,he⟩,u⟩:=id st;obtain⟨its,rv,p⟩:=vy I q1;obtain⟨ux,hux,rux⟩:=rv.get hx;have fe:=hf e ↥1;have ft:=hf it ↥1;have n1:l≠e:=wb I fe q1;have n2:l≠it:=wb I ft q1;have hi:i<its.toArray.size:=by have:=(QK hux).1;simpa using this
  refine wpAny_pyNext_enum_itemD (EA (A:=X.A.in1) (kD bb it l) (show X.A.in1.handled=none from I.ok.hd hc) n2 its.toArray) he ⟨u,p⟩ hi ne (by simpa using⟨ne,λz=>n1 z.symm⟩) λx' g tk hP ho hs hT hsz hk=>?_;have ex:x'=ux:=by
   have:its[i]?=some x':=by simpa using hP
   rw[hux]at this;exact(RG this).symm
  subst ex;refine⟨_,rfl,wpAny_letOwnedTupleGo_enum ho λg' he' ge=>?_⟩;have lt:∀b∈[e,it],b<↑s:=λb hb=>by
   simp only[RC,RM,or_false]at hb;rcases hb with rfl|rfl;·exact Rp he
   ·obtain⟨o,e,_⟩:=(kD (prog:=X.prog) (w:=X.w) bb _ _).live u;exact Rp e
  have hTn:H ↑s=none:=I.hok.fresh (Ro _);have vv:aN [.int i,x] [.int i tk,x']:=.cons ⟨tk,rfl⟩ (.cons rux .nil);have I1:av X pins σ (upd H ↑s (.tup [.int i,x])) {s with heap:=s.heap.push {cls:=.type "tuple",data:=.seq #[.int i tk,x']},toks:=s.toks}:=I.laid (t':=s.toks) (λb u e=>RH _ e) (Ro _) ⟨(by show 2<=Rm;decide),[.int i tk,x'],vv,qe.new _ _⟩;have hf1:∀b∈[e,it],iG X pins (upd H ↑s (.tup [.int i,x])) b:=λb hb=>by obtain⟨f0,fr⟩:=hf b hb;exact⟨by rw[aq (Sd (lt b hb))];exact f0,fr⟩
  have I2:av X pins σ (upd H ↑s (.tup [.int i,x])) {s with heap:=g',toks:=tk+1}:=by
   refine I1.turnedL (t':=tk+1) hf1 λb o nb eb=>?_;have nb':b≠e/\b≠it:=by simpa using nb
   refine ge.extBut _ _ nb'.1 ?_;rcases Heap.get?_push_cases eb with⟨rfl,rfl⟩|eb;·exact hT
   ·exact hk b o nb'.1 nb'.2 eb
  refine⟨.ref ↑s,_,I2,rfl,⟨_,x,rfl,hTn,rfl,λxs' w1=>by rw[IZ I w1 q1];exact hx⟩,⟨⟨_,by simpa using he'⟩,(kD (prog:=X.prog) (w:=X.w) bb _ _).stay hs.1 λo e=>ge.extBut _ _ (λz=>ne z.symm) e⟩,λb hb=>(hf1 b hb).1⟩
 done:=by
  intro X hP hw hK hc i pins s σ H E I hf st hg;subst hP hw hK;obtain⟨xs,q1,hn⟩:=hg;obtain⟨⟨old,he⟩,u⟩:=id st;obtain⟨its,rv,p⟩:=vy I q1;have e1:=rv.length;refine AG (xs:=its.toArray) (kD bb it l) (I.ok.hd hc) he u p ↥7 λg gk=>⟨rfl,I.turnedL (t':=s.toks) hf λb o nb eb=>?_⟩;have nb':b≠e/\b≠it:=by simpa using nb
  exact gk b o nb'.2 eb
 self:=λA i s Q E st h=>by obtain⟨⟨old,he⟩,u⟩:=st;exact tV he h
theorem ye{prog:QZ}{w:QW}{A:Rf}{E:QP->QS->Prop}{s:QS}{b:Bool}{l:QQ}{xs:Array QP}{Q:QP->QS->Prop}(t1:BO b s.heap l xs)(h:∀g,zx b (↑s+1) ↑s l 0 g->(∀c o,s.heap.get? c=some o->g.get? c=some o)->Q (.ref (↑s+1)) {s with heap:=g}):QX (QY prog w) A (call (.type "enumerate") [.ref l]) Q E s:=match b,t1,h with|true,t1,h=>call_enumerate_list t1 λg he hit hsz hk=>h g ⟨⟨_,he⟩,hit⟩ hk|false,t1,h=>yf t1 h
def M_(b:Bool)(K:QU)(ta:TA):TI:=λσ H R=>ta σ H λvs H1=>∃a,vs=[.ref a]/\(∃xs,wa b K H1 a xs)/\R (IE b K a) H1
section
variable{X:Cx}{K:QU}{es:List QT}{k0:Nat}{tp:Pos}{a:QT}{ta:TA}{p pos:Pos}
theorem Dv{b:Bool}(hK:X.K=K)(hg:Gl X "enumerate")(hm:X.mg "enumerate"=none)(ha:PA X [a] ta)(hs:Rg [a] X.env=[(false,Rj a X.env)]:=by rfl):PI X (.Tuple es k0 tp) (.Call (.Name "enumerate" p) [a] [] pos) (M_ b K ta):=by
 intro pins s σ H R I h;subst hK;refine Call_ (kZ I hg hm qr (UU (bu (ha pos pins s σ H _ I h) λus s1⟨vs,H1,I1,r1,q1⟩=>?_) hs rfl));obtain⟨a,e,⟨xs,qx⟩,q⟩:=q1;subst e;obtain⟨u,rfl,ru⟩:=vL r1;cases ru;obtain⟨i1,v1,p1⟩:=vy I1 qx;refine ye p1 λg st hk=>?_;obtain⟨⟨old,he⟩,hit⟩:=id st;refine tV he ?_;have I2:av X pins σ H1 {s1 with heap:=g,toks:=s1.toks}:=I1.kept (t':=s1.toks) λb o e=>hk b o e;refine⟨↑s1+1,[↑s1+1,↑s1],_,_,H1,rfl,I2,y4 a (show((↑s1+1:Nat)≠↑s1) by lia),st,λc hc=>?_,q⟩;have le:↑s1<=c:=by
  simp only[RC,RM,or_false]at hc;rcases hc with rfl|rfl;·exact VF _ 1
  ·exact Ro _
 exact I1.fpOk (H':=H1) le (I1.hok.fresh le)
end
section
variable{X:Cx}{K:QU}{es:List QT}{k0:Nat}{tp:Pos}{a:QT}{fs:FA}{p pos:Pos}
theorem yi{σ:L2.St}{b:Bool}{p:QQ}{xs:List QR}{own:gB}{F0:Hp}(h:BW K σ F0 p b xs own):Ap K σ (IE b K p) (kg 0 xs) own F0:=by intro F H s0 s1 hh;obtain⟨vs,d,q⟩:=h.at s0 s1 hh λ_ h=>h;have q:wa b K H p vs:=EI q;rw[tU];refine⟨λi hi=>⟨vs,vs[i]'(by rw[<-d.len];exact hi),q,RS _⟩,λi hi=>⟨vs,q,by rw[<-d.len];exact hi⟩,λi x v H' hx hy=>?_⟩;obtain⟨t,y,rfl,ht,rfl,hy⟩:=hy;rw[n_]at hx;obtain⟨x',hx2,rfl⟩:=QJ hx;obtain⟨w,g1,g2⟩:=d.get hx2;have e:=hy vs q;rw[g1]at e;cases e;exact xc s1 ht (bc.mpr ↥1) g2
theorem D3(hK:X.K=K)(hg:Gl X "enumerate")(hm:X.mg "enumerate"=none)(ha:PA X [a] (fA K fs))(hs:Rg [a] X.env=[(false,Rj a X.env)]):PI X (.Tuple es k0 tp) (.Call (.Name "enumerate" p) [a] [] pos) (fI K (zB fs)):=by intro pins s σ H R I hh;obtain⟨F,e,items,own,e',R0,hf,q⟩:=hh;unfold zB at hf;obtain⟨⟨rs,e1⟩,h1,hf⟩:=QI hf;match rs,h1,hf with|[r],h1,hf=>obtain⟨⟨b,xs,ow⟩,h2,hf⟩:=QJ hf;cases hf;refine Dv (b:=b) (es:=es) (k0:=k0) (tp:=tp) hK hg hm ha hs pins s σ H R I ⟨F,e,_,e1,R0,h1,λF1 H1 vs X1 R1 A1=>?_⟩;obtain⟨v,rfl,A2⟩:=nI A1;obtain⟨F2,p,R2,s2,f2,rfl,sc,kp⟩:=vV R1 A2 h2;obtain⟨vs,_,c⟩:=sc.at (aw.refl _) R2.sm (R2.held kp) λ_ h=>h;exact⟨p,rfl,⟨vs,EI c⟩,q _ F2 H1 (X1.frz s2 f2) R2 kp (yi sc)⟩
end
section
variable(P:QZ)(w:QW)
end
section
variable{P:QZ}{w:QW}{H H':Hp}{h h':Re}{a:QQ}{o:HO}
end
section
variable{P:QZ}{w:QW}{H:Hp}{h h':Re}{x e:QQ}{o':HO}
end
section
variable{fs fs' ex ex':List QQ}{H H1 H2:Hp}{h h1 h2 h':Re}{a x e:QQ}{o:HO}
end
section
variable{X:Cx}{pins:List (QQ×Obj)}{σ:List (Option V)}{H H':Hp}{s:QS}{h':Re}
end
section
variable{X:Cx}
variable{a b:QT}{ta tb:TE}{pos:Pos}
variable{tA tB':TT}{dg:List QT}
end
section
variable{X:Cx}{pins:List (QQ×Obj)}{σ:St}{H:Hp}{s:QS}{a:QQ}{xs ys:List V}
end
section
variable{X:Cx}{pins:List (QQ×Obj)}{σ:St}{H:Hp}{s:QS}{E:QP->QS->Prop}
end
section
variable{X:Cx}{st:Rh}{dg:List Rh}{t u:TS}{e:QT}{te:TE}{pos:Pos}
end
section
variable{X:Cx}{pos:Pos}
end
section
variable{X:Cx}{pos:Pos}
end
section
variable{X:Cx}{tg:QT}
end
section
variable{X:Cx}{a b c:QT}{ta tb tc:TE}{pos:Pos}
end
section
variable{X:Cx}{a b c:QT}{ta tb tc:TE}{pos:Pos}
end
section
variable{prog:QZ}{w:QW}{A:Rf}{E:QP->QS->Prop}{s:QS}{K:QU}{x dx C f:QQ}{mA:Str->Option QP}{name:Str}{v:QP}
end
section
variable{P:QZ}{w:QW}{H H':Hp}{h h':Re}{a C dx:QQ}{fs fs':List (Str×V)}
end
section
variable{X:Cx}{pins:List (QQ×Obj)}{σ:St}{H:Hp}{s:QS}{a C dx:QQ}{fs:List (Str×V)}{f:Str}{v:V}{A:Rf}{E:QP->QS->Prop}
end
section
variable{X:Cx}{o e value:QT}{f:Str}{pos pos' tpos:Pos}{ta tv:TE}
end
section
variable{X:Cx}{pins:List (QQ×Obj)}{σ:St}{H:Hp}{s:QS}{A:Rf}{E:QP->QS->Prop}{Q:QP->QS->Prop}{c:QP}{b:Bool}
end
section
variable{X:Cx}{e:QT}{es:List QT}{te:TE}{t:TA}{pos:Pos}
end
section
variable{X:Cx}{pins:List (QQ×Obj)}{σ:St}{H:Hp}{s s':QS}
end
section
variable{X:Cx}{CX:sO}{k:Nat}{f C:QQ}{fd:RJ}{ps:List Str}{sp:Sp}{dvs:List V}{ds:List QP}{E:XK}{x m:Str}{p pos apos:Pos}{e o:QT}{es:List QT}{ta:TE}{t:TA}
end
section
variable{X:Cx}{CX:sO}{k:Nat}{f C:QQ}{fd:RJ}{ps ks:List Str}{sp:Sp}{E:XK}{x m:Str}{p pos apos kpos:Pos}{e o:QT}{es:List QT}{kws:List Sw}{te ta:TE}{t tk:TA}{nm:Option Str}
variable{g:List QP->List QP->List QP}{gV:List V->List V->List V}
end
section
variable{X:Cx}{x:Str}{p pos:Pos}{e:QT}{es:List QT}{t:TA}{id T:String}{r:List V->Hp->VK->Prop}
end
section
variable{κ:Type}[DecidableEq κ]
end
section
variable{P:QZ}{w:QW}{H:Hp}{h:Re}{a:QQ}
end
section
variable{X:Cx}{pins:List (QQ×Obj)}{σ:St}{H:Hp}{s:QS}{a:QQ}{y v:V}{u r:QP}{o:Option V}{A:Rf}{E:QP->QS->Prop}
end
section
variable{X:Cx}{pins:List (QQ×Obj)}{σ:St}{H:Hp}{s:QS}{a:QQ}{kvs:List (dh×V)}{k:dh}{u:QP}{A:Rf}{E:QP->QS->Prop}
end
section
variable{X:Cx}{o i e value:QT}{pos pos' tpos:Pos}{td ty tv:TE}
end
section
variable{X:Cx}{pos:Pos}
end
structure M2 (X:Cx) (o:QT) (m:Str) (apos:Pos) (e f:QT) (cpos:Pos):Prop where
 base:TJ o m X.env (Rj o X.env)=Rj o X.env
 few:((RF cpos (Rg [e,f] X.env)).all (λx=>!x.1)&&(backToKw cpos (UE [] X.env)).all (λx=>x.1.isSome)&&decide (([e,f]:List QT).length+([]:List Sw).length+(if ([]:List Sw).isEmpty then 0 else 1)<30))=true
 line:(apos.endLine==cpos.line)=true
 trees:RF cpos (Rg [e,f] X.env)=[(false,Rj e X.env),(false,Rj f X.env)]
section
variable{X:Cx}{pins:List (QQ×Obj)}{σ:St}{H:Hp}{s:QS}{a:QQ}{y d:V}{u r:QP}{o:Option V}{A:Rf}{E:QP->QS->Prop}
end
section
variable{X:Cx}{o e f:QT}{apos cpos:Pos}{td ty tx:TE}
end
section
variable{X:Cx}{pins:List (QQ×Obj)}{σ:St}{H:Hp}{s:QS}{a:QQ}{kvs:List (dh×V)}{A:Rf}{E:QP->QS->Prop}
end
section
variable{X:Cx}{pins:List (QQ×Obj)}{σ:St}{H:Hp}{s:QS}{a:QQ}{y:V}{u:QP}{A:Rf}{E:QP->QS->Prop}
end
end L2
namespace Att
open PySem PySem.W PySem.Calls PyProof.Rows
section
variable{prog:QZ}{w:QW}{A:Rf}{E:QP->QS->Prop}{s:QS}{K:Frag}
end
end Att
namespace L2
open PySem PySem.Spec PyProof.Rows
section
variable{P:QZ}{w:QW}{K:QU}{mg:Str->Option QP}{base:Re}
end
section
variable{X:Cx}
end
section
variable{κ:Type}[DecidableEq κ]
end
section
variable{prog:QZ}{w:QW}{A:Rf}{R:Result->QS->Prop}
end
section
variable{K:QU}{F H F' H':Hp}{σ σ':L2.St}{e e':En}{cp:List (Nat×Str)}{nT:Nat}
end
section
variable{X:Cx}{K:QU}{pos:Pos}
end
theorem AC{X:Cx}{use:Option (QP->Sem Unit)}{RR:QP->QS->Prop}{pins:List (QQ×Obj)}{s:QS}{σ:L2.St}{H:Hp}{Q:VK}{elt iter tg iter2 tg2:QT}{ifs ifs2:List QT}{scope:Rt}{pos:Pos}{wi wi2:TI}{g g2:TG}{tc tc2:TT}{te:TE}(sc0:Rt)(N0:List Str)(cp:List (Nat×Str))(tgN:List Str)(hc:X.calm=true)(hsc:X.env.scope=sc0)(hN0:X.N=N0)(hi:PI X tg iter wi)(hg:∀C s0 H0 fp,PG (ar X scope cp tgN C s0 H0 fp) tg g)(ht:∀C s0 H0 fp,uS (ar X scope cp tgN C s0 H0 fp) ifs tc)(hi2:∀C s0 H0 fp,PI (ar X scope cp tgN C s0 H0 fp) tg2 iter2 wi2)(hg2:∀C s0 H0 fp,PG (ar X scope cp tgN C s0 H0 fp) tg2 g2)(ht2:∀C s0 H0 fp,uS (ar X scope cp tgN C s0 H0 fp) ifs2 tc2)(he:∀C s0 H0 fp,PE (ar X scope cp tgN C s0 H0 fp) elt te)(hk:scope.kind=.function)(hown:∀y∈scope.names,y.2=.cell->scope.names.lookup y.1=some .cell)(hnames:∀y∈scope.names,y.2=.local->scope.names.lookup y.1=some .local)(hfr:∀y∈scope.names,y.2=.free->scope.names.lookup y.1=some .free/\sc0.names.lookup y.1=some .cell)(hcp:∀p∈cp,N0[p.1]?=some p.2)(hcq:∀p∈cp,sc0.names.lookup p.2=some .cell/\scope.names.lookup p.2=some .free)(hs2:∀C s0 H0 fp x,SF iter2 (ar X scope cp tgN C s0 H0 fp).env x=pure x)(hs:∀x,SF iter X.env x=pure x)(I:av X pins σ H s)(h:yZ cp tgN.length wi g tc wi2 g2 tc2 te σ H Q)(fin:∀(C D:QQ) (H5:Hp) (s6:QS),(∃m,s6.heap.Ns C m)->Q (.ref D) H5->iG X pins H5 C->(∀h',TB C s6.heap h'->av X pins σ H5 {s6 with heap:=h'})->compPost (QY X.prog X.w) X.A X.xe use RR (.ref D) C (.ok .next) s6):QX (QY X.prog X.w) X.A (comprehension (.ListComp elt [⟨tg,iter,ifs,0⟩,⟨tg2,iter2,ifs2,0⟩] scope pos) scope X.env (firstIterPos [⟨tg,iter,ifs,0⟩,⟨tg2,iter2,ifs2,0⟩] pos) (newList []) (firstAsync [⟨tg,iter,ifs,0⟩,⟨tg2,iter2,ifs2,0⟩]) (firstIter [⟨tg,iter,ifs,0⟩,⟨tg2,iter2,ifs2,0⟩] X.env) use) RR X.xe s:=by
 have hkind:∀x,X.env.kindOf x=sc0.names.lookup x:=λx=>by unfold Env.kindOf;rw[hsc]
 have hfree:∀y∈scope.names,y.2=.free->∃c,X.env.cells.lookup y.1=some c:=λy hy e=>I.ok.has y.1 (.inl (by rw[hkind];exact(hfr y hy e).2));refine wpAny_comprehension_free (use:=use) rfl hs (qA hfree) hk hnames (Rx (hi pins s σ H _ I h.go) (λxv s₁ h₁=>Rx h₁ (λitv s₂ h₂=>?_) λ_ _ e=>e) λ_ _ e=>e);obtain⟨it,fp,tn,J,H2,rfl,I2,T,st2,f2,hq⟩:=h₂;refine TF ?_;have hlF:H2 ↑s₂=none:=I2.hok.fresh (Ro _);have I3:av X pins σ (upd H2 ↑s₂ (.lst [])) {s₂ with heap:=s₂.heap.push {cls:=.type "list",data:=.seq ([]:List QP).toArray}}:=I2.lnew (t':=s₂.toks) .nil (SY _);obtain⟨W,⟨m0,w0⟩,turn⟩:=hq _ hlF;have f3:∀b∈fp,iG X pins (upd H2 ↑s₂ (.lst [])) b:=λb hb=>by obtain⟨f0,fr⟩:=f2 b hb;obtain⟨o,ho,_⟩:=T.obj _ _ st2 b hb;exact⟨by rw[aq (Sd (Rp ho))];exact f0,fr⟩
 have st3:tn 0 (s₂.heap.push {cls:=.type "list",data:=.seq ([]:List QP).toArray}):=T.keep _ _ _ st2 λb _ o e=>RH _ e;generalize hD:↑s₂=D at*;generalize hs3:({s₂ with heap:=s₂.heap.push {cls:=.type "list",data:=.seq ([]:List QP).toArray}}:QS)=s₃ at*;have hst3:tn 0 s₃.heap:=by rw[<-hs3];exact st3
 refine zK (λh₁ hns₁ old hownC apC=>?_);generalize hC:↑s₃=C at*;have nC:∀b o,s₃.heap.get? b=some o->b≠C:=λb o e=>by rw[<-hC];exact Sd (Rp e)
 obtain⟨ok',I4⟩:=tS (cp:=cp) (tgN:=tgN) hsc hN0 hk hown hfr hcp hcq I3 f3 (λb hb=>let⟨o,e,_⟩:=T.obj _ _ hst3 b hb;⟨o,e⟩) hC hns₁ old hownC apC;have hst4:tn 0 h₁:=T.keep _ _ _ hst3 λb _ o e=>old b o e;have loop:SW (QY X.prog X.w) X.A (.compLoop (.ListComp elt [⟨tg,iter,ifs,0⟩,⟨tg2,iter2,ifs2,0⟩] scope pos) 0 (.ref it) (.ref D) (compEnvC scope (RO (C+1) scope.names (jm X.env scope.names [])) C X.env)) (compPost (QY X.prog X.w) X.A X.xe use RR (.ref D) C) {s₃ with heap:=h₁}:=by
  refine u_ (λn s'=>∃i σ' H',av (ar X scope cp tgN C s₃ (upd H2 D (.lst [])) fp) [] σ' H' s'/\tn i s'.heap/\(∀b∈fp,H' b=none)/\W i n σ' H') ?_ (n0:=m0) ⟨0,_,_,I4,hst4,λb hb=>(f3 b hb).1,w0⟩;rintro n s5⟨i,σ5,H5,I5,st5,fr5,w5⟩;have stat:∀{H':Hp},(∀b∈fp,H' b=none)->∀b∈fp,iG (ar X scope cp tgN C s₃ (upd H2 D (.lst [])) fp) [] H' b:=λhn b hb=>⟨hn b hb,(ok'.exf b hb).1,ok'.exfs b hb,.inl hb,(ok'.exf b hb).2,λp hp=>by simp[ar]at hp⟩;rcases turn i n σ5 H5 w5 with⟨stop,qn⟩|⟨go,N,hN,step⟩;·refine bu (T.done (ar X scope cp tgN C s₃ (upd H2 D (.lst [])) fp) rfl rfl rfl hc i [] s5 σ5 H5 (λ_ _=>False) I5 (stat fr5) st5 stop) λr s6⟨hr,I6⟩=>?_;subst hr;refine⟨λ_=>?_,λv z=>by cases z⟩;obtain⟨m,hn,_⟩:=I6.loc;exact fin C D H5 s6 ⟨m,hn⟩ qn (I3.fpOk (by rw[hC];exact Ro _) I6.free) (tT I3 f3 nC I6)
  ·refine bu (T.item (ar X scope cp tgN C s₃ (upd H2 D (.lst [])) fp) rfl rfl rfl hc i [] s5 σ5 H5 (λ_ _=>False) I5 (stat fr5) st5 go) λr s6⟨u,hr,h6⟩=>?_;subst hr;refine⟨λz=>(by cases z),λv z=>?_⟩;cases z;refine bu h6 λ_ s7⟨x,H7,I7,r7,y7,st7,fr7⟩=>?_;have I7':=I7.pinned (stat fr7) (T.obj _ _ st7);have again:∀{σ8:L2.St}{H8:Hp}{s8:QS},av (ar X scope cp tgN C s₃ (upd H2 D (.lst [])) fp) ([]++mx fp s7.heap) σ8 H8 s8->N σ8 H8->∃m,m<n/\∃i σ' H',av (ar X scope cp tgN C s₃ (upd H2 D (.lst [])) fp) [] σ' H' s8/\tn i s8.heap/\(∀b∈fp,H' b=none)/\W i m σ' H':=fun{σ8 H8 s8}I8 n8=>by obtain⟨m',hm,w8⟩:=hN σ8 H8 n8;refine⟨m',hm,i+1,σ8,H8,I8.unpinned,T.keep _ _ _ st7 λb hb o e=>(I8.pin (b,o) (Sk _ (Sk _ (cW hb e)))).1,λb hb=>?_,w8⟩;obtain⟨o,e,d⟩:=T.obj _ _ st7 b hb;exact(I8.pin (b,o) (Sk _ (Sk _ (cW hb e)))).2.1
   refine bu (hg C s₃ (upd H2 D (.lst [])) fp _ s7 σ5 H7 x u _ I7' r7 (step x H7 y7)) λ_ s8⟨σ8,H8,I8,q8⟩=>?_;refine bu (ht C s₃ (upd H2 D (.lst [])) fp _ s8 σ8 H8 _ I8 q8) λok s9⟨H9,I9,q9⟩=>?_;cases ok with|false=>rw[if_neg Te]at q9⊢;exact again I9 q9|true=>rw[if_pos rfl]at q9⊢;exactλk Q' E' hk=>CN (Y:=ar X scope cp tgN C s₃ (upd H2 D (.lst [])) fp) hc rfl (hi2 C s₃ _ fp) (hg2 C s₃ _ fp) (ht2 C s₃ _ fp) (he C s₃ _ fp) (hs2 C s₃ _ fp) I9 q9 k Q' E' λs'⟨σ11,H11,I11,q11⟩=>hk s' (again I11 q11)
 exact codeAny_compStart_list loop (T.self X.A 0 _ _ _ hst4 loop)
theorem Bl{X:Cx}{elt iter tg iter2 tg2:QT}{ifs ifs2:List QT}{scope:Rt}{pos:Pos}{wi wi2:TI}{g g2:TG}{tc tc2:TT}{te:TE}(sc0:Rt)(N0:List Str)(cp:List (Nat×Str))(tgN:List Str)(hc:X.calm=true)(hsc:X.env.scope=sc0)(hN0:X.N=N0)(hi:PI X tg iter wi)(hg:∀C s0 H0 fp,PG (ar X scope cp tgN C s0 H0 fp) tg g)(ht:∀C s0 H0 fp,uS (ar X scope cp tgN C s0 H0 fp) ifs tc)(hi2:∀C s0 H0 fp,PI (ar X scope cp tgN C s0 H0 fp) tg2 iter2 wi2)(hg2:∀C s0 H0 fp,PG (ar X scope cp tgN C s0 H0 fp) tg2 g2)(ht2:∀C s0 H0 fp,uS (ar X scope cp tgN C s0 H0 fp) ifs2 tc2)(he:∀C s0 H0 fp,PE (ar X scope cp tgN C s0 H0 fp) elt te)(hk:scope.kind=.function)(hown:∀y∈scope.names,y.2=.cell->scope.names.lookup y.1=some .cell)(hnames:∀y∈scope.names,y.2=.local->scope.names.lookup y.1=some .local)(hfr:∀y∈scope.names,y.2=.free->scope.names.lookup y.1=some .free/\sc0.names.lookup y.1=some .cell)(hcp:∀p∈cp,N0[p.1]?=some p.2)(hcq:∀p∈cp,sc0.names.lookup p.2=some .cell/\scope.names.lookup p.2=some .free)(hs2:∀C s0 H0 fp x,SF iter2 (ar X scope cp tgN C s0 H0 fp).env x=pure x)(hs:∀x,SF iter X.env x=pure x:=by intro _;rfl):PE X (.ListComp elt [⟨tg,iter,ifs,0⟩,⟨tg2,iter2,ifs2,0⟩] scope pos) (yZ cp tgN.length wi g tc wi2 g2 tc2 te):=by intro pins s σ H Q I h;rw[eval_ListComp];exact AC sc0 N0 cp tgN hc hsc hN0 hi hg ht hi2 hg2 ht2 he hk hown hnames hfr hcp hcq hs2 hs I h λC D H5 s6⟨m,hn⟩q _ key=>⟨m,hn,λh' sb=>⟨.ref D,H5,key h' sb,rfl,q⟩⟩
section
variable{X:Cx}{K:QU}{pos:Pos}
theorem DT{elt iter tg iter2 tg2:QT}{ifs ifs2:List QT}{scope:Rt}{fi fi2:FI}{g g2:FG}{ft ft2:FT}{fe:FE}{W W2:List Nat}(cp:List (Nat×Str))(tgN:List Str)(hc:X.calm=true)(hi:PI X tg iter (fI K fi))(hg:∀C s0 H0 fp,PG (ar X scope cp tgN C s0 H0 fp) tg (fG K g W))(ht:∀C s0 H0 fp,uS (ar X scope cp tgN C s0 H0 fp) ifs (fT K ft))(hi2:∀C s0 H0 fp,PI (ar X scope cp tgN C s0 H0 fp) tg2 iter2 (fI K fi2))(hg2:∀C s0 H0 fp,PG (ar X scope cp tgN C s0 H0 fp) tg2 (fG K g2 W2))(ht2:∀C s0 H0 fp,uS (ar X scope cp tgN C s0 H0 fp) ifs2 (fT K ft2))(he:∀C s0 H0 fp,PE (ar X scope cp tgN C s0 H0 fp) elt (fE K fe))(hk:scope.kind=.function)(hch:Ck X.env.scope scope X.N cp (W++W2)=true)(hs2:∀C s0 H0 fp x,SF iter2 (ar X scope cp tgN C s0 H0 fp).env x=pure x)(hs:∀x,SF iter X.env x=pure x):PE X (.ListComp elt [⟨tg,iter,ifs,0⟩,⟨tg2,iter2,ifs2,0⟩] scope pos) (fE K (j_ cp tgN.length fi g ft fi2 g2 ft2 fe)):=by obtain⟨h0,h1,h2,h3,h4,h5,h6⟩:=uX hch;exact(Bl X.env.scope X.N cp tgN hc rfl rfl hi (λC s0 H0 fp=>(hg C s0 H0 fp).wide λj hj=>Wu W2 hj) ht hi2 (λC s0 H0 fp=>(hg2 C s0 H0 fp).wide λj hj=>Sk W hj) ht2 he hk h0 h1 h2 h3 h4 hs2 hs).mono λ_ _ _ h=>BJ h5 h6 h
end
section
variable{X:Cx}{K:QU}{g:En->Prop}{x:Str}{e a:QT}{es:List QT}{p pos:Pos}{T:String}
end
section
variable{P:QZ}{w:QW}{K:QU}{mg:Str->Option QP}{base:Re}{N ps:List Str}{qual fn:Str}{scope:Rt}{fa f:QQ}{cd:QP}{A:Rf}{outer:List Env}{s:QS}{H:Hp}{E:XK}{C:QQ}{st:Rh}{fd:RJ}{k n k0:Nat}{g:En->Prop}{p pos:Pos}{e:QT}{es:List QT}{fs:FA}
end
section
variable{X:Cx}{K:QU}{σ:L2.St}{F H:Hp}{e e':En}
end
def sm(f:Nat->Int):Nat->Int|0=>0|n+1=>sm f n+f n
def sg:Nat->Int|0=>1|n+1=>-sg n
def sk(j a:Nat):Nat:=if a<j then a else a+1
def NG:Nat->(Nat->Nat->Int)->Int|0,_=>1|k+1,c=>sm (λj=>sg j*c j 0*NG k (λa i=>c (sk j a) (i+1))) (k+1)
def pu(c:Nat->Nat->Int)(p:Nat)(v:Nat->Int):Nat->Nat->Int:=λa=>if a=p then v else c a
def sq(f:Nat->Rat):Nat->Rat|0=>0|n+1=>sq f n+f n
structure Tb where
 T:Nat->Nat->Int
 d:Int
 out:Nat->Nat
 win:Nat->Nat
def N3(s:Tb)(r c:Nat):Tb where T:=λi j=>if i=r then(if j=c then s.d else s.T r j) else if j=c then-s.T i c else(s.T i j*s.T r c-s.T i c*s.T r j)/s.d;d:=s.T r c;out:=λj=>if j=c then s.win r else s.out j;win:=λk=>if k=r then s.out c else s.win k
section
variable(n m:Nat)(C:Nat->Nat->Int)
def MV(x:Nat->Rat):Prop:=∀i,i<=m->sq (λj=>(C j i:Rat)*x j) n+x (n+i)=(C (n+m+1) i:Rat)
structure Iv (s:Tb):Prop where
 dp:0<s.d
 cl:∀j,j<=n->∀i,s.d*C (s.out j) i=sm (λk=>s.T k j*C (s.win k) i) (m+1)dt:NG (m+1) (λk=>C (s.win k))=s.d
 fe:∀i,i<m->0<=s.T i n
 wm:s.win m=n+m
 on:s.out n=n+m+1
 oi:∀j,j<n->∀j',j'<n->s.out j=s.out j'->j=j'
 wi:∀k,k<=m->∀k',k'<=m->s.win k=s.win k'->k=k'
 dj:∀j,j<n->∀k,k<=m->s.out j≠s.win k
 cv:∀v,v<=n+m->(∃j,j<n/\s.out j=v)\/(∃k,k<=m/\s.win k=v)og:∀j,j<n->s.out j<=n+m
 wg:∀k,k<=m->s.win k<=n+m
 eq:∀x,MV n m C x↔∀k,k<=m->(s.d:Rat)*x (s.win k)+sq (λj=>(s.T k j:Rat)*x (s.out j)) n=(s.T k n:Rat)
end
section
variable{n m:Nat}{C:Nat->Nat->Int}{s:Tb}(I:Iv n m C s){r c:Nat}(hr:r<m)(hc:c<n)(hp:0<s.T r c)
include I hr hc hp
end
section
variable(n m:Nat)
structure NR (s:Tb) (c:Nat):Prop where
 hc:c<n
 neg:s.T m c<0
 first:∀j,j<n->s.T m j<0->s.out c<=s.out j
structure NS (s:Tb) (c r:Nat):Prop where
 hr:r<m
 pos:0<s.T r c
 rat:∀i,i<m->0<s.T i c->s.T r n*s.T i c<=s.T i n*s.T r c
 first:∀i,i<m->0<s.T i c->s.T r n*s.T i c=s.T i n*s.T r c->s.win r<=s.win i
structure NU (C:Nat->Nat->Int) (st:Nat->Tb) (cs rs:Nat->Nat) (K:Nat):Prop where iv:∀k,k<=K->Iv n m C (st k)en:∀k,k<K->NR n m (st k) (cs k)le:∀k,k<K->NS n m (st k) (cs k) (rs k)nx:∀k,k<K->st (k+1)=N3 (st k) (rs k) (cs k)
end
section
variable{n m:Nat}{C:Nat->Nat->Int}
variable{st:Nat->Tb}{cs rs:Nat->Nat}{K:Nat}(W:NU n m C st cs rs K)
include W
end
section
variable{n m:Nat}{C:Nat->Nat->Int}
end
open PySem PySem.Spec PyProof.Rows PySem.W
section
variable{prog:QZ}{w:QW}{A:Rf}{R:Result->QS->Prop}
end
section
variable{X:Cx}{K:QU}
end
section
variable{X:Cx}{K:QU}{x y:Str}{p p2 pos:Pos}{i j:Nat}{a c:QT}
end
section
variable{X:Cx}{K:QU}{pos p2:Pos}
end
def NX(n m:Nat)(g:Nat->Int)(A:Nat->Nat->Int)(b:Nat->Int)(v i:Nat):Int:=if v<n then(if i<m then A i v else if i=m then-g v else 0) else if v<=n+m then(if i=v-n then 1 else 0) else if v=n+m+1 then(if i<m then b i else 0) else 0
section
variable(n m:Nat)(g:Nat->Int)(A:Nat->Nat->Int)(b:Nat->Int)
end
section
variable{n m:Nat}{g:Nat->Int}{A:Nat->Nat->Int}{b:Nat->Int}
end
abbrev TL:=pO×Rat
def rs(f:TL->Rat):List TL->Rat|[]=>0|p::P=>f p+rs f P
def Na(th:Int)(t:pO):Bool:=t.one==th||t.other==th
def tj(W:aJ)(j:Nat):pO:=W.ties.getD j ⟨0,0,0,0,0⟩
def wT(W:aJ):Nat:=W.things.toNat
section
variable{W:aJ}
end
def nv(p q i:Nat):Int:=(if i=p then 1 else 0)-(if i=q then 1 else 0)
section
variable{n m:Nat}{g:Nat->Int}{A:Nat->Nat->Int}{b:Nat->Int}
end
def hG(W:aJ)(j:Nat):Int:=(tj W j).worth
def hA(W:aJ)(i j:Nat):Int:=if Na (i:Int) (tj W j)=true then 1 else 0
def hO(_:Nat):Int:=1
abbrev hC(W:aJ):Nat->Nat->Int:=NX W.ties.length (wT W) (hG W) (hA W) hO
def hS(c:Int->Bool)(i:Nat):Int:=if c (i:Int)=true then 1 else-1
section
variable{W:aJ}(ok:W.Ok){c:Int->Bool}(hc:∀t∈W.ties,c t.one≠c t.other)
include ok hc
end
end L2
namespace V28
open PySem PySem.Spec PyProof.Rows L2
variable{P:QZ}{w:QW}{K:QU}{mg:Str->Option QP}{base:Re}{f:QQ}{fd:RJ}
local macro_rules|`(tactic|trivial)=>`(tactic|first|exact .inl rfl|exact .inr rfl|assumption)
local macro_rules|`(¬$n:num)=>`(@qw _ _ $n _ _ (by rfl) (by rfl) (by decide))
local macro_rules|`($a∘$b)=>`(@Nm _ _ _ _ _ _ $a $b (by rfl))
theorem qL{α:Type u}{β:Type v}{f:α->β}:UL f []=[]:=rfl
theorem qK{α:Type u}{β:Type v}{f:α->β}{a:α}{l:List α}:UL f (a::l)=f a::UL f l:=rfl
theorem qG{α:Type u}{l:List α}:[]++l=l:=rfl
theorem qF{α:Type u}{a:α}{l m:List α}:(a::l)++m=a::(l++m):=rfl
theorem qI{α:Type u}{a:α}{l:List α}:(a::l)[0]?=some a:=rfl
theorem qJ{α:Type u}{a:α}{l:List α}{i:Nat}:(a::l)[i+1]?=l[i]?:=rfl
theorem qH{α:Type u}{β:Type v}{a:α}{f:α->Option β}:Option.bind (some a) f=f a:=rfl
theorem qM{α:Type u}{β:Type v}{a:α}{f:α->β}:Option.map f (some a)=some (f a):=rfl
structure cg (mg:Str->Option QP):Prop where
 b_abs:mg "abs"=none
 b_len:mg "len"=none
 b_min:mg "min"=none
 b_max:mg "max"=none
 b_range:mg "range"=none
 b_repr:mg "repr"=none
 b_tuple:mg "tuple"=none
 b_int:mg "int"=none
 b_sorted:mg "sorted"=none
 b_zip:mg "zip"=none
 b_enumerate:mg "enumerate"=none
 b_isinstance:mg "isinstance"=none
 b_bool:mg "bool"=none
 b_all:mg "all"=none
 b_list:mg "list"=none
 b_ValueError:mg "ValueError"=none
abbrev Cl(P:QZ)(w:QW)(K:QU)(mg:Str->Option QP)(base:Re)(n:Str)(s:Rh)(ps:List Str)(lv k:Nat)(m:FM):Prop:=∃f fd,fW K mg n s f fd ps/\bg P w K mg base gy lv f fd ps (iB K k m)
def kP:FS:=(ir (aF (aB CD (ae 0) (ae 1))) Ip bX)
def cV:FM:=jd 2 0 ([]++[]) kP
theorem dJ:aC ["many","most"] ["many","most"] (am bD):=⟨rfl,rfl,rfl,by decide+kernel,rfl,by decide+kernel,by decide+kernel⟩
theorem pI(h:fW K mg "refuse_above" bD f fd ["many","most"])(T:cg mg):bg P w K mg base gy 1 f fd ["many","most"] (iB K 2 cV):=by have nd:=dJ.nd;exact h.fn dJ rfl rfl (λcdv A outer s H E hr=>(@aj _ _ _ _ _ (@bU _ _ _ _ _ _ _ _ _ _ _ (@aV _ _ _ _ _ _ _ _ _ (@ya _ _) (¬0) (¬1) (aZ _)) (@aj _ _ _ _ _ (@G1 _ _ _)) (@aX _ _))))
def hX:En->Prop:=λe=>∃e',(aF (aB CD (ae 0) (ae 1))) e=some (true,e')/\oz e'=true/\(λe=>∃(rs:List Rv) (e':En),(aa (MP (s_ vq (ae 0)) (vC (.str (" are more than ":Str))) (s_ vq (ae 1))) ai) e=some (rs,e')/\rs.length=1) e'
theorem oC(h:fW K mg "refuse_above" bD f fd ["many","most"])(T:cg mg){C:QQ}(m_TooMany:mg "TooMany"=some (.ref C))(x_TooMany:Vj K C BK "ValueError.__new__"=true):bg P w K mg base (qc P w C) 1 f fd ["many","most"] (Fc K 2 0 hX):=by have nd:=dJ.nd;exact h.fnR dJ rfl rfl (λcdv A outer s H E hr=>(L_ (PT.nox (@aV _ _ _ _ _ _ _ _ _ (@ya _ _) (¬0) (¬1) (aZ _))) (Em rfl rfl m_TooMany x_TooMany Ee ((@Nl _ _ _ _ _ _ _ _ _ (@Ig _ _ _ _ _ (¬0)) (@J6 _ _ _ _ _) (@Ig _ _ _ _ _ (¬1)))∘ac) ⋯ rfl)))
def oT:FS:=(bh (wd (aB eE (aB eE (ae 0) (vC (.int 1))) (ae 1)) gw (fQ (vC (.int 2)))))
def bP:FM:=jd 2 0 [] oT
theorem nR:aC ["web","tie"] ["web","tie"] (am cY):=⟨rfl,rfl,rfl,by decide+kernel,rfl,by decide+kernel,by decide+kernel⟩
theorem vK(h:fW K mg "things_of" cY f fd ["web","tie"])(T:cg mg):bg P w K mg base gy 1 f fd ["web","tie"] (iB K 2 bP):=by have nd:=nR.nd;exact h.fn nR rfl rfl (λcdv A outer s H E hr=>(@aj _ _ _ _ _ (@aL _ _ _ _ _ (@iV _ _ _ _ _ _ _ _ _ _ rfl (@cc _ _ _ _ _ _ _ rfl (@cc _ _ _ _ _ _ _ rfl (¬0) af (λ_ _=>rfl)) (¬1) (λ_ _=>rfl)) (@iX _ _) (@iY _ _ _ _ af)))))
def lW:FI:=(iJ (ae 1))
def dy:FT:=(aF (aB (AK false) (ae 0) (cf 2 bP (aa (ae 1) (aa (ae 2) ai)))))
def dz:FE:=(ae 2)
def oS:FS:=(bh (aH (g1 ee) (aa (dk [(2,"thing"),(0,"web")] 1 lW (ah 2) dy dz) ai)))
def fP:FM:=jd 3 0 [] oS
theorem nQ:aC ["web","asked","thing"] ["web","asked","thing"] (am fV):=⟨rfl,rfl,rfl,by decide+kernel,rfl,by decide+kernel,by decide+kernel⟩
theorem vJ(h:fW K mg "many_asks" fV f fd ["web","asked","thing"])(T:cg mg)(z_things_of:Cl P w K mg base "things_of" cY ["web","tie"] 1 2 bP):bg P w K mg base gy 2 f fd ["web","asked","thing"] (iB K 3 fP):=by obtain⟨OG,OH,Oc,Oh⟩:=z_things_of;have nd:=nQ.nd;exact h.fn nQ rfl rfl (λcdv A outer s H E hr=>(@aj _ _ _ _ _ (@aL _ _ _ _ _ (@aP _ _ _ _ _ _ _ _ _ (@b_len _ _ rfl) ∅ T.b_len ((@ny _ _ _ _ _ _ _ _ _ _ _ _ _ [(2,"thing"),(0,"web")] ["tie"] rfl rfl (@ej _ _ _ _ _ rfl (¬1)) (λC s0 H0 fp=>(@ax _ _ _ 2 _ (show Uo (["thing","web","tie"]:List Str) by decide+kernel) rfl ↥3 (by trivial))) (λC s0 H0 fp=>(@pZ _ _ _ _ (@aV _ _ _ _ _ _ _ _ _ (@Ca _ _ _ rfl hr) (¬0) (@aY _ _ _ _ _ _ _ _ _ _ _ _ _ _ _ Oc Oh (hr.mono ⋯) ((¬1)∘((¬2)∘ac)) ∅ ⋯ ∅ ∅) (by with_unfolding_all rfl)))) (λC s0 H0 fp=>(¬2)) rfl ∅ ↥5)∘ac) ⋯ ⋯ ∅ ∅))))
def eI:FS:=(ay (kB (ae 1) (bV (aG (ah 3) (aG (ah 4) bN)))) (bh (ky (aB (AK true) (ae 2) (ae 4)) (aB HX (cf 3 fP (aa (ae 0) (aa (ae 3) (aa (ae 2) ai)))) (aB eE (aB eE (ae 0) (vC (.int 2))) (ae 2))))))
def bA:FM:=jd 3 2 (([3]++([4]++[]))++[]) eI
theorem iZ:aC ["web","stand","thing","asked","taken"] ["web","stand","thing"] (am bY):=⟨rfl,rfl,rfl,by decide+kernel,rfl,by decide+kernel,by decide+kernel⟩
theorem nj(h:fW K mg "bears_one_more" bY f fd ["web","stand","thing"])(T:cg mg)(z_many_asks:Cl P w K mg base "many_asks" fV ["web","asked","thing"] 2 3 fP):bg P w K mg base gy 3 f fd ["web","stand","thing"] (iB K 3 bA):=by obtain⟨PH,PJ,On,O'⟩:=z_many_asks;have nd:=iZ.nd;exact h.fn iZ rfl rfl (λcdv A outer s H E hr=>(@ag _ _ _ _ _ _ _ _ (@mz _ _ _ _ _ _ _ _ (¬1) (@ip _ _ _ _ _ _ _ _ rfl rfl (@aU _ _ _ _ _ _ _ _ (@ax _ _ _ 3 _ nd rfl ↥3 (by trivial)) (@aU _ _ _ _ _ _ _ _ (@ax _ _ _ 4 _ nd rfl ↥3 (by trivial)) (@eh _ _) ∅) ∅) (ba (ba hZ)) ∅ ∅) ∅ ∅ ∅) (@aj _ _ _ _ _ (@aL _ _ _ _ _ (@yR _ _ _ _ _ _ _ _ (@rQ _ _ _ _ _ _ _ _ _ (@Fs _ _ _ rfl hr) (¬2) (¬4) (by with_unfolding_all rfl)) (@D1 _ _ _ _ _ _ (@rQ _ _ _ _ _ _ _ _ _ (@Fq _ _) (@aY _ _ _ _ _ _ _ _ _ _ _ _ _ _ _ On O' (hr.mono ⋯) ((¬0)∘((¬3)∘((¬2)∘ac))) ∅ ⋯ ∅ ∅) (@cc _ _ _ _ _ _ _ rfl (@cc _ _ _ _ _ _ _ rfl (¬0) af (λ_ _=>rfl)) (¬2) (λ_ _=>rfl)) (aZ _))))))))
def pb:FI:=(iJ (cf 2 bP (aa (ae 0) (aa (ae 2) ai))))
def kS:FE:=(cf 3 bA (aa (ae 0) (aa (ae 1) (aa (ae 2) ai))))
def lF:FS:=(ay (aW 3 (aB eE (ae 1) (vC (.int 0)))) (ay (ir (sN (aF (aB (AK false) (ae 2) (ae 3))) (aF (aB FH (aH (g1 ee) (aa (ae 3) ai)) (aB eE (ae 0) (vC (.int 3)))))) (bh (vC (.bool false))) bX) (bh (aH (g1 (qY wM)) (aa (dk [(0,"web"),(1,"stand")] 1 pb (ah 2) eF kS) ai)))))
def eT:FM:=jd 3 1 ([3]++(([]++[])++[])) lF
theorem sv:aC ["web","stand","tie","asked"] ["web","stand","tie"] (am jE):=⟨rfl,rfl,rfl,by decide+kernel,rfl,by decide+kernel,by decide+kernel⟩
theorem yH(h:fW K mg "may_ask" jE f fd ["web","stand","tie"])(T:cg mg)(z_bears_one_more:Cl P w K mg base "bears_one_more" bY ["web","stand","thing"] 3 3 bA)(z_things_of:Cl P w K mg base "things_of" cY ["web","tie"] 1 2 bP):bg P w K mg base gy 4 f fd ["web","stand","tie"] (iB K 3 eT):=by obtain⟨Ph,Pi,Oe,OD⟩:=z_bears_one_more;obtain⟨OG,OH,Oc,Oh⟩:=z_things_of;have nd:=sv.nd;exact h.fn sv rfl rfl (λcdv A outer s H E hr=>(@ag _ _ _ _ _ _ _ _ (@aA _ _ _ _ _ 3 _ _ nd rfl ↥3 (@cc _ _ _ _ _ _ _ rfl (¬1) af (λ_ _=>rfl)) ∅ (by trivial)) (@ag _ _ _ _ _ _ _ _ (@bU _ _ _ _ _ _ _ _ _ _ _ (@rS _ _ _ _ (@kl _ _ _ _ _ _ _ _ (@aV _ _ _ _ _ _ _ _ _ (@Ca _ _ _ rfl hr) (¬2) (¬3) (by with_unfolding_all rfl)) (@j6 _ _ _ _ _ (@aV _ _ _ _ _ _ _ _ _ (@Av _ _) (@aP _ _ _ _ _ _ _ _ _ (@b_len _ _ rfl) ∅ T.b_len ((¬3)∘ac) ⋯ ⋯ ∅ ∅) (@cc _ _ _ _ _ _ _ rfl (¬0) af (λ_ _=>rfl)) (aZ _))))) (@aj _ _ _ _ _ (@aL _ _ _ _ _ (@di _ _ _ _ _))) (@aX _ _)) (@aj _ _ _ _ _ (@aL _ _ _ _ _ (@aP _ _ _ _ _ _ _ _ _ (@b_all _ _ _ rfl hr) ∅ T.b_all ((@ny _ _ _ _ _ _ _ _ _ _ _ _ _ [(0,"web"),(1,"stand")] ["thing"] rfl rfl (@ej _ _ _ _ _ rfl (@aY _ _ _ _ _ _ _ _ _ _ _ _ _ _ _ Oc Oh (hr.mono ⋯) ((¬0)∘((¬2)∘ac)) ∅ ⋯ ∅ ∅)) (λC s0 H0 fp=>(@ax _ _ _ 2 _ (show Uo (["web","stand","thing"]:List Str) by decide+kernel) rfl ↥3 (by trivial))) (λC s0 H0 fp=>(@nF _ _)) (λC s0 H0 fp=>(@aY _ _ _ _ _ _ _ _ _ _ _ _ _ _ _ Oe OD (hr.mono ⋯) ((¬0)∘((¬1)∘((¬2)∘ac))) ∅ ⋯ ∅ ∅)) rfl ∅ ↥5)∘ac) ⋯ ⋯ ∅ ∅))))))
def gS:FS:=(ay (kB (ae 1) (bV (aG (ah 4) (aG (ah 5) bN)))) (ay (ir (aF (ae 3)) (aW 5 (aH (g1 bI) (aa (aH (g1 eP) (aa (aB cZ (ae 5) (cf 2 bP (aa (ae 0) (aa (ae 2) ai)))) ai)) ai))) bX) (bh (bF (aa (aH (g1 bI) (aa (aH (g1 eP) (aa (aB cZ (ae 4) (bF (aa (ae 2) ai))) ai)) ai)) (aa (ae 5) ai))))))
def br:FM:=jd 4 2 (([4]++([5]++[]))++(([5]++[])++[])) gS
theorem ku:aC ["web","stand","tie","truth","asked","taken"] ["web","stand","tie","truth"] (am bZ):=⟨rfl,rfl,rfl,by decide+kernel,rfl,by decide+kernel,by decide+kernel⟩
theorem pJ(h:fW K mg "stand_behind" bZ f fd ["web","stand","tie","truth"])(T:cg mg)(z_things_of:Cl P w K mg base "things_of" cY ["web","tie"] 1 2 bP):bg P w K mg base gy 2 f fd ["web","stand","tie","truth"] (iB K 4 br):=by obtain⟨OG,OH,Oc,Oh⟩:=z_things_of;have nd:=ku.nd;exact h.fn ku rfl rfl (λcdv A outer s H E hr=>(@ag _ _ _ _ _ _ _ _ (@mz _ _ _ _ _ _ _ _ (¬1) (@ip _ _ _ _ _ _ _ _ rfl rfl (@aU _ _ _ _ _ _ _ _ (@ax _ _ _ 4 _ nd rfl ↥3 (by trivial)) (@aU _ _ _ _ _ _ _ _ (@ax _ _ _ 5 _ nd rfl ↥3 (by trivial)) (@eh _ _) ∅) ∅) (ba (ba hZ)) ∅ ∅) ∅ ∅ ∅) (@ag _ _ _ _ _ _ _ _ (@bU _ _ _ _ _ _ _ _ _ _ _ (@dq _ _ _ _ (¬3) ↥5) (@aj _ _ _ _ _ (@aA _ _ _ _ _ 5 _ _ nd rfl ↥3 (@aP _ _ _ _ _ _ _ _ _ (@b_tuple _ _ rfl) ∅ T.b_tuple ((@aP _ _ _ _ _ _ _ _ _ (@b_sorted _ _ rfl) ∅ T.b_sorted ((@cL _ _ _ _ _ _ _ rfl (¬5) (@aY _ _ _ _ _ _ _ _ _ _ _ _ _ _ _ Oc Oh (hr.mono ⋯) ((¬0)∘((¬2)∘ac)) ∅ ⋯ ∅ ∅))∘ac) ⋯ ⋯ ∅ ∅)∘ac) ⋯ ⋯ ∅ ∅) ∅ (by trivial))) (@aX _ _)) (@aj _ _ _ _ _ (@aL _ _ _ _ _ (@aT _ _ _ _ _ _ ((@aP _ _ _ _ _ _ _ _ _ (@b_tuple _ _ rfl) ∅ T.b_tuple ((@aP _ _ _ _ _ _ _ _ _ (@b_sorted _ _ rfl) ∅ T.b_sorted ((@cL _ _ _ _ _ _ _ rfl (¬4) (@aT _ _ _ _ _ _ ((¬2)∘ac)))∘ac) ⋯ ⋯ ∅ ∅)∘ac) ⋯ ⋯ ∅ ∅)∘((¬5)∘ac))))))))
def pd:FI:=(CM 2)
def iQ:FE:=(aH (g1 bI) (aa (ae 0) ai))
def kY:FI:=(iJ (bF (aa (bF (aa (vC (.int 1)) (aa (vC (.bool true)) ai))) (aa (bF (aa (vC (.int 2)) (aa (vC (.bool false)) ai))) ai))))
def oU:FS:=(cM (bz bi (ae 3) (aa (bF (aa (cf 4 br (aa (ae 0) (aa (ae 4) (aa (ae 7) (aa (ae 10) ai))))) (aa (ae 8) (aa (ae 9) ai)))) ai)))
def fm:FT:=(aF (aB CD (aH (g1 ee) (aa (ae 3) ai)) (vC (.int 0))))
def fg:FS:=(ay (kB (bz m9 (ae 3) ai) (bV (aG (ah 4) (aG (ah 5) (aG (ah 6) bN))))) (ir (aF (aB (f9 (mi false) (g_ false)) (ae 4) (ae 1))) (ay (r8 7 8 (aa (aB (f9 kh f_) (ae 1) (ae 4)) (aa (Ak 2) ai))) (ay (cM (Aj 2 (cD (aa (ae 7) (aa (vC (.int (-1))) (aa (vC (.int (-1))) ai)))))) (ay (ir (aF (aB (cN true) (ae 5) (vC (.int (-1))))) (uu 2 (ae 8) (ae 5) (Ba 6)) bX) (cO (([9]++([10]++[]))++[]) kY (bV (aG (ah 9) (aG (ah 10) bN))) oU)))) bX))
def tJ:FS:=(ay (Eu 2) (ay (aW 3 (cD (aa (bF (aa (vC (.tuple [.tuple [],.tuple []])) (aa (vC (.int (-1))) (aa (vC (.int 0)) ai)))) ai))) (ay (iz (2^4200) fm fg) (bh (aH (g1 bI) (aa (dk [] 1 pd (ah 0) eF iQ) ai))))))
def gM:FM:=jd 2 9 ([2]++([3]++((([4]++([5]++([6]++[])))++(([7,8]++([]++(([]++[])++(([9]++([10]++[]))++[]))))++[]))++[]))) tJ
theorem sx:aC ["web","asks","nodes","ends","stand","told_by","place","tie","at","link","truth"] ["web","asks"] (am gQ):=⟨rfl,rfl,rfl,by decide+kernel,rfl,by decide+kernel,by decide+kernel⟩
theorem yI(h:fW K mg "tree_by" gQ f fd ["web","asks"])(T:cg mg)(z_stand_behind:Cl P w K mg base "stand_behind" bZ ["web","stand","tie","truth"] 2 4 br){g_FIRST_STAND:QQ}(m_FIRST_STAND:mg "FIRST_STAND"=some (.ref g_FIRST_STAND))(c_FIRST_STAND:∀F,DA K F (.tuple [.tuple [],.tuple []]) (.ref g_FIRST_STAND)){t_END:Tok}(m_END:mg "END"=some (.int (-1) t_END)):bg P w K mg base gy 3 f fd ["web","asks"] (iB K 2 gM):=by obtain⟨OQ,OR,Ob,Oi⟩:=z_stand_behind;have nd:=sx.nd;exact h.fn sx rfl rfl (λcdv A outer s H E hr=>(@ag _ _ _ _ _ _ _ _ (@G2 _ _ _ _ _ _ 2 nd rfl ↥3 ∅ (by trivial)) (@ag _ _ _ _ _ _ _ _ (@aA _ _ _ _ _ 3 _ _ nd rfl ↥3 (@bj _ _ _ _ _ ((@aT _ _ _ _ _ _ ((@iW _ _ _ (V.ref g_FIRST_STAND) _ _ (PyData.tuple [.tuple [],.tuple []]) rfl m_FIRST_STAND rfl c_FIRST_STAND ⋯)∘((@iW _ _ _ (V.int (-1)) _ _ (PyData.int (-1)) rfl m_END ⟨_,rfl⟩ (λ_=>bc.mpr rfl) ⋯)∘(af∘ac))))∘ac)) ∅ (by trivial)) (@ag _ _ _ _ _ _ _ _ (@lc _ _ _ _ _ _ _ _ _ RX (@aV _ _ _ _ _ _ _ _ _ (@ya _ _) (@aP _ _ _ _ _ _ _ _ _ (@b_len _ _ rfl) ∅ T.b_len ((¬3)∘ac) ⋯ ⋯ ∅ ∅) af (aZ _)) (@ag _ _ _ _ _ _ _ _ (@mz _ _ _ _ _ _ _ _ (@LR _ _ _ _ _ _ rfl (¬3) ∅ ∅) (@ip _ _ _ _ _ _ _ _ rfl rfl (@aU _ _ _ _ _ _ _ _ (@ax _ _ _ 4 _ nd rfl ↥3 (by trivial)) (@aU _ _ _ _ _ _ _ _ (@ax _ _ _ 5 _ nd rfl ↥3 (by trivial)) (@aU _ _ _ _ _ _ _ _ (@ax _ _ _ 6 _ nd rfl ↥3 (by trivial)) (@eh _ _) ∅) ∅) ∅) (ba (ba (ba hZ))) ∅ ∅) ∅ ∅ ∅) (@aj _ _ _ _ _ (@bU _ _ _ _ _ _ _ _ _ _ _ (@aV _ _ _ _ _ _ _ _ _ (@Cc _ _ _ rfl hr) (¬4) (¬1) (by with_unfolding_all rfl)) (@ag _ _ _ _ _ _ _ _ (@D5 _ _ _ _ _ 7 8 _ _ _ _ _ _ _ _ _ rfl nd rfl rfl ⋯ rfl rfl ((@yQ _ _ _ _ _ _ _ _ hr rfl (¬1) (¬4) (λ_ _=>rfl))∘((@J1 _ _ _ _ _ _ 2 rfl ∅ (by first|exact Or.inl rfl|exact Or.inr ↥3|exact Or.inr (Or.inr rfl)) ⋯ ⋯ ∅ T.b_len ∅ ∅ ∅)∘ac)) ∅ ∅) (@ag _ _ _ _ _ _ _ _ (@cw _ _ _ _ _ (@J0 _ _ _ _ _ _ 2 _ _ rfl ∅ (by first|exact Or.inl rfl|exact Or.inr ↥3|exact Or.inr (Or.inr rfl)) ⋯ ⋯ (@bj _ _ _ _ _ ((¬7)∘((@iW _ _ _ (V.int (-1)) _ _ (PyData.int (-1)) rfl m_END ⟨_,rfl⟩ (λ_=>bc.mpr rfl) ⋯)∘((@iW _ _ _ (V.int (-1)) _ _ (PyData.int (-1)) rfl m_END ⟨_,rfl⟩ (λ_=>bc.mpr rfl) ⋯)∘ac)))) ∅ ∅ ∅ ∅ ∅ ∅) ∅) (@ag _ _ _ _ _ _ _ _ (@bU _ _ _ _ _ _ _ _ _ _ _ (@aV _ _ _ _ _ _ _ _ _ (@Aw _ _ _ rfl hr) (¬5) (@iW _ _ _ (V.int (-1)) _ _ (PyData.int (-1)) rfl m_END ⟨_,rfl⟩ (λ_=>bc.mpr rfl) ⋯) (aZ _)) (@aj _ _ _ _ _ (@G3 _ _ _ _ _ _ 2 _ _ _ _ _ _ _ rfl (¬8) ∅ (by first|exact Or.inl rfl|exact Or.inr ↥3|exact Or.inr (Or.inr rfl)) ⋯ ⋯ (¬5) (λ_ _=>rfl) (@J7 _ _ _ _ 6 ∅ (by first|exact Or.inl rfl|exact Or.inr ↥3|exact Or.inr (Or.inr rfl)) ⋯ ⋯) ↥5 ∅ ∅ ∅)) (@aX _ _)) (@aj _ _ _ _ _ (@el _ _ _ _ _ _ _ _ _ _ _ RX rfl (@ej _ _ _ _ _ rfl (@aT _ _ _ _ _ _ ((@aT _ _ _ _ _ _ (af∘((@di _ _ _ _ _)∘ac)))∘((@aT _ _ _ _ _ _ (af∘((@di _ _ _ _ _)∘ac)))∘ac)))) (@ip _ _ _ _ _ _ _ _ rfl rfl (@aU _ _ _ _ _ _ _ _ (@ax _ _ _ 9 _ nd rfl ↥3 (by trivial)) (@aU _ _ _ _ _ _ _ _ (@ax _ _ _ 10 _ nd rfl ↥3 (by trivial)) (@eh _ _) ∅) ∅) (ba (ba hZ)) ∅ ∅) (@aj _ _ _ _ _ (@cw _ _ _ _ _ (@cA _ _ _ _ _ _ _ _ _ rfl (¬3) ((@aT _ _ _ _ _ _ ((@aY _ _ _ _ _ _ _ _ _ _ _ _ _ _ _ Ob Oi (hr.mono ⋯) ((¬0)∘((¬4)∘((¬7)∘((¬10)∘ac)))) ∅ ⋯ ∅ ∅)∘((¬8)∘((¬9)∘ac))))∘ac) ∅ ∅ ∅ ∅ ∅) ∅)) ↥5))))) (@aX _ _))))) (@aj _ _ _ _ _ (@aL _ _ _ _ _ (@aP _ _ _ _ _ _ _ _ _ (@b_tuple _ _ rfl) ∅ T.b_tuple ((@ny _ _ _ _ _ _ _ _ _ _ _ _ _ [] ["node"] rfl rfl (@GZ _ _ _ _ 2 _ rfl ∅ (by first|exact Or.inl rfl|exact Or.inr ↥3|exact Or.inr (Or.inr rfl)) ⋯ ⋯) (λC s0 H0 fp=>(@ax _ _ _ 0 _ (show Uo (["node"]:List Str) by decide+kernel) rfl ↥3 (by trivial))) (λC s0 H0 fp=>(@nF _ _)) (λC s0 H0 fp=>(@aP _ _ _ _ _ _ _ _ _ (@b_tuple _ _ rfl) ∅ T.b_tuple ((¬0)∘ac) ⋯ ⋯ ∅ ∅)) rfl ∅ ↥5)∘ac) ⋯ ⋯ ∅ ∅)))))))
def iR:FI:=(iJ (ae 5))
def cJ:FI:=(iJ (bF (aa (vC (.bool true)) (aa (vC (.bool false)) ai))))
def bM:FE:=(cf 4 br (aa (ae 0) (aa (ae 2) (aa (ae 1) (aa (ae 3) ai)))))
def iS:FI:=(iJ (ae 3))
def cF:FT:=(aF (aB (f9 (mi true) (g_ true)) (ae 1) (ae 0)))
def cG:FE:=(ae 1)
def cK:FI:=(iJ (ae 5))
def cE:FS:=(mB 2 6 (ae 4))
def iT:FI:=(iJ (ae 3))
def bB:FT:=(aF (cf 3 eT (aa (ae 0) (aa (ae 2) (aa (ae 1) ai)))))
def cq:FE:=(ae 2)
def dQ:FI:=(iJ (ae 1))
def cj:FS:=(ay (ko 2 (aW 5 (dk [(0,"web"),(4,"tie")] 1 iT (ah 2) bB cq))) (ay (cO ([6]++[]) (kj 2 cK) (fJ 2 (ah 6)) cE) (ay (lq [3] 2 (aW 3 (dk [(2,"asks")] 1 iS (ah 1) cF cG))) (ko 2 (cM (Hx (ae 3) (j_ [(0,"web"),(4,"tie")] 2 iR (ah 2) eF cJ (ah 3) eF bM)))))))
def kf:FS:=(oI 2 KI (ay (ko 2 (aW 3 (cD (aa (vC (.tuple [.tuple [],.tuple []])) ai)))) (ay (cO ([4]++([5]++(([6]++[])++([3]++[])))) (kj 2 dQ) (fJ 2 (ah 4)) cj) (zV 2))))
def bK:FM:=jd 2 5 (2::([3]++(([4]++([5]++(([6]++[])++([3]++[]))))++[]))) kf
theorem jF:aC ["web","order","asks","stands","tie","asking","stand"] ["web","order"] (am bL):=⟨rfl,rfl,rfl,by decide+kernel,rfl,by decide+kernel,by decide+kernel⟩
theorem oA(h:fW K mg "asks_by_stand" bL f fd ["web","order"])(T:cg mg)(z_may_ask:Cl P w K mg base "may_ask" jE ["web","stand","tie"] 4 3 eT)(z_stand_behind:Cl P w K mg base "stand_behind" bZ ["web","stand","tie","truth"] 2 4 br){g_FIRST_STAND:QQ}(m_FIRST_STAND:mg "FIRST_STAND"=some (.ref g_FIRST_STAND))(c_FIRST_STAND:∀F,DA K F (.tuple [.tuple [],.tuple []]) (.ref g_FIRST_STAND)):bg P w K mg base gy 5 f fd ["web","order"] (iB K 2 bK):=by obtain⟨PV,PX,Ox,Pj⟩:=z_may_ask;obtain⟨OQ,OR,Ob,Oi⟩:=z_stand_behind;have nd:=jF.nd;exact h.fn jF rfl rfl (λcdv A outer s H E hr=>(@uq _ _ 2 _ _ _ _ _ _ _ _ nd rfl (Or.inr rfl) (@LU _ _ _) ∅ (by trivial) (@df _ _ _ _ _ _ _ _ _ (@nD _ _ 2 _ _ _ ⋯ (@aA _ _ _ _ _ 3 _ _ nd rfl ↥3 (@bj _ _ _ _ _ ((@iW _ _ _ (V.ref g_FIRST_STAND) _ _ (PyData.tuple [.tuple [],.tuple []]) rfl m_FIRST_STAND rfl c_FIRST_STAND ⋯)∘ac)) ∅ (by trivial))) (@df _ _ _ _ _ _ _ _ _ (@pY _ _ 2 _ _ _ _ _ _ _ _ _ RX rfl (@ej _ _ _ _ _ rfl (¬1)) (@ax _ _ _ 4 _ nd rfl (Or.inr rfl) (by trivial)) ⋯ (@df _ _ _ _ _ _ _ _ _ (@nD _ _ 2 _ _ _ ⋯ (@rR _ _ _ (5) _ _ _ _ _ _ _ _ _ _ _ _ _ [(0,"web"),(4,"tie")] ["stand"] rfl rfl (@ej _ _ _ _ _ rfl (¬3)) (λC s0 H0 fp=>(@ax _ _ _ 2 _ (show Uo (["web","tie","stand"]:List Str) by decide+kernel) rfl ↥3 (by trivial))) (λC s0 H0 fp=>(@pZ _ _ _ _ (@dq _ _ _ _ (@aY _ _ _ _ _ _ _ _ _ _ _ _ _ _ _ Ox Pj (hr.mono ⋯) ((¬0)∘((¬2)∘((¬1)∘ac))) ∅ ⋯ ∅ ∅) ↥5))) (λC s0 H0 fp=>(¬2)) rfl ∅ nd rfl rfl ∅ ↥5)) (@df _ _ _ _ _ _ _ _ _ (@pY _ _ 2 _ _ _ _ _ _ _ _ _ RX rfl (@ej _ _ _ _ _ rfl (¬5)) (@ax _ _ _ 6 _ nd rfl ↥3 (by trivial)) ⋯ (@iq _ _ _ _ _ _ (@zR _ _ 2 _ _ _ 6 _ _ _ _ _ _ hr rfl ⋯ (@eW _ 2 _ _ ∅ (by first|exact Or.inl rfl|exact Or.inr ↥3|exact Or.inr (Or.inr rfl)) ⋯ ⋯) (@eW _ 6 _ _ ∅ (by first|exact Or.inl rfl|exact Or.inr ↥3|exact Or.inr (Or.inr rfl)) ⋯ ⋯) (¬4) ∅)) ↥5) (@df _ _ _ _ _ _ _ _ _ (@nE _ _ 2 _ _ _ ⋯ (@rR _ _ _ (3) _ _ _ _ _ _ _ _ _ _ _ _ _ [(2,"asks")] ["stand"] rfl rfl (@ej _ _ _ _ _ rfl (¬3)) (λC s0 H0 fp=>(@ax _ _ _ 1 _ (show Uo (["asks","stand"]:List Str) by decide+kernel) rfl ↥3 (by trivial))) (λC s0 H0 fp=>(@pZ _ _ _ _ (@aV _ _ _ _ _ _ _ _ _ (@zq _ _ _ rfl hr) (¬1) (¬0) (by with_unfolding_all rfl)))) (λC s0 H0 fp=>(¬1)) rfl ∅ nd rfl rfl ∅ ↥5)) (@iq _ _ _ _ _ _ (@nD _ _ 2 _ _ _ ⋯ (@cw _ _ _ _ _ (@DU _ _ _ _ _ _ _ _ rfl (¬3) (@DT _ _ _ _ _ _ _ _ _ _ _ _ _ _ _ _ _ _ _ _ [(0,"web"),(4,"tie")] ["stand","truth"] rfl (@ej _ _ _ _ _ rfl (¬5)) (λC s0 H0 fp=>(@ax _ _ _ 2 _ (show Uo (["web","tie","stand","truth"]:List Str) by decide+kernel) rfl ↥3 (by trivial))) (λC s0 H0 fp=>(@nF _ _)) (λC s0 H0 fp=>(@ej _ _ _ _ _ rfl (@aT _ _ _ _ _ _ ((@di _ _ _ _ _)∘((@di _ _ _ _ _)∘ac))))) (λC s0 H0 fp=>(@ax _ _ _ 3 _ (show Uo (["web","tie","stand","truth"]:List Str) by decide+kernel) rfl ↥3 (by trivial))) (λC s0 H0 fp=>(@nF _ _)) (λC s0 H0 fp=>(@aY _ _ _ _ _ _ _ _ _ _ _ _ _ _ _ Ob Oi (hr.mono ⋯) ((¬0)∘((¬2)∘((¬1)∘((¬3)∘ac)))) ∅ ⋯ ∅ ∅)) rfl ∅ (by intro _ _ _ _ _;rfl) ↥5) ∅ ∅ ∅ ∅ ∅ ∅) ∅)))))) ↥5) (@iq _ _ _ _ _ _ (@G0 _ _ 2 _ _ _ (@eW _ 2 _ _ ∅ (by first|exact Or.inl rfl|exact Or.inr ↥3|exact Or.inr (Or.inr rfl)) ⋯ ⋯)))))))
def tK:FS:=(ay (cM (cf 2 cV (aa (aH (g1 ee) (aa (ae 1) ai)) (aa (vC (.int (8))) ai)))) (bh (cf 2 gM (aa (ae 0) (aa (cf 2 bK (aa (ae 0) (aa (ae 1) ai))) ai)))))
def eU:FM:=jd 2 0 ([]++[]) tK
theorem j7:aC ["web","order"] ["web","order"] (am eX):=⟨rfl,rfl,rfl,by decide+kernel,rfl,by decide+kernel,by decide+kernel⟩
theorem yJ(h:fW K mg "tree_of" eX f fd ["web","order"])(T:cg mg)(z_refuse_above:Cl P w K mg base "refuse_above" bD ["many","most"] 1 2 cV)(z_tree_by:Cl P w K mg base "tree_by" gQ ["web","asks"] 3 2 gM)(z_asks_by_stand:Cl P w K mg base "asks_by_stand" bL ["web","order"] 5 2 bK){t_MOST_TIES_OF_ORDER:Tok}(m_MOST_TIES_OF_ORDER:mg "MOST_TIES_OF_ORDER"=some (.int (8) t_MOST_TIES_OF_ORDER)):bg P w K mg base gy 6 f fd ["web","order"] (iB K 2 eU):=by obtain⟨Oj,Ol,N9,OS⟩:=z_refuse_above;obtain⟨Pk,Pl,Oq,O1⟩:=z_tree_by;obtain⟨OI,OJ,Od,Os⟩:=z_asks_by_stand;have nd:=j7.nd;exact h.fn j7 rfl rfl (λcdv A outer s H E hr=>(@ag _ _ _ _ _ _ _ _ (@cw _ _ _ _ _ (@aY _ _ _ _ _ _ _ _ _ _ _ _ _ _ _ N9 OS (hr.mono ⋯) ((@aP _ _ _ _ _ _ _ _ _ (@b_len _ _ rfl) ∅ T.b_len ((¬1)∘ac) ⋯ ⋯ ∅ ∅)∘((@iW _ _ _ (V.int (8)) _ _ (PyData.int (8)) rfl m_MOST_TIES_OF_ORDER ⟨_,rfl⟩ (λ_=>bc.mpr rfl) ⋯)∘ac)) ∅ ⋯ ∅ ∅) ∅) (@aj _ _ _ _ _ (@aL _ _ _ _ _ (@aY _ _ _ _ _ _ _ _ _ _ _ _ _ _ _ Oq O1 (hr.mono ⋯) ((¬0)∘((@aY _ _ _ _ _ _ _ _ _ _ _ _ _ _ _ Od Os (hr.mono ⋯) ((¬0)∘((¬1)∘ac)) ∅ ⋯ ∅ ∅)∘ac)) ∅ ⋯ ∅ ∅)))))
def oj:En->Prop:=λe=>∃(ds:List QR) (e':En),(aa (aH (g1 ee) (aa (ae 1) ai)) (aa (vC (.int (8))) ai)) e=some (ds.map Rv.d,e')/\ds.length=2/\hX ((ds.map Sv.d).map some++Rk 0 none)
theorem xj(h:fW K mg "tree_of" eX f fd ["web","order"])(T:cg mg)(z_tree_by:Cl P w K mg base "tree_by" gQ ["web","asks"] 3 2 gM)(z_asks_by_stand:Cl P w K mg base "asks_by_stand" bL ["web","order"] 5 2 bK){t_MOST_TIES_OF_ORDER:Tok}(m_MOST_TIES_OF_ORDER:mg "MOST_TIES_OF_ORDER"=some (.int (8) t_MOST_TIES_OF_ORDER)){C:QQ}{Oj:QQ}{Ol:RJ}(N9:fW K mg "refuse_above" bD Oj Ol ["many","most"])(R_refuse_above:bg P w K mg base (qc P w C) 1 Oj Ol ["many","most"] (Fc K 2 0 hX)):bg P w K mg base (qc P w C) 6 f fd ["web","order"] (Fc K 2 0 oj):=by have nd:=j7.nd;obtain⟨Pk,Pl,Oq,O1⟩:=z_tree_by;obtain⟨OI,OJ,Od,Os⟩:=z_asks_by_stand;exact h.fnR j7 rfl rfl (λcdv A outer s H E hr=>(Kj (G9 N9 R_refuse_above (hr.mono ⋯) rfl ((@aP _ _ _ _ _ _ _ _ _ (@b_len _ _ rfl) ∅ T.b_len ((¬1)∘ac) ⋯ ⋯ ∅ ∅)∘((@iW _ _ _ (V.int (8)) _ _ (PyData.int (8)) rfl m_MOST_TIES_OF_ORDER ⟨_,rfl⟩ (λ_=>bc.mpr rfl) ⋯)∘ac)))))
def zm:FS:=(ay (aW 2 (aB a' (aB cZ (aB cZ (aB ja (aB a' (ae 0) (vC (.int 2147483647))) (vC (.int 48271))) (aB ja (aB ja (vC (.int 7919)) (ae 1)) (ae 1))) (vC (.int 104729))) (vC (.int 2147483647)))) (bh (aB a' (aB ja (ae 2) (ae 2)) (vC (.int 2147483629)))))
def lK:FM:=jd 2 1 ([2]++[]) zm
theorem xE:aC ["_law_cell","_law_k","_law_number"] ["_law_cell","_law_k"] (am nK):=⟨rfl,rfl,rfl,by decide+kernel,rfl,by decide+kernel,by decide+kernel⟩
theorem Dc(h:fW K mg "_law_mixed" nK f fd ["_law_cell","_law_k"])(T:cg mg):bg P w K mg base gy 1 f fd ["_law_cell","_law_k"] (iB K 2 lK):=by have nd:=xE.nd;exact h.fn xE rfl rfl (λcdv A outer s H E hr=>(@ag _ _ _ _ _ _ _ _ (@aA _ _ _ _ _ 2 _ _ nd rfl ↥3 (@a_ _ _ _ _ _ _ _ (@cL _ _ _ _ _ _ _ rfl (@cL _ _ _ _ _ _ _ rfl (@nA _ _ _ _ _ _ _ rfl (@a_ _ _ _ _ _ _ _ (¬0) af) af) (@nA _ _ _ _ _ _ _ rfl (@nA _ _ _ _ _ _ _ rfl af (¬1)) (¬1))) af) af) ∅ (by trivial)) (@aj _ _ _ _ _ (@aL _ _ _ _ _ (@a_ _ _ _ _ _ _ _ (@nA _ _ _ _ _ _ _ rfl (¬2) (¬2)) af)))))
def gJ:FT:=(pM (aF (aB FH (ae 3) (aB vt (vC (.int 10)) (vC (.int 18))))) (aF (aB HX (aH (g1 ee) (aa (ae 1) ai)) (vC (.int 900)))))
def lE:FS:=(ay (cM (bz bi (ae 1) (aa (aB a' (ae 3) (vC (.int 2147483629))) ai))) (aW 3 (aB fF (ae 3) (vC (.int 2147483629)))))
def lI:FI:=(cI (aa (vC (.int 12)) ai))
def jj:FS:=(cM (bz bi (ae 1) (aa (cf 2 lK (aa (cf 2 lK (aa (ae 3) (aa (aB cZ (aB ja (vC (.int 3)) (ae 4)) (vC (.int 1))) ai))) (aa (aB cZ (aB cZ (ae 4) (ae 2)) (vC (.int 2))) ai))) ai)))
def om:FI:=(cI (aa (aH (g2 CF) (aa (aH (g1 ee) (aa (ae 0) ai)) (aa (vC (.int 63)) ai))) ai))
def gG:FS:=(ay (aW 3 (aH (g1 AJ) (aa (aB eE (ae 0) (ae 2)) ai))) (ay (ir (aF (aB HX (ae 3) (aB vt (vC (.int 10)) (vC (.int 18))))) (cO ([4]++[]) lI (ah 4) jj) bX) (ay (iz (2^4200) gJ lE) (ir (aF (aB FH (ae 3) (vC (.int 2147483629)))) (cM (bz bi (ae 1) (aa (aB a' (ae 3) (vC (.int 2147483629))) ai))) bX))))
def zl:FS:=(ay (aW 1 (cD ai)) (ay (cO ([2]++([3]++((([4]++[])++[])++(([]++[3])++([]++[]))))) om (ah 2) gG) (bh (ae 1))))
def m6:FM:=jd 1 4 ([1]++(([2]++([3]++((([4]++[])++[])++(([]++[3])++([]++[])))))++[])) zl
theorem xD:aC ["_law_script","_law_drawn","_law_k","_law_cell","_law_j"] ["_law_script"] (am nJ):=⟨rfl,rfl,rfl,by decide+kernel,rfl,by decide+kernel,by decide+kernel⟩
theorem Da(h:fW K mg "_law_draws" nJ f fd ["_law_script"])(T:cg mg)(zLmixed:Cl P w K mg base "_law_mixed" nK ["_law_cell","_law_k"] 1 2 lK):bg P w K mg base gy 2 f fd ["_law_script"] (iB K 1 m6):=by obtain⟨Qj,Qk,OK,Pm⟩:=zLmixed;have nd:=xD.nd;exact h.fn xD rfl rfl (λcdv A outer s H E hr=>(@ag _ _ _ _ _ _ _ _ (@aA _ _ _ _ _ 1 _ _ nd rfl ↥3 (@bj _ _ _ _ _ ac) ∅ (by trivial)) (@ag _ _ _ _ _ _ _ _ (@el _ _ _ _ _ _ _ _ _ _ _ RX rfl (@cC _ _ _ _ _ _ _ rfl T.b_range ((@aP _ _ _ _ _ _ _ _ _ (@b_min _ _ rfl) ∅ T.b_min ((@aP _ _ _ _ _ _ _ _ _ (@b_len _ _ rfl) ∅ T.b_len ((¬0)∘ac) ⋯ ⋯ ∅ ∅)∘(af∘ac)) ⋯ ⋯ ∅ ∅)∘ac) ∅) (@ax _ _ _ 2 _ nd rfl ↥3 (by trivial)) (@ag _ _ _ _ _ _ _ _ (@aA _ _ _ _ _ 3 _ _ nd rfl ↥3 (@aP _ _ _ _ _ _ _ _ _ (@b_abs _ _) ∅ T.b_abs ((@cc _ _ _ _ _ _ _ rfl (¬0) (¬2) (λ_ _=>rfl))∘ac) ⋯ ⋯ ∅ ∅) ∅ (by trivial)) (@ag _ _ _ _ _ _ _ _ (@bU _ _ _ _ _ _ _ _ _ _ _ (@aV _ _ _ _ _ _ _ _ _ (@Fq _ _) (¬3) (@DV _ _ _ _ _ _ _ af af) (aZ _)) (@aj _ _ _ _ _ (@el _ _ _ _ _ _ _ _ _ _ _ RX rfl (@cC _ _ _ _ _ _ _ rfl T.b_range (af∘ac) ∅) (@ax _ _ _ 4 _ nd rfl ↥3 (by trivial)) (@aj _ _ _ _ _ (@cw _ _ _ _ _ (@cA _ _ _ _ _ _ _ _ _ rfl (¬1) ((@aY _ _ _ _ _ _ _ _ _ _ _ _ _ _ _ OK Pm (hr.mono ⋯) ((@aY _ _ _ _ _ _ _ _ _ _ _ _ _ _ _ OK Pm (hr.mono ⋯) ((¬3)∘((@cL _ _ _ _ _ _ _ rfl (@nA _ _ _ _ _ _ _ rfl af (¬4)) af)∘ac)) ∅ ⋯ ∅ ∅)∘((@cL _ _ _ _ _ _ _ rfl (@cL _ _ _ _ _ _ _ rfl (¬4) (¬2)) af)∘ac)) ∅ ⋯ ∅ ∅)∘ac) ∅ ∅ ∅ ∅ ∅) ∅)) ↥5)) (@aX _ _)) (@ag _ _ _ _ _ _ _ _ (@lc _ _ _ _ _ _ _ _ _ RX (@rS _ _ _ _ (@D9 _ _ _ _ _ _ _ _ (@aV _ _ _ _ _ _ _ _ _ (@Av _ _) (¬3) (@DV _ _ _ _ _ _ _ af af) (aZ _)) (@zS _ _ _ _ _ (@aV _ _ _ _ _ _ _ _ _ (@Fq _ _) (@aP _ _ _ _ _ _ _ _ _ (@b_len _ _ rfl) ∅ T.b_len ((¬1)∘ac) ⋯ ⋯ ∅ ∅) af (aZ _))))) (@ag _ _ _ _ _ _ _ _ (@cw _ _ _ _ _ (@cA _ _ _ _ _ _ _ _ _ rfl (¬1) ((@a_ _ _ _ _ _ _ _ (¬3) af)∘ac) ∅ ∅ ∅ ∅ ∅) ∅) (@aj _ _ _ _ _ (@aA _ _ _ _ _ 3 _ _ nd rfl ↥3 (@j5 _ _ _ _ _ _ _ (¬3) af) ∅ (by trivial))))) (@aj _ _ _ _ _ (@bU _ _ _ _ _ _ _ _ _ _ _ (@aV _ _ _ _ _ _ _ _ _ (@Av _ _) (¬3) af (aZ _)) (@aj _ _ _ _ _ (@cw _ _ _ _ _ (@cA _ _ _ _ _ _ _ _ _ rfl (¬1) ((@a_ _ _ _ _ _ _ _ (¬3) af)∘ac) ∅ ∅ ∅ ∅ ∅) ∅)) (@aX _ _)))))) ↥5) (@aj _ _ _ _ _ (@aL _ _ _ _ _ (¬1))))))
def x_:FS:=(ay (ir (aF (aB (cN false) (ae 0) (cD ai))) (bh (vC (.int 0))) bX) (bh (bz eS (ae 0) (aa (vC (.int 0)) ai))))
def a9:FM:=jd 1 0 (([]++[])++[]) x_
theorem zX:aC ["_law_drawn"] ["_law_drawn"] (am iu):=⟨rfl,rfl,rfl,by decide+kernel,rfl,by decide+kernel,by decide+kernel⟩
theorem Ge(h:fW K mg "_law_next" iu f fd ["_law_drawn"])(T:cg mg):bg P w K mg base gy 1 f fd ["_law_drawn"] (iB K 1 a9):=by have nd:=zX.nd;exact h.fn zX rfl rfl (λcdv A outer s H E hr=>(@ag _ _ _ _ _ _ _ _ (@bU _ _ _ _ _ _ _ _ _ _ _ (@aV _ _ _ _ _ _ _ _ _ (@sQ _ _ _ rfl hr) (¬0) (@bj _ _ _ _ _ ac) (aZ _)) (@aj _ _ _ _ _ (@aL _ _ _ _ _ af)) (@aX _ _)) (@aj _ _ _ _ _ (@aL _ _ _ _ _ (@vO _ _ _ _ _ _ _ _ _ rfl (¬0) (af∘ac) ∅ ∅ ∅ ∅ ∅)))))
def mQ:FT:=(aF (aB (cN true) (ae 1) (vC (.int 0))))
def pQ:FS:=(r8 0 1 (aa (ae 1) (aa (aB a' (ae 0) (ae 1)) ai)))
def HK:FS:=(ay (iz (2^4200) mQ pQ) (bh (aH (g1 AJ) (aa (ae 0) ai))))
def w6:FM:=jd 2 0 ([0,1]++[]) HK
theorem Ew:aC ["_law_one","_law_other"] ["_law_one","_law_other"] (am xA):=⟨rfl,rfl,rfl,by decide+kernel,rfl,by decide+kernel,by decide+kernel⟩
theorem Jr(h:fW K mg "_law_gcd" xA f fd ["_law_one","_law_other"])(T:cg mg):bg P w K mg base gy 1 f fd ["_law_one","_law_other"] (iB K 2 w6):=by have nd:=Ew.nd;exact h.fn Ew rfl rfl (λcdv A outer s H E hr=>(@ag _ _ _ _ _ _ _ _ (@lc _ _ _ _ _ _ _ _ _ RX (@aV _ _ _ _ _ _ _ _ _ (@Aw _ _ _ rfl hr) (¬1) af (aZ _)) (@aj _ _ _ _ _ (@D5 _ _ _ _ _ 0 1 _ _ _ _ _ _ _ _ _ rfl nd rfl rfl ⋯ rfl rfl ((¬1)∘((@a_ _ _ _ _ _ _ _ (¬0) (¬1))∘ac)) ∅ ∅))) (@aj _ _ _ _ _ (@aL _ _ _ _ _ (@aP _ _ _ _ _ _ _ _ _ (@b_abs _ _) ∅ T.b_abs ((¬0)∘ac) ⋯ ⋯ ∅ ∅)))))
def HL:FS:=(ay (aW 2 (cf 2 w6 (aa (ae 0) (aa (ae 1) ai)))) (bh (bF (aa (aB fF (ae 0) (ae 2)) (aa (aB fF (ae 1) (ae 2)) ai)))))
def ui:FM:=jd 2 1 ([2]++[]) HL
theorem Ex:aC ["_law_top","_law_bottom","_law_common"] ["_law_top","_law_bottom"] (am xB):=⟨rfl,rfl,rfl,by decide+kernel,rfl,by decide+kernel,by decide+kernel⟩
theorem Js(h:fW K mg "_law_low" xB f fd ["_law_top","_law_bottom"])(T:cg mg)(zLgcd:Cl P w K mg base "_law_gcd" xA ["_law_one","_law_other"] 1 2 w6):bg P w K mg base gy 2 f fd ["_law_top","_law_bottom"] (iB K 2 ui):=by obtain⟨QC,QD,Pu,Ql⟩:=zLgcd;have nd:=Ex.nd;exact h.fn Ex rfl rfl (λcdv A outer s H E hr=>(@ag _ _ _ _ _ _ _ _ (@aA _ _ _ _ _ 2 _ _ nd rfl ↥3 (@aY _ _ _ _ _ _ _ _ _ _ _ _ _ _ _ Pu Ql (hr.mono ⋯) ((¬0)∘((¬1)∘ac)) ∅ ⋯ ∅ ∅) ∅ (by trivial)) (@aj _ _ _ _ _ (@aL _ _ _ _ _ (@aT _ _ _ _ _ _ ((@j5 _ _ _ _ _ _ _ (¬0) (¬2))∘((@j5 _ _ _ _ _ _ _ (¬1) (¬2))∘ac)))))))
def B5:FS:=(bh (aB (cN false) (aH (g1 o5) (aa (ae 0) ai)) (aH (g1 o5) (aa (ae 1) ai))))
def mv:FM:=jd 2 0 [] B5
theorem zY:aC ["_law_found","_law_due"] ["_law_found","_law_due"] (am oJ):=⟨rfl,rfl,rfl,by decide+kernel,rfl,by decide+kernel,by decide+kernel⟩
theorem Gf(h:fW K mg "_law_same" oJ f fd ["_law_found","_law_due"])(T:cg mg):bg P w K mg base gy 1 f fd ["_law_found","_law_due"] (iB K 2 mv):=by have nd:=zY.nd;exact h.fn zY rfl rfl (λcdv A outer s H E hr=>(@aj _ _ _ _ _ (@aL _ _ _ _ _ (@rQ _ _ _ _ _ _ _ _ _ (@sQ _ _ _ rfl hr) (@aP _ _ _ _ _ _ _ _ _ (@b_repr _ _ _ rfl hr) ∅ T.b_repr ((¬0)∘ac) ⋯ ⋯ ∅ ∅) (@aP _ _ _ _ _ _ _ _ _ (@b_repr _ _ _ rfl hr) ∅ T.b_repr ((¬1)∘ac) ⋯ ⋯ ∅ ∅) (aZ _)))))
def kO:FS:=(ay (ir (aF (aB (cN false) (ae 1) (vC (.int 0)))) (bh (aB eE (cD (aa (bF (aa (vC (.int 1)) (aa (vC (.int 2)) ai))) (aa (bF (aa (vC (.int 1)) (aa (vC (.int 3)) ai))) (aa (bF (aa (vC (.int 2)) (aa (vC (.int 3)) ai))) (aa (bF (aa (vC (.int 1)) (aa (vC (.int 1)) ai))) (aa (bF (aa (vC (.int 0)) (aa (vC (.int 1)) ai))) (aa (bF (aa (vC (.int 3)) (aa (vC (.int 4)) ai))) ai))))))) (aB a' (ae 0) (vC (.int 6))))) bX) (ay (ir (aF (aB (cN false) (ae 1) (vC (.int 1)))) (ay (aW 2 (aB cZ (vC (.int 2)) (aB a' (ae 0) (vC (.int 9))))) (bh (cf 2 ui (aa (aB cZ (vC (.int 1)) (aB a' (aB fF (ae 0) (vC (.int 9))) (aB kW (ae 2) (vC (.int 1))))) (aa (ae 2) ai))))) bX) (ay (ir (aF (aB (cN false) (ae 1) (vC (.int 2)))) (ay (aW 2 (aB cZ (vC (.int 1)) (aB a' (ae 0) (vC (.int 100))))) (bh (cf 2 ui (aa (aB a' (aB fF (ae 0) (vC (.int 100))) (aB cZ (ae 2) (vC (.int 1)))) (aa (ae 2) ai))))) bX) (bh (bF (aa (vC (.int 1)) (aa (vC (.int 1)) ai)))))))
def fM:FM:=jd 2 1 (([]++[])++((([2]++[])++[])++((([2]++[])++[])++[]))) kO
theorem uw:aC ["_law_number","_law_kind","_law_bottom"] ["_law_number","_law_kind"] (am lg):=⟨rfl,rfl,rfl,by decide+kernel,rfl,by decide+kernel,by decide+kernel⟩
theorem Bg(h:fW K mg "_law_chance" lg f fd ["_law_number","_law_kind"])(T:cg mg)(zLlow:Cl P w K mg base "_law_low" xB ["_law_top","_law_bottom"] 2 2 ui):bg P w K mg base gy 3 f fd ["_law_number","_law_kind"] (iB K 2 fM):=by obtain⟨QE,QF,Pn,PY⟩:=zLlow;have nd:=uw.nd;exact h.fn uw rfl rfl (λcdv A outer s H E hr=>(@ag _ _ _ _ _ _ _ _ (@bU _ _ _ _ _ _ _ _ _ _ _ (@aV _ _ _ _ _ _ _ _ _ (@sQ _ _ _ rfl hr) (¬1) af (aZ _)) (@aj _ _ _ _ _ (@aL _ _ _ _ _ (@cc _ _ _ _ _ _ _ rfl (@bj _ _ _ _ _ ((@aT _ _ _ _ _ _ (af∘(af∘ac)))∘((@aT _ _ _ _ _ _ (af∘(af∘ac)))∘((@aT _ _ _ _ _ _ (af∘(af∘ac)))∘((@aT _ _ _ _ _ _ (af∘(af∘ac)))∘((@aT _ _ _ _ _ _ (af∘(af∘ac)))∘((@aT _ _ _ _ _ _ (af∘(af∘ac)))∘ac))))))) (@a_ _ _ _ _ _ _ _ (¬0) af) (λ_ _=>rfl)))) (@aX _ _)) (@ag _ _ _ _ _ _ _ _ (@bU _ _ _ _ _ _ _ _ _ _ _ (@aV _ _ _ _ _ _ _ _ _ (@sQ _ _ _ rfl hr) (¬1) af (aZ _)) (@ag _ _ _ _ _ _ _ _ (@aA _ _ _ _ _ 2 _ _ nd rfl ↥3 (@cL _ _ _ _ _ _ _ rfl af (@a_ _ _ _ _ _ _ _ (¬0) af)) ∅ (by trivial)) (@aj _ _ _ _ _ (@aL _ _ _ _ _ (@aY _ _ _ _ _ _ _ _ _ _ _ _ _ _ _ Pn PY (hr.mono ⋯) ((@cL _ _ _ _ _ _ _ rfl af (@a_ _ _ _ _ _ _ _ (@j5 _ _ _ _ _ _ _ (¬0) af) (@xt _ _ _ _ _ _ _ (¬2) af)))∘((¬2)∘ac)) ∅ ⋯ ∅ ∅)))) (@aX _ _)) (@ag _ _ _ _ _ _ _ _ (@bU _ _ _ _ _ _ _ _ _ _ _ (@aV _ _ _ _ _ _ _ _ _ (@sQ _ _ _ rfl hr) (¬1) af (aZ _)) (@ag _ _ _ _ _ _ _ _ (@aA _ _ _ _ _ 2 _ _ nd rfl ↥3 (@cL _ _ _ _ _ _ _ rfl af (@a_ _ _ _ _ _ _ _ (¬0) af)) ∅ (by trivial)) (@aj _ _ _ _ _ (@aL _ _ _ _ _ (@aY _ _ _ _ _ _ _ _ _ _ _ _ _ _ _ Pn PY (hr.mono ⋯) ((@a_ _ _ _ _ _ _ _ (@j5 _ _ _ _ _ _ _ (¬0) af) (@cL _ _ _ _ _ _ _ rfl (¬2) af))∘((¬2)∘ac)) ∅ ⋯ ∅ ∅)))) (@aX _ _)) (@aj _ _ _ _ _ (@aL _ _ _ _ _ (@aT _ _ _ _ _ _ (af∘(af∘ac)))))))))
def zp:FS:=(bh (aB eE (cD (aa (aB a' (ae 0) (vC (.int 7))) (aa (aB cZ (vC (.int 5)) (aB a' (ae 0) (vC (.int 2)))) (aa (aB a' (ae 0) (vC (.int 1001))) (aa (aB kW (vC (.int 1000)) (aB a' (ae 0) (vC (.int 3)))) ai))))) (aB a' (ae 1) (vC (.int 4)))))
def m8:FM:=jd 2 0 [] zp
theorem xG:aC ["_law_number","_law_kind"] ["_law_number","_law_kind"] (am nM):=⟨rfl,rfl,rfl,by decide+kernel,rfl,by decide+kernel,by decide+kernel⟩
theorem De(h:fW K mg "_law_worth" nM f fd ["_law_number","_law_kind"])(T:cg mg):bg P w K mg base gy 1 f fd ["_law_number","_law_kind"] (iB K 2 m8):=by have nd:=xG.nd;exact h.fn xG rfl rfl (λcdv A outer s H E hr=>(@aj _ _ _ _ _ (@aL _ _ _ _ _ (@cc _ _ _ _ _ _ _ rfl (@bj _ _ _ _ _ ((@a_ _ _ _ _ _ _ _ (¬0) af)∘((@cL _ _ _ _ _ _ _ rfl af (@a_ _ _ _ _ _ _ _ (¬0) af))∘((@a_ _ _ _ _ _ _ _ (¬0) af)∘((@xt _ _ _ _ _ _ _ af (@a_ _ _ _ _ _ _ _ (¬0) af))∘ac))))) (@a_ _ _ _ _ _ _ _ (¬1) af) (λ_ _=>rfl)))))
def qZ:FI:=(cI (aa (ae 2) ai))
def jk:FS:=(ay (aW 8 (cf 1 a9 (aa (ae 0) ai))) (ay (aW 9 (aB eE (cD (aa (aB a' (ae 8) (ae 1)) (aa (vC (.int 0)) (aa (aB a' (ae 7) (ae 1)) (aa (aB a' (ae 8) (ae 1)) (aa (aB a' (ae 8) (vC (.int 2))) (aa (aB a' (ae 8) (ae 1)) ai))))))) (ae 3))) (ay (aW 10 (aB a' (aB cZ (aB cZ (ae 9) (vC (.int 1))) (aB a' (aB fF (ae 8) (vC (.int 12))) (aB kW (ae 1) (vC (.int 1))))) (ae 1))) (ay (ir (aF (aB (cN false) (ae 3) (vC (.int 4)))) (kB (bF (aa (vC (.int 0)) (aa (vC (.int 1)) ai))) (bV (aG (ah 9) (aG (ah 10) bN)))) bX) (ay (aW 11 (cf 1 a9 (aa (ae 0) ai))) (ay (aW 12 (bF (aa (aH (g2 CF) (aa (ae 9) (aa (ae 10) ai))) (aa (aH (g2 AL) (aa (ae 9) (aa (ae 10) ai))) ai)))) (cM (bz bi (ae 6) (aa (aB cZ (ae 12) (bF (aa (cf 2 fM (aa (ae 11) (aa (ae 4) ai))) (aa (cf 2 m8 (aa (aB fF (ae 11) (vC (.int 10007))) (aa (ae 5) ai))) ai)))) ai)))))))))
def B6:FS:=(ay (aW 3 (aB a' (cf 1 a9 (aa (ae 0) ai)) (vC (.int 6)))) (ay (aW 4 (aB a' (cf 1 a9 (aa (ae 0) ai)) (vC (.int 4)))) (ay (aW 5 (aB a' (cf 1 a9 (aa (ae 0) ai)) (vC (.int 4)))) (ay (aW 6 (cD ai)) (ay (cO ([7]++([8]++([9]++([10]++((([9]++([10]++[]))++[])++([11]++([12]++[]))))))) qZ (ah 7) jk) (bh (aH (g1 bI) (aa (ae 6) ai))))))))
def mw:FM:=jd 3 10 ([3]++([4]++([5]++([6]++(([7]++([8]++([9]++([10]++((([9]++([10]++[]))++[])++([11]++([12]++[])))))))++[]))))) B6
theorem zZ:aC ["_law_drawn","_law_things","_law_many","_law_shape","_law_odds","_law_worths","_law_found","_law_k","_law_number","_law_one","_law_other","_law_cell","_law_ends"] ["_law_drawn","_law_things","_law_many"] (am oK):=⟨rfl,rfl,rfl,by decide+kernel,rfl,by decide+kernel,by decide+kernel⟩
theorem Gg(h:fW K mg "_law_ties" oK f fd ["_law_drawn","_law_things","_law_many"])(T:cg mg)(zLnext:Cl P w K mg base "_law_next" iu ["_law_drawn"] 1 1 a9)(zLchance:Cl P w K mg base "_law_chance" lg ["_law_number","_law_kind"] 3 2 fM)(zLworth:Cl P w K mg base "_law_worth" nM ["_law_number","_law_kind"] 1 2 m8):bg P w K mg base gy 4 f fd ["_law_drawn","_law_things","_law_many"] (iB K 3 mw):=by obtain⟨OT,OU,N_,N'⟩:=zLnext;obtain⟨Qd,Qe,OE,Pv⟩:=zLchance;obtain⟨Qm,Qn,OX,PK⟩:=zLworth;have nd:=zZ.nd;exact h.fn zZ rfl rfl (λcdv A outer s H E hr=>(@ag _ _ _ _ _ _ _ _ (@aA _ _ _ _ _ 3 _ _ nd rfl ↥3 (@a_ _ _ _ _ _ _ _ (@aY _ _ _ _ _ _ _ _ _ _ _ _ _ _ _ N_ N' (hr.mono ⋯) ((¬0)∘ac) ∅ ⋯ ∅ ∅) af) ∅ (by trivial)) (@ag _ _ _ _ _ _ _ _ (@aA _ _ _ _ _ 4 _ _ nd rfl ↥3 (@a_ _ _ _ _ _ _ _ (@aY _ _ _ _ _ _ _ _ _ _ _ _ _ _ _ N_ N' (hr.mono ⋯) ((¬0)∘ac) ∅ ⋯ ∅ ∅) af) ∅ (by trivial)) (@ag _ _ _ _ _ _ _ _ (@aA _ _ _ _ _ 5 _ _ nd rfl ↥3 (@a_ _ _ _ _ _ _ _ (@aY _ _ _ _ _ _ _ _ _ _ _ _ _ _ _ N_ N' (hr.mono ⋯) ((¬0)∘ac) ∅ ⋯ ∅ ∅) af) ∅ (by trivial)) (@ag _ _ _ _ _ _ _ _ (@aA _ _ _ _ _ 6 _ _ nd rfl ↥3 (@bj _ _ _ _ _ ac) ∅ (by trivial)) (@ag _ _ _ _ _ _ _ _ (@el _ _ _ _ _ _ _ _ _ _ _ RX rfl (@cC _ _ _ _ _ _ _ rfl T.b_range ((¬2)∘ac) ∅) (@ax _ _ _ 7 _ nd rfl ↥3 (by trivial)) (@ag _ _ _ _ _ _ _ _ (@aA _ _ _ _ _ 8 _ _ nd rfl ↥3 (@aY _ _ _ _ _ _ _ _ _ _ _ _ _ _ _ N_ N' (hr.mono ⋯) ((¬0)∘ac) ∅ ⋯ ∅ ∅) ∅ (by trivial)) (@ag _ _ _ _ _ _ _ _ (@aA _ _ _ _ _ 9 _ _ nd rfl ↥3 (@cc _ _ _ _ _ _ _ rfl (@bj _ _ _ _ _ ((@a_ _ _ _ _ _ _ _ (¬8) (¬1))∘(af∘((@a_ _ _ _ _ _ _ _ (¬7) (¬1))∘((@a_ _ _ _ _ _ _ _ (¬8) (¬1))∘((@a_ _ _ _ _ _ _ _ (¬8) af)∘((@a_ _ _ _ _ _ _ _ (¬8) (¬1))∘ac))))))) (¬3) (λ_ _=>rfl)) ∅ (by trivial)) (@ag _ _ _ _ _ _ _ _ (@aA _ _ _ _ _ 10 _ _ nd rfl ↥3 (@a_ _ _ _ _ _ _ _ (@cL _ _ _ _ _ _ _ rfl (@cL _ _ _ _ _ _ _ rfl (¬9) af) (@a_ _ _ _ _ _ _ _ (@j5 _ _ _ _ _ _ _ (¬8) af) (@xt _ _ _ _ _ _ _ (¬1) af))) (¬1)) ∅ (by trivial)) (@ag _ _ _ _ _ _ _ _ (@bU _ _ _ _ _ _ _ _ _ _ _ (@aV _ _ _ _ _ _ _ _ _ (@sQ _ _ _ rfl hr) (¬3) af (aZ _)) (@aj _ _ _ _ _ (@mz _ _ _ _ _ _ _ _ (@aT _ _ _ _ _ _ (af∘(af∘ac))) (@ip _ _ _ _ _ _ _ _ rfl rfl (@aU _ _ _ _ _ _ _ _ (@ax _ _ _ 9 _ nd rfl ↥3 (by trivial)) (@aU _ _ _ _ _ _ _ _ (@ax _ _ _ 10 _ nd rfl ↥3 (by trivial)) (@eh _ _) ∅) ∅) (ba (ba hZ)) ∅ ∅) ∅ ∅ ∅)) (@aX _ _)) (@ag _ _ _ _ _ _ _ _ (@aA _ _ _ _ _ 11 _ _ nd rfl ↥3 (@aY _ _ _ _ _ _ _ _ _ _ _ _ _ _ _ N_ N' (hr.mono ⋯) ((¬0)∘ac) ∅ ⋯ ∅ ∅) ∅ (by trivial)) (@ag _ _ _ _ _ _ _ _ (@aA _ _ _ _ _ 12 _ _ nd rfl ↥3 (@aT _ _ _ _ _ _ ((@aP _ _ _ _ _ _ _ _ _ (@b_min _ _ rfl) ∅ T.b_min ((¬9)∘((¬10)∘ac)) ⋯ ⋯ ∅ ∅)∘((@aP _ _ _ _ _ _ _ _ _ (@b_max _ _ rfl) ∅ T.b_max ((¬9)∘((¬10)∘ac)) ⋯ ⋯ ∅ ∅)∘ac))) ∅ (by trivial)) (@aj _ _ _ _ _ (@cw _ _ _ _ _ (@cA _ _ _ _ _ _ _ _ _ rfl (¬6) ((@cL _ _ _ _ _ _ _ rfl (¬12) (@aT _ _ _ _ _ _ ((@aY _ _ _ _ _ _ _ _ _ _ _ _ _ _ _ OE Pv (hr.mono ⋯) ((¬11)∘((¬4)∘ac)) ∅ ⋯ ∅ ∅)∘((@aY _ _ _ _ _ _ _ _ _ _ _ _ _ _ _ OX PK (hr.mono ⋯) ((@j5 _ _ _ _ _ _ _ (¬11) af)∘((¬5)∘ac)) ∅ ⋯ ∅ ∅)∘ac))))∘ac) ∅ ∅ ∅ ∅ ∅) ∅)))))))) ↥5) (@aj _ _ _ _ _ (@aL _ _ _ _ _ (@aP _ _ _ _ _ _ _ _ _ (@b_tuple _ _ rfl) ∅ T.b_tuple ((¬6)∘ac) ⋯ ⋯ ∅ ∅)))))))))
def vx:FI:=(cI (aa (ae 3) ai))
def pR:FS:=(cM (bz bi (ae 7) (aa (aB eE (cD (aa (vC (.int 20)) (aa (aB cZ (vC (.int 1)) (aB a' (cf 1 a9 (aa (ae 0) ai)) (vC (.int 3)))) (aa (aB a' (cf 1 a9 (aa (ae 0) ai)) (vC (.int 21))) ai)))) (ae 6)) ai)))
def HM:FS:=(ay (aW 3 (aB a' (cf 1 a9 (aa (ae 0) ai)) (aB cZ (ae 1) (vC (.int 1))))) (ay (aW 4 (aB ja (aB a' (cf 1 a9 (aa (ae 0) ai)) (aB cZ (ae 2) (vC (.int 1)))) (aH (g1 wO) (aa (aB CD (ae 3) (vC (.int 1))) ai)))) (ay (aW 5 (cf 3 mw (aa (ae 0) (aa (aH (g2 AL) (aa (vC (.int 2)) (aa (ae 3) ai))) (aa (ae 4) ai))))) (ay (aW 6 (aB a' (cf 1 a9 (aa (ae 0) ai)) (vC (.int 3)))) (ay (aW 7 (cD ai)) (ay (cO ([8]++[]) vx (ah 8) pR) (ay (aW 9 (aB eE (cD (aa (vC (.int 40)) (aa (aB cZ (vC (.int 1)) (aB a' (cf 1 a9 (aa (ae 0) ai)) (aH (g2 AL) (aa (vC (.int 1)) (aa (ae 4) ai))))) (aa (aB a' (cf 1 a9 (aa (ae 0) ai)) (vC (.int 41))) ai)))) (aB a' (cf 1 a9 (aa (ae 0) ai)) (vC (.int 3))))) (bh (bF (aa (ae 3) (aa (ae 5) (aa (aH (g1 bI) (aa (ae 7) ai)) (aa (ae 9) ai)))))))))))))
def w_:FM:=jd 3 7 ([3]++([4]++([5]++([6]++([7]++(([8]++[])++([9]++[]))))))) HM
theorem Ez:aC ["_law_drawn","_law_most","_law_ties_here","_law_things","_law_many","_law_rows","_law_way","_law_patience","_law_k","_law_asks"] ["_law_drawn","_law_most","_law_ties_here"] (am xC):=⟨rfl,rfl,rfl,by decide+kernel,rfl,by decide+kernel,by decide+kernel⟩
theorem Ju(h:fW K mg "_law_web" xC f fd ["_law_drawn","_law_most","_law_ties_here"])(T:cg mg)(zLties:Cl P w K mg base "_law_ties" oK ["_law_drawn","_law_things","_law_many"] 4 3 mw)(zLnext:Cl P w K mg base "_law_next" iu ["_law_drawn"] 1 1 a9):bg P w K mg base gy 5 f fd ["_law_drawn","_law_most","_law_ties_here"] (iB K 3 w_):=by obtain⟨PZ,P0,OV,Po⟩:=zLties;obtain⟨OT,OU,N_,N'⟩:=zLnext;have nd:=Ez.nd;exact h.fn Ez rfl rfl (λcdv A outer s H E hr=>(@ag _ _ _ _ _ _ _ _ (@aA _ _ _ _ _ 3 _ _ nd rfl ↥3 (@a_ _ _ _ _ _ _ _ (@aY _ _ _ _ _ _ _ _ _ _ _ _ _ _ _ N_ N' (hr.mono ⋯) ((¬0)∘ac) ∅ ⋯ ∅ ∅) (@cL _ _ _ _ _ _ _ rfl (¬1) af)) ∅ (by trivial)) (@ag _ _ _ _ _ _ _ _ (@aA _ _ _ _ _ 4 _ _ nd rfl ↥3 (@nA _ _ _ _ _ _ _ rfl (@a_ _ _ _ _ _ _ _ (@aY _ _ _ _ _ _ _ _ _ _ _ _ _ _ _ N_ N' (hr.mono ⋯) ((¬0)∘ac) ∅ ⋯ ∅ ∅) (@cL _ _ _ _ _ _ _ rfl (¬2) af)) (@aP _ _ _ _ _ _ _ _ _ (@b_int _ _) ∅ T.b_int ((@rQ _ _ _ _ _ _ _ _ _ (@ya _ _) (¬3) af (aZ _))∘ac) ⋯ ⋯ ∅ ∅)) ∅ (by trivial)) (@ag _ _ _ _ _ _ _ _ (@aA _ _ _ _ _ 5 _ _ nd rfl ↥3 (@aY _ _ _ _ _ _ _ _ _ _ _ _ _ _ _ OV Po (hr.mono ⋯) ((¬0)∘((@aP _ _ _ _ _ _ _ _ _ (@b_max _ _ rfl) ∅ T.b_max (af∘((¬3)∘ac)) ⋯ ⋯ ∅ ∅)∘((¬4)∘ac))) ∅ ⋯ ∅ ∅) ∅ (by trivial)) (@ag _ _ _ _ _ _ _ _ (@aA _ _ _ _ _ 6 _ _ nd rfl ↥3 (@a_ _ _ _ _ _ _ _ (@aY _ _ _ _ _ _ _ _ _ _ _ _ _ _ _ N_ N' (hr.mono ⋯) ((¬0)∘ac) ∅ ⋯ ∅ ∅) af) ∅ (by trivial)) (@ag _ _ _ _ _ _ _ _ (@aA _ _ _ _ _ 7 _ _ nd rfl ↥3 (@bj _ _ _ _ _ ac) ∅ (by trivial)) (@ag _ _ _ _ _ _ _ _ (@el _ _ _ _ _ _ _ _ _ _ _ RX rfl (@cC _ _ _ _ _ _ _ rfl T.b_range ((¬3)∘ac) ∅) (@ax _ _ _ 8 _ nd rfl ↥3 (by trivial)) (@aj _ _ _ _ _ (@cw _ _ _ _ _ (@cA _ _ _ _ _ _ _ _ _ rfl (¬7) ((@cc _ _ _ _ _ _ _ rfl (@bj _ _ _ _ _ (af∘((@cL _ _ _ _ _ _ _ rfl af (@a_ _ _ _ _ _ _ _ (@aY _ _ _ _ _ _ _ _ _ _ _ _ _ _ _ N_ N' (hr.mono ⋯) ((¬0)∘ac) ∅ ⋯ ∅ ∅) af))∘((@a_ _ _ _ _ _ _ _ (@aY _ _ _ _ _ _ _ _ _ _ _ _ _ _ _ N_ N' (hr.mono ⋯) ((¬0)∘ac) ∅ ⋯ ∅ ∅) af)∘ac)))) (¬6) (λ_ _=>rfl))∘ac) ∅ ∅ ∅ ∅ ∅) ∅)) ↥5) (@ag _ _ _ _ _ _ _ _ (@aA _ _ _ _ _ 9 _ _ nd rfl ↥3 (@cc _ _ _ _ _ _ _ rfl (@bj _ _ _ _ _ (af∘((@cL _ _ _ _ _ _ _ rfl af (@a_ _ _ _ _ _ _ _ (@aY _ _ _ _ _ _ _ _ _ _ _ _ _ _ _ N_ N' (hr.mono ⋯) ((¬0)∘ac) ∅ ⋯ ∅ ∅) (@aP _ _ _ _ _ _ _ _ _ (@b_max _ _ rfl) ∅ T.b_max (af∘((¬4)∘ac)) ⋯ ⋯ ∅ ∅)))∘((@a_ _ _ _ _ _ _ _ (@aY _ _ _ _ _ _ _ _ _ _ _ _ _ _ _ N_ N' (hr.mono ⋯) ((¬0)∘ac) ∅ ⋯ ∅ ∅) af)∘ac)))) (@a_ _ _ _ _ _ _ _ (@aY _ _ _ _ _ _ _ _ _ _ _ _ _ _ _ N_ N' (hr.mono ⋯) ((¬0)∘ac) ∅ ⋯ ∅ ∅) af) (λ_ _=>rfl)) ∅ (by trivial)) (@aj _ _ _ _ _ (@aL _ _ _ _ _ (@aT _ _ _ _ _ _ ((¬3)∘((¬5)∘((@aP _ _ _ _ _ _ _ _ _ (@b_tuple _ _ rfl) ∅ T.b_tuple ((¬7)∘ac) ⋯ ⋯ ∅ ∅)∘((¬9)∘ac)))))))))))))))
def o6:FI:=(iJ (ae 1))
def fj:FT:=(aF (aB (AK false) (ae 0) (wd (aB eE (aB eE (ae 1) (vC (.int 1))) (ae 2)) gw (fQ (vC (.int 2))))))
def fx:FE:=(ae 2)
def tG:FS:=(bh (aH (g1 ee) (aa (dk [(2,"_law_thing"),(0,"_law_web_here")] 1 o6 (ah 2) fj fx) ai)))
def gL:FM:=jd 3 0 [] tG
theorem sa:aC ["_law_web_here","_law_asked","_law_thing"] ["_law_web_here","_law_asked","_law_thing"] (am jz):=⟨rfl,rfl,rfl,by decide+kernel,rfl,by decide+kernel,by decide+kernel⟩
theorem yD(h:fW K mg "_law_asks_of" jz f fd ["_law_web_here","_law_asked","_law_thing"])(T:cg mg):bg P w K mg base gy 1 f fd ["_law_web_here","_law_asked","_law_thing"] (iB K 3 gL):=by have nd:=sa.nd;exact h.fn sa rfl rfl (λcdv A outer s H E hr=>(@aj _ _ _ _ _ (@aL _ _ _ _ _ (@aP _ _ _ _ _ _ _ _ _ (@b_len _ _ rfl) ∅ T.b_len ((@ny _ _ _ _ _ _ _ _ _ _ _ _ _ [(2,"_law_thing"),(0,"_law_web_here")] ["_law_tie"] rfl rfl (@ej _ _ _ _ _ rfl (¬1)) (λC s0 H0 fp=>(@ax _ _ _ 2 _ (show Uo (["_law_thing","_law_web_here","_law_tie"]:List Str) by decide+kernel) rfl ↥3 (by trivial))) (λC s0 H0 fp=>(@pZ _ _ _ _ (@aV _ _ _ _ _ _ _ _ _ (@Ca _ _ _ rfl hr) (¬0) (@iV _ _ _ _ _ _ _ _ _ _ rfl (@cc _ _ _ _ _ _ _ rfl (@cc _ _ _ _ _ _ _ rfl (¬1) af (λ_ _=>rfl)) (¬2) (λ_ _=>rfl)) (@iX _ _) (@iY _ _ _ _ af)) (by with_unfolding_all rfl)))) (λC s0 H0 fp=>(¬2)) rfl ∅ ↥5)∘ac) ⋯ ⋯ ∅ ∅))))
def zC:FI:=(iJ (wd (aB eE (aB eE (ae 0) (vC (.int 1))) (ae 2)) gw (fQ (vC (.int 2)))))
def jM:FS:=(ir (sN (aF (aB (AK false) (ae 5) (ae 4))) (aF (aB FH (cf 3 gL (aa (ae 0) (aa (ae 3) (aa (ae 5) ai)))) (aB eE (aB eE (ae 0) (vC (.int 2))) (ae 5))))) (bh (vC (.bool false))) bX)
def tH:FS:=(ay (kB (ae 1) (bV (aG (ah 3) (aG (ah 4) bN)))) (ay (ir (sN (aF (aB (AK false) (ae 2) (ae 3))) (aF (aB FH (aH (g1 ee) (aa (ae 3) ai)) (aB eE (ae 0) (vC (.int 3)))))) (bh (vC (.bool false))) bX) (ay (cO ([5]++([]++[])) zC (ah 5) jM) (bh (vC (.bool true))))))
def k8:FM:=jd 3 3 (([3]++([4]++[]))++(([]++[])++(([5]++([]++[]))++[]))) tH
theorem Ey:aC ["_law_web_here","_law_stand","_law_tie","_law_asked","_law_taken","_law_thing"] ["_law_web_here","_law_stand","_law_tie"] (am ut):=⟨rfl,rfl,rfl,by decide+kernel,rfl,by decide+kernel,by decide+kernel⟩
theorem Jt(h:fW K mg "_law_may" ut f fd ["_law_web_here","_law_stand","_law_tie"])(T:cg mg)(zLasks_of:Cl P w K mg base "_law_asks_of" jz ["_law_web_here","_law_asked","_law_thing"] 1 3 gL):bg P w K mg base gy 2 f fd ["_law_web_here","_law_stand","_law_tie"] (iB K 3 k8):=by obtain⟨P3,P4,Oy,Pp⟩:=zLasks_of;have nd:=Ey.nd;exact h.fn Ey rfl rfl (λcdv A outer s H E hr=>(@ag _ _ _ _ _ _ _ _ (@mz _ _ _ _ _ _ _ _ (¬1) (@ip _ _ _ _ _ _ _ _ rfl rfl (@aU _ _ _ _ _ _ _ _ (@ax _ _ _ 3 _ nd rfl ↥3 (by trivial)) (@aU _ _ _ _ _ _ _ _ (@ax _ _ _ 4 _ nd rfl ↥3 (by trivial)) (@eh _ _) ∅) ∅) (ba (ba hZ)) ∅ ∅) ∅ ∅ ∅) (@ag _ _ _ _ _ _ _ _ (@bU _ _ _ _ _ _ _ _ _ _ _ (@rS _ _ _ _ (@kl _ _ _ _ _ _ _ _ (@aV _ _ _ _ _ _ _ _ _ (@Ca _ _ _ rfl hr) (¬2) (¬3) (by with_unfolding_all rfl)) (@j6 _ _ _ _ _ (@aV _ _ _ _ _ _ _ _ _ (@Av _ _) (@aP _ _ _ _ _ _ _ _ _ (@b_len _ _ rfl) ∅ T.b_len ((¬3)∘ac) ⋯ ⋯ ∅ ∅) (@cc _ _ _ _ _ _ _ rfl (¬0) af (λ_ _=>rfl)) (aZ _))))) (@aj _ _ _ _ _ (@aL _ _ _ _ _ (@di _ _ _ _ _))) (@aX _ _)) (@ag _ _ _ _ _ _ _ _ (@el _ _ _ _ _ _ _ _ _ _ _ RX rfl (@ej _ _ _ _ _ rfl (@iV _ _ _ _ _ _ _ _ _ _ rfl (@cc _ _ _ _ _ _ _ rfl (@cc _ _ _ _ _ _ _ rfl (¬0) af (λ_ _=>rfl)) (¬2) (λ_ _=>rfl)) (@iX _ _) (@iY _ _ _ _ af))) (@ax _ _ _ 5 _ nd rfl ↥3 (by trivial)) (@aj _ _ _ _ _ (@bU _ _ _ _ _ _ _ _ _ _ _ (@rS _ _ _ _ (@kl _ _ _ _ _ _ _ _ (@aV _ _ _ _ _ _ _ _ _ (@Ca _ _ _ rfl hr) (¬5) (¬4) (by with_unfolding_all rfl)) (@j6 _ _ _ _ _ (@aV _ _ _ _ _ _ _ _ _ (@Av _ _) (@aY _ _ _ _ _ _ _ _ _ _ _ _ _ _ _ Oy Pp (hr.mono ⋯) ((¬0)∘((¬3)∘((¬5)∘ac))) ∅ ⋯ ∅ ∅) (@cc _ _ _ _ _ _ _ rfl (@cc _ _ _ _ _ _ _ rfl (¬0) af (λ_ _=>rfl)) (¬5) (λ_ _=>rfl)) (aZ _))))) (@aj _ _ _ _ _ (@aL _ _ _ _ _ (@di _ _ _ _ _))) (@aX _ _))) ↥5) (@aj _ _ _ _ _ (@aL _ _ _ _ _ (@di _ _ _ _ _)))))))
def qp:FS:=(ay (kB (ae 1) (bV (aG (ah 4) (aG (ah 5) bN)))) (ay (aW 6 (ae 5)) (ay (ir (aF (ae 3)) (aW 6 (aH (g1 bI) (aa (aH (g1 eP) (aa (aB cZ (ae 5) (wd (aB eE (aB eE (ae 0) (vC (.int 1))) (ae 2)) gw (fQ (vC (.int 2))))) ai)) ai))) bX) (bh (bF (aa (aH (g1 bI) (aa (aH (g1 eP) (aa (aB cZ (ae 4) (bF (aa (ae 2) ai))) ai)) ai)) (aa (ae 6) ai)))))))
def eg:FM:=jd 4 3 (([4]++([5]++[]))++([6]++(([6]++[])++[]))) qp
theorem uv:aC ["_law_web_here","_law_stand","_law_tie","_law_truth","_law_asked","_law_taken","_law_more"] ["_law_web_here","_law_stand","_law_tie","_law_truth"] (am jA):=⟨rfl,rfl,rfl,by decide+kernel,rfl,by decide+kernel,by decide+kernel⟩
theorem Bf(h:fW K mg "_law_behind" jA f fd ["_law_web_here","_law_stand","_law_tie","_law_truth"])(T:cg mg):bg P w K mg base gy 1 f fd ["_law_web_here","_law_stand","_law_tie","_law_truth"] (iB K 4 eg):=by have nd:=uv.nd;exact h.fn uv rfl rfl (λcdv A outer s H E hr=>(@ag _ _ _ _ _ _ _ _ (@mz _ _ _ _ _ _ _ _ (¬1) (@ip _ _ _ _ _ _ _ _ rfl rfl (@aU _ _ _ _ _ _ _ _ (@ax _ _ _ 4 _ nd rfl ↥3 (by trivial)) (@aU _ _ _ _ _ _ _ _ (@ax _ _ _ 5 _ nd rfl ↥3 (by trivial)) (@eh _ _) ∅) ∅) (ba (ba hZ)) ∅ ∅) ∅ ∅ ∅) (@ag _ _ _ _ _ _ _ _ (@aA _ _ _ _ _ 6 _ _ nd rfl ↥3 (¬5) ∅ (by trivial)) (@ag _ _ _ _ _ _ _ _ (@bU _ _ _ _ _ _ _ _ _ _ _ (@dq _ _ _ _ (¬3) ↥5) (@aj _ _ _ _ _ (@aA _ _ _ _ _ 6 _ _ nd rfl ↥3 (@aP _ _ _ _ _ _ _ _ _ (@b_tuple _ _ rfl) ∅ T.b_tuple ((@aP _ _ _ _ _ _ _ _ _ (@b_sorted _ _ rfl) ∅ T.b_sorted ((@cL _ _ _ _ _ _ _ rfl (¬5) (@iV _ _ _ _ _ _ _ _ _ _ rfl (@cc _ _ _ _ _ _ _ rfl (@cc _ _ _ _ _ _ _ rfl (¬0) af (λ_ _=>rfl)) (¬2) (λ_ _=>rfl)) (@iX _ _) (@iY _ _ _ _ af)))∘ac) ⋯ ⋯ ∅ ∅)∘ac) ⋯ ⋯ ∅ ∅) ∅ (by trivial))) (@aX _ _)) (@aj _ _ _ _ _ (@aL _ _ _ _ _ (@aT _ _ _ _ _ _ ((@aP _ _ _ _ _ _ _ _ _ (@b_tuple _ _ rfl) ∅ T.b_tuple ((@aP _ _ _ _ _ _ _ _ _ (@b_sorted _ _ rfl) ∅ T.b_sorted ((@cL _ _ _ _ _ _ _ rfl (¬4) (@aT _ _ _ _ _ _ ((¬2)∘ac)))∘ac) ⋯ ⋯ ∅ ∅)∘ac) ⋯ ⋯ ∅ ∅)∘((¬6)∘ac)))))))))
def oo:FI:=(cI (aa (aB a' (cf 1 a9 (aa (ae 0) ai)) (aB cZ (ae 2) (vC (.int 1)))) ai))
def gH:FS:=(ir (aF (aB (cN true) (ae 3) (cD ai))) (cM (bz bi (ae 4) (aa (bz eS (ae 3) (aa (aB a' (cf 1 a9 (aa (ae 0) ai)) (aH (g1 ee) (aa (ae 3) ai))) ai)) ai))) bX)
def zo:FS:=(ay (aW 3 (i5 (aa (aH (g1 ee) (aa (aB eE (ae 1) (vC (.int 1))) ai)) ai))) (ay (aW 4 (cD ai)) (ay (cO ([5]++([]++[])) oo (ah 5) gH) (bh (aH (g1 bI) (aa (ae 4) ai))))))
def m7:FM:=jd 3 3 ([3]++([4]++(([5]++([]++[]))++[]))) zo
theorem xF:aC ["_law_drawn","_law_web_here","_law_most","_law_left","_law_found","_law_k"] ["_law_drawn","_law_web_here","_law_most"] (am nL):=⟨rfl,rfl,rfl,by decide+kernel,rfl,by decide+kernel,by decide+kernel⟩
theorem Dd(h:fW K mg "_law_order" nL f fd ["_law_drawn","_law_web_here","_law_most"])(T:cg mg)(zLnext:Cl P w K mg base "_law_next" iu ["_law_drawn"] 1 1 a9):bg P w K mg base gy 2 f fd ["_law_drawn","_law_web_here","_law_most"] (iB K 3 m7):=by obtain⟨OT,OU,N_,N'⟩:=zLnext;have nd:=xF.nd;exact h.fn xF rfl rfl (λcdv A outer s H E hr=>(@ag _ _ _ _ _ _ _ _ (@aA _ _ _ _ _ 3 _ _ nd rfl ↥3 (@ph _ _ _ _ _ _ _ _ rfl rfl T.b_list rfl T.b_range ((@aP _ _ _ _ _ _ _ _ _ (@b_len _ _ rfl) ∅ T.b_len ((@cc _ _ _ _ _ _ _ rfl (¬1) af (λ_ _=>rfl))∘ac) ⋯ ⋯ ∅ ∅)∘ac) ∅ ∅) ∅ (by trivial)) (@ag _ _ _ _ _ _ _ _ (@aA _ _ _ _ _ 4 _ _ nd rfl ↥3 (@bj _ _ _ _ _ ac) ∅ (by trivial)) (@ag _ _ _ _ _ _ _ _ (@el _ _ _ _ _ _ _ _ _ _ _ RX rfl (@cC _ _ _ _ _ _ _ rfl T.b_range ((@a_ _ _ _ _ _ _ _ (@aY _ _ _ _ _ _ _ _ _ _ _ _ _ _ _ N_ N' (hr.mono ⋯) ((¬0)∘ac) ∅ ⋯ ∅ ∅) (@cL _ _ _ _ _ _ _ rfl (¬2) af))∘ac) ∅) (@ax _ _ _ 5 _ nd rfl ↥3 (by trivial)) (@aj _ _ _ _ _ (@bU _ _ _ _ _ _ _ _ _ _ _ (@aV _ _ _ _ _ _ _ _ _ (@Aw _ _ _ rfl hr) (¬3) (@bj _ _ _ _ _ ac) (aZ _)) (@aj _ _ _ _ _ (@cw _ _ _ _ _ (@cA _ _ _ _ _ _ _ _ _ rfl (¬4) ((@vO _ _ _ _ _ _ _ _ _ rfl (¬3) ((@a_ _ _ _ _ _ _ _ (@aY _ _ _ _ _ _ _ _ _ _ _ _ _ _ _ N_ N' (hr.mono ⋯) ((¬0)∘ac) ∅ ⋯ ∅ ∅) (@aP _ _ _ _ _ _ _ _ _ (@b_len _ _ rfl) ∅ T.b_len ((¬3)∘ac) ⋯ ⋯ ∅ ∅))∘ac) ∅ ∅ ∅ ∅ ∅)∘ac) ∅ ∅ ∅ ∅ ∅) ∅)) (@aX _ _))) ↥5) (@aj _ _ _ _ _ (@aL _ _ _ _ _ (@aP _ _ _ _ _ _ _ _ _ (@b_tuple _ _ rfl) ∅ T.b_tuple ((¬4)∘ac) ⋯ ⋯ ∅ ∅)))))))
def kX:FI:=(cI (aa (ae 1) ai))
def e_:FS:=(ay (ir (aF (aB (cN false) (aB a' (ae 4) (vC (.int 16))) (vC (.int 0)))) (aW 3 (cf 1 a9 (aa (ae 0) ai))) bX) (cM (bz bi (ae 2) (aa (aB (cN false) (aB a' (aB fF (ae 3) (aB FL (vC (.int 1)) (aB a' (ae 4) (vC (.int 16))))) (vC (.int 2))) (vC (.int 1))) ai))))
def tF:FS:=(ay (aW 2 (cD ai)) (ay (aW 3 (vC (.int 0))) (ay (cO ([4]++(([3]++[])++[])) kX (ah 4) e_) (bh (aH (g1 bI) (aa (ae 2) ai))))))
def jq:FM:=jd 2 3 ([2]++([3]++(([4]++(([3]++[])++[]))++[]))) tF
theorem r_:aC ["_law_drawn","_law_many","_law_found","_law_number","_law_k"] ["_law_drawn","_law_many"] (am jy):=⟨rfl,rfl,rfl,by decide+kernel,rfl,by decide+kernel,by decide+kernel⟩
theorem yC(h:fW K mg "_law_answers" jy f fd ["_law_drawn","_law_many"])(T:cg mg)(zLnext:Cl P w K mg base "_law_next" iu ["_law_drawn"] 1 1 a9):bg P w K mg base gy 2 f fd ["_law_drawn","_law_many"] (iB K 2 jq):=by obtain⟨OT,OU,N_,N'⟩:=zLnext;have nd:=r_.nd;exact h.fn r_ rfl rfl (λcdv A outer s H E hr=>(@ag _ _ _ _ _ _ _ _ (@aA _ _ _ _ _ 2 _ _ nd rfl ↥3 (@bj _ _ _ _ _ ac) ∅ (by trivial)) (@ag _ _ _ _ _ _ _ _ (@aA _ _ _ _ _ 3 _ _ nd rfl ↥3 af ∅ (by trivial)) (@ag _ _ _ _ _ _ _ _ (@el _ _ _ _ _ _ _ _ _ _ _ RX rfl (@cC _ _ _ _ _ _ _ rfl T.b_range ((¬1)∘ac) ∅) (@ax _ _ _ 4 _ nd rfl ↥3 (by trivial)) (@ag _ _ _ _ _ _ _ _ (@bU _ _ _ _ _ _ _ _ _ _ _ (@aV _ _ _ _ _ _ _ _ _ (@sQ _ _ _ rfl hr) (@a_ _ _ _ _ _ _ _ (¬4) af) af (aZ _)) (@aj _ _ _ _ _ (@aA _ _ _ _ _ 3 _ _ nd rfl ↥3 (@aY _ _ _ _ _ _ _ _ _ _ _ _ _ _ _ N_ N' (hr.mono ⋯) ((¬0)∘ac) ∅ ⋯ ∅ ∅) ∅ (by trivial))) (@aX _ _)) (@aj _ _ _ _ _ (@cw _ _ _ _ _ (@cA _ _ _ _ _ _ _ _ _ rfl (¬2) ((@rQ _ _ _ _ _ _ _ _ _ (@sQ _ _ _ rfl hr) (@a_ _ _ _ _ _ _ _ (@j5 _ _ _ _ _ _ _ (¬3) (@LS _ _ _ _ _ _ _ af (@a_ _ _ _ _ _ _ _ (¬4) af))) af) af (aZ _))∘ac) ∅ ∅ ∅ ∅ ∅) ∅))) ↥5) (@aj _ _ _ _ _ (@aL _ _ _ _ _ (@aP _ _ _ _ _ _ _ _ _ (@b_tuple _ _ rfl) ∅ T.b_tuple ((¬2)∘ac) ⋯ ⋯ ∅ ∅)))))))
def lV:FI:=(iJ (ae 1))
def dw:FS:=(ir (aF (cf 3 k8 (aa (ae 0) (aa (ae 3) (aa (ae 5) ai))))) (ay (cM (bz bi (ae 4) (aa (bF (aa (ae 5) (aa (aB eE (ae 2) (ae 5)) ai))) ai))) (aW 3 (cf 4 eg (aa (ae 0) (aa (ae 3) (aa (ae 5) (aa (aB eE (ae 2) (ae 5)) ai))))))) bX)
def oR:FS:=(ay (aW 3 (bF (aa (bF ai) (aa (bF ai) ai)))) (ay (aW 4 (cD ai)) (ay (cO ([5]++(([]++[3])++[])) lV (ah 5) dw) (bh (aH (g1 bI) (aa (ae 4) ai))))))
def fN:FM:=jd 3 3 ([3]++([4]++(([5]++(([]++[3])++[]))++[]))) oR
theorem nP:aC ["_law_web_here","_law_order_here","_law_answers_here","_law_stand","_law_run","_law_tie"] ["_law_web_here","_law_order_here","_law_answers_here"] (am fU):=⟨rfl,rfl,rfl,by decide+kernel,rfl,by decide+kernel,by decide+kernel⟩
theorem vI(h:fW K mg "_law_run_order" fU f fd ["_law_web_here","_law_order_here","_law_answers_here"])(T:cg mg)(zLmay:Cl P w K mg base "_law_may" ut ["_law_web_here","_law_stand","_law_tie"] 2 3 k8)(zLbehind:Cl P w K mg base "_law_behind" jA ["_law_web_here","_law_stand","_law_tie","_law_truth"] 1 4 eg):bg P w K mg base gy 3 f fd ["_law_web_here","_law_order_here","_law_answers_here"] (iB K 3 fN):=by obtain⟨Qo,Qp,Pe,PL⟩:=zLmay;obtain⟨Pw,Px,Ov,OY⟩:=zLbehind;have nd:=nP.nd;exact h.fn nP rfl rfl (λcdv A outer s H E hr=>(@ag _ _ _ _ _ _ _ _ (@aA _ _ _ _ _ 3 _ _ nd rfl ↥3 (@aT _ _ _ _ _ _ ((@aT _ _ _ _ _ _ ac)∘((@aT _ _ _ _ _ _ ac)∘ac))) ∅ (by trivial)) (@ag _ _ _ _ _ _ _ _ (@aA _ _ _ _ _ 4 _ _ nd rfl ↥3 (@bj _ _ _ _ _ ac) ∅ (by trivial)) (@ag _ _ _ _ _ _ _ _ (@el _ _ _ _ _ _ _ _ _ _ _ RX rfl (@ej _ _ _ _ _ rfl (¬1)) (@ax _ _ _ 5 _ nd rfl ↥3 (by trivial)) (@aj _ _ _ _ _ (@bU _ _ _ _ _ _ _ _ _ _ _ (@dq _ _ _ _ (@aY _ _ _ _ _ _ _ _ _ _ _ _ _ _ _ Pe PL (hr.mono ⋯) ((¬0)∘((¬3)∘((¬5)∘ac))) ∅ ⋯ ∅ ∅) ↥5) (@ag _ _ _ _ _ _ _ _ (@cw _ _ _ _ _ (@cA _ _ _ _ _ _ _ _ _ rfl (¬4) ((@aT _ _ _ _ _ _ ((¬5)∘((@cc _ _ _ _ _ _ _ rfl (¬2) (¬5) (λ_ _=>rfl))∘ac)))∘ac) ∅ ∅ ∅ ∅ ∅) ∅) (@aj _ _ _ _ _ (@aA _ _ _ _ _ 3 _ _ nd rfl ↥3 (@aY _ _ _ _ _ _ _ _ _ _ _ _ _ _ _ Ov OY (hr.mono ⋯) ((¬0)∘((¬3)∘((¬5)∘((@cc _ _ _ _ _ _ _ rfl (¬2) (¬5) (λ_ _=>rfl))∘ac)))) ∅ ⋯ ∅ ∅) ∅ (by trivial)))) (@aX _ _))) ↥5) (@aj _ _ _ _ _ (@aL _ _ _ _ _ (@aP _ _ _ _ _ _ _ _ _ (@b_tuple _ _ rfl) ∅ T.b_tuple ((¬4)∘ac) ⋯ ⋯ ∅ ∅)))))))
def d9:FT:=(aF (aB FH (ae 3) (vC (.int 0))))
def gD:FS:=(ay (kB (aB eE (ae 0) (ae 3)) (bV (aG (ah 4) (aG (ah 5) (aG (ah 6) bN))))) (ay (cM (bz bi (ae 2) (aa (bF (aa (ae 4) (aa (aB eE (ae 1) (ae 4)) ai))) ai))) (aW 3 (aB eE (cD (aa (ae 6) (aa (ae 5) ai))) (aH (g1 wO) (aa (aB eE (ae 1) (ae 4)) ai))))))
def qq:FS:=(ay (aW 2 (cD ai)) (ay (aW 3 (aB cZ (s_ AM (vC (.int 1))) (aH (g1 wO) (aa (aB CD (aH (g1 ee) (aa (ae 0) ai)) (vC (.int 0))) ai)))) (ay (iz (2^4200) d9 gD) (bh (aH (g1 bI) (aa (ae 2) ai))))))
def ic:FM:=jd 2 5 ([2]++([3]++((([4]++([5]++([6]++[])))++([]++[3]))++[]))) qq
theorem pz:aC ["_law_tree","_law_answers_here","_law_run","_law_at","_law_tie","_law_yes","_law_no"] ["_law_tree","_law_answers_here"] (am iy):=⟨rfl,rfl,rfl,by decide+kernel,rfl,by decide+kernel,by decide+kernel⟩
theorem xi(h:fW K mg "_law_run_tree" iy f fd ["_law_tree","_law_answers_here"])(T:cg mg):bg P w K mg base gy 1 f fd ["_law_tree","_law_answers_here"] (iB K 2 ic):=by have nd:=pz.nd;exact h.fn pz rfl rfl (λcdv A outer s H E hr=>(@ag _ _ _ _ _ _ _ _ (@aA _ _ _ _ _ 2 _ _ nd rfl ↥3 (@bj _ _ _ _ _ ac) ∅ (by trivial)) (@ag _ _ _ _ _ _ _ _ (@aA _ _ _ _ _ 3 _ _ nd rfl ↥3 (@cL _ _ _ _ _ _ _ rfl (@Ih _ _ _ _ _ af) (@aP _ _ _ _ _ _ _ _ _ (@b_int _ _) ∅ T.b_int ((@rQ _ _ _ _ _ _ _ _ _ (@ya _ _) (@aP _ _ _ _ _ _ _ _ _ (@b_len _ _ rfl) ∅ T.b_len ((¬0)∘ac) ⋯ ⋯ ∅ ∅) af (aZ _))∘ac) ⋯ ⋯ ∅ ∅)) ∅ (by trivial)) (@ag _ _ _ _ _ _ _ _ (@lc _ _ _ _ _ _ _ _ _ RX (@aV _ _ _ _ _ _ _ _ _ (@Av _ _) (¬3) af (aZ _)) (@ag _ _ _ _ _ _ _ _ (@mz _ _ _ _ _ _ _ _ (@cc _ _ _ _ _ _ _ rfl (¬0) (¬3) (λ_ _=>rfl)) (@ip _ _ _ _ _ _ _ _ rfl rfl (@aU _ _ _ _ _ _ _ _ (@ax _ _ _ 4 _ nd rfl ↥3 (by trivial)) (@aU _ _ _ _ _ _ _ _ (@ax _ _ _ 5 _ nd rfl ↥3 (by trivial)) (@aU _ _ _ _ _ _ _ _ (@ax _ _ _ 6 _ nd rfl ↥3 (by trivial)) (@eh _ _) ∅) ∅) ∅) (ba (ba (ba hZ))) ∅ ∅) ∅ ∅ ∅) (@ag _ _ _ _ _ _ _ _ (@cw _ _ _ _ _ (@cA _ _ _ _ _ _ _ _ _ rfl (¬2) ((@aT _ _ _ _ _ _ ((¬4)∘((@cc _ _ _ _ _ _ _ rfl (¬1) (¬4) (λ_ _=>rfl))∘ac)))∘ac) ∅ ∅ ∅ ∅ ∅) ∅) (@aj _ _ _ _ _ (@aA _ _ _ _ _ 3 _ _ nd rfl ↥3 (@cc _ _ _ _ _ _ _ rfl (@bj _ _ _ _ _ ((¬6)∘((¬5)∘ac))) (@aP _ _ _ _ _ _ _ _ _ (@b_int _ _) ∅ T.b_int ((@cc _ _ _ _ _ _ _ rfl (¬1) (¬4) (λ_ _=>rfl))∘ac) ⋯ ⋯ ∅ ∅) (λ_ _=>rfl)) ∅ (by trivial)))))) (@aj _ _ _ _ _ (@aL _ _ _ _ _ (@aP _ _ _ _ _ _ _ _ _ (@b_tuple _ _ rfl) ∅ T.b_tuple ((¬2)∘ac) ⋯ ⋯ ∅ ∅)))))))
def cQ:FT:=(pM (aF (aB (cN true) (ae 3) (cD ai))) (aF (aB HX (aH (g1 ee) (aa (ae 4) ai)) (ae 2))))
def mO:FS:=(cM (bz bi (ae 4) (aa (bz eS (ae 3) (aa (aB a' (cf 1 a9 (aa (ae 0) ai)) (aH (g1 ee) (aa (ae 3) ai))) ai)) ai)))
def B4:FS:=(ay (aW 3 (i5 (aa (aH (g1 ee) (aa (aB eE (ae 1) (vC (.int 1))) ai)) ai))) (ay (aW 4 (cD ai)) (ay (iz (2^4200) cQ mO) (bh (aH (g1 bI) (aa (ae 4) ai))))))
def rB:FM:=jd 3 2 ([3]++([4]++([]++[]))) B4
theorem zW:aC ["_law_drawn","_law_web_here","_law_most","_law_left","_law_found"] ["_law_drawn","_law_web_here","_law_most"] (am rY):=⟨rfl,rfl,rfl,by decide+kernel,rfl,by decide+kernel,by decide+kernel⟩
theorem Gd(h:fW K mg "_law_full" rY f fd ["_law_drawn","_law_web_here","_law_most"])(T:cg mg)(zLnext:Cl P w K mg base "_law_next" iu ["_law_drawn"] 1 1 a9):bg P w K mg base gy 2 f fd ["_law_drawn","_law_web_here","_law_most"] (iB K 3 rB):=by obtain⟨OT,OU,N_,N'⟩:=zLnext;have nd:=zW.nd;exact h.fn zW rfl rfl (λcdv A outer s H E hr=>(@ag _ _ _ _ _ _ _ _ (@aA _ _ _ _ _ 3 _ _ nd rfl ↥3 (@ph _ _ _ _ _ _ _ _ rfl rfl T.b_list rfl T.b_range ((@aP _ _ _ _ _ _ _ _ _ (@b_len _ _ rfl) ∅ T.b_len ((@cc _ _ _ _ _ _ _ rfl (¬1) af (λ_ _=>rfl))∘ac) ⋯ ⋯ ∅ ∅)∘ac) ∅ ∅) ∅ (by trivial)) (@ag _ _ _ _ _ _ _ _ (@aA _ _ _ _ _ 4 _ _ nd rfl ↥3 (@bj _ _ _ _ _ ac) ∅ (by trivial)) (@ag _ _ _ _ _ _ _ _ (@lc _ _ _ _ _ _ _ _ _ RX (@rS _ _ _ _ (@D9 _ _ _ _ _ _ _ _ (@aV _ _ _ _ _ _ _ _ _ (@Aw _ _ _ rfl hr) (¬3) (@bj _ _ _ _ _ ac) (aZ _)) (@zS _ _ _ _ _ (@aV _ _ _ _ _ _ _ _ _ (@Fq _ _) (@aP _ _ _ _ _ _ _ _ _ (@b_len _ _ rfl) ∅ T.b_len ((¬4)∘ac) ⋯ ⋯ ∅ ∅) (¬2) (aZ _))))) (@aj _ _ _ _ _ (@cw _ _ _ _ _ (@cA _ _ _ _ _ _ _ _ _ rfl (¬4) ((@vO _ _ _ _ _ _ _ _ _ rfl (¬3) ((@a_ _ _ _ _ _ _ _ (@aY _ _ _ _ _ _ _ _ _ _ _ _ _ _ _ N_ N' (hr.mono ⋯) ((¬0)∘ac) ∅ ⋯ ∅ ∅) (@aP _ _ _ _ _ _ _ _ _ (@b_len _ _ rfl) ∅ T.b_len ((¬3)∘ac) ⋯ ⋯ ∅ ∅))∘ac) ∅ ∅ ∅ ∅ ∅)∘ac) ∅ ∅ ∅ ∅ ∅) ∅))) (@aj _ _ _ _ _ (@aL _ _ _ _ _ (@aP _ _ _ _ _ _ _ _ _ (@b_tuple _ _ rfl) ∅ T.b_tuple ((¬4)∘ac) ⋯ ⋯ ∅ ∅)))))))
def B7:FS:=(ay (aW 2 (aB eE (cD (aa (vC (.int 2)) (aa (vC (.int 4)) (aa (vC (.int 7)) (aa (vC (.int 12)) ai))))) (aB a' (cf 1 a9 (aa (ae 0) ai)) (vC (.int 4))))) (ay (aW 3 (cf 3 mw (aa (ae 0) (aa (ae 2) (aa (ae 1) ai))))) (ay (aW 4 (aB a' (cf 1 a9 (aa (ae 0) ai)) (vC (.int 3)))) (bh (bF (aa (ae 2) (aa (ae 3) (aa (aB ja (bF (aa (aB eE (cD (aa (vC (.int 20)) (aa (vC (.int 1)) (aa (vC (.int 2)) ai)))) (ae 4)) ai)) (ae 2)) (aa (aB eE (cD (aa (vC (.int 40)) (aa (vC (.int 40)) (aa (aB fF (ae 1) (vC (.int 2))) ai)))) (ae 4)) ai)))))))))
def rC:FM:=jd 2 3 ([2]++([3]++([4]++[]))) B7
theorem z0:aC ["_law_drawn","_law_many","_law_things","_law_rows","_law_way"] ["_law_drawn","_law_many"] (am r6):=⟨rfl,rfl,rfl,by decide+kernel,rfl,by decide+kernel,by decide+kernel⟩
theorem Gh(h:fW K mg "_law_wide" r6 f fd ["_law_drawn","_law_many"])(T:cg mg)(zLties:Cl P w K mg base "_law_ties" oK ["_law_drawn","_law_things","_law_many"] 4 3 mw)(zLnext:Cl P w K mg base "_law_next" iu ["_law_drawn"] 1 1 a9):bg P w K mg base gy 5 f fd ["_law_drawn","_law_many"] (iB K 2 rC):=by obtain⟨PZ,P0,OV,Po⟩:=zLties;obtain⟨OT,OU,N_,N'⟩:=zLnext;have nd:=z0.nd;exact h.fn z0 rfl rfl (λcdv A outer s H E hr=>(@ag _ _ _ _ _ _ _ _ (@aA _ _ _ _ _ 2 _ _ nd rfl ↥3 (@cc _ _ _ _ _ _ _ rfl (@bj _ _ _ _ _ (af∘(af∘(af∘(af∘ac))))) (@a_ _ _ _ _ _ _ _ (@aY _ _ _ _ _ _ _ _ _ _ _ _ _ _ _ N_ N' (hr.mono ⋯) ((¬0)∘ac) ∅ ⋯ ∅ ∅) af) (λ_ _=>rfl)) ∅ (by trivial)) (@ag _ _ _ _ _ _ _ _ (@aA _ _ _ _ _ 3 _ _ nd rfl ↥3 (@aY _ _ _ _ _ _ _ _ _ _ _ _ _ _ _ OV Po (hr.mono ⋯) ((¬0)∘((¬2)∘((¬1)∘ac))) ∅ ⋯ ∅ ∅) ∅ (by trivial)) (@ag _ _ _ _ _ _ _ _ (@aA _ _ _ _ _ 4 _ _ nd rfl ↥3 (@a_ _ _ _ _ _ _ _ (@aY _ _ _ _ _ _ _ _ _ _ _ _ _ _ _ N_ N' (hr.mono ⋯) ((¬0)∘ac) ∅ ⋯ ∅ ∅) af) ∅ (by trivial)) (@aj _ _ _ _ _ (@aL _ _ _ _ _ (@aT _ _ _ _ _ _ ((¬2)∘((¬3)∘((@nA _ _ _ _ _ _ _ rfl (@aT _ _ _ _ _ _ ((@cc _ _ _ _ _ _ _ rfl (@bj _ _ _ _ _ (af∘(af∘(af∘ac)))) (¬4) (λ_ _=>rfl))∘ac)) (¬2))∘((@cc _ _ _ _ _ _ _ rfl (@bj _ _ _ _ _ (af∘(af∘((@j5 _ _ _ _ _ _ _ (¬1) af)∘ac)))) (¬4) (λ_ _=>rfl))∘ac)))))))))))
def o8:FI:=(cI (aa (ae 0) ai))
def fB:FE:=(aB (cN false) (aB Cy (aB AN (ae 0) (ae 1)) (vC (.int 1))) (vC (.int 1)))
def o_:FI:=(cI (aa (aB vt (vC (.int 2)) (vC (.int 8))) ai))
def ff:FS:=(ir (aF (aB (cN false) (aB AN (ae 2) (ae 0)) (vC (.int 0)))) (cM (bz bi (ae 1) (aa (aH (g1 bI) (aa (dk [(2,"_law_number")] 1 o8 (ah 1) eF fB) ai)) ai))) bX)
def tI:FS:=(ay (aW 1 (cD ai)) (ay (cO ([2]++([]++[])) o_ (ah 2) ff) (bh (ae 1))))
def jt:FM:=jd 1 2 ([1]++(([2]++([]++[]))++[])) tI
theorem su:aC ["_law_many","_law_found","_law_number"] ["_law_many"] (am jD):=⟨rfl,rfl,rfl,by decide+kernel,rfl,by decide+kernel,by decide+kernel⟩
theorem yG(h:fW K mg "_law_rows_of" jD f fd ["_law_many"])(T:cg mg):bg P w K mg base gy 1 f fd ["_law_many"] (iB K 1 jt):=by have nd:=su.nd;exact h.fn su rfl rfl (λcdv A outer s H E hr=>(@ag _ _ _ _ _ _ _ _ (@aA _ _ _ _ _ 1 _ _ nd rfl ↥3 (@bj _ _ _ _ _ ac) ∅ (by trivial)) (@ag _ _ _ _ _ _ _ _ (@el _ _ _ _ _ _ _ _ _ _ _ RX rfl (@cC _ _ _ _ _ _ _ rfl T.b_range ((@DV _ _ _ _ _ _ _ af af)∘ac) ∅) (@ax _ _ _ 2 _ nd rfl (Or.inr rfl) (by trivial)) (@aj _ _ _ _ _ (@bU _ _ _ _ _ _ _ _ _ _ _ (@aV _ _ _ _ _ _ _ _ _ (@sQ _ _ _ rfl hr) (@Ii _ _ _ _ _ _ _ (¬2) (¬0)) af (aZ _)) (@aj _ _ _ _ _ (@cw _ _ _ _ _ (@cA _ _ _ _ _ _ _ _ _ rfl (¬1) ((@aP _ _ _ _ _ _ _ _ _ (@b_tuple _ _ rfl) ∅ T.b_tuple ((@ny _ _ _ _ _ _ _ _ _ _ _ _ _ [(2,"_law_number")] ["_law_k"] rfl rfl (@cC _ _ _ _ _ _ _ rfl T.b_range ((¬0)∘ac) ∅) (λC s0 H0 fp=>(@ax _ _ _ 1 _ (show Uo (["_law_number","_law_k"]:List Str) by decide+kernel) rfl ↥3 (by trivial))) (λC s0 H0 fp=>(@nF _ _)) (λC s0 H0 fp=>(@rQ _ _ _ _ _ _ _ _ _ (@sQ _ _ _ rfl hr) (@LQ _ _ _ _ _ _ _ (@Ii _ _ _ _ _ _ _ (¬0) (¬1)) af) af (aZ _))) rfl ∅ ↥5)∘ac) ⋯ ⋯ ∅ ∅)∘ac) ∅ ∅ ∅ ∅ ∅) ∅)) (@aX _ _))) ↥5) (@aj _ _ _ _ _ (@aL _ _ _ _ _ (¬1))))))
def ms:FI:=(zD (aa (ae 1) (aa (ae 2) ai)))
def jN:FS:=(G_ (ae 5) (ae 3) (ae 4))
def wq:FS:=(ay (aW 3 (aB ja (cD (aa (vC (.bool false)) ai)) (aH (g1 ee) (aa (aB eE (ae 0) (vC (.int 1))) ai)))) (ay (cO (([4]++([5]++[]))++[]) ms (bV (aG (ah 4) (aG (ah 5) bN))) jN) (bh (aH (g1 bI) (aa (ae 3) ai)))))
def k9:FM:=jd 3 3 ([3]++((([4]++([5]++[]))++[])++[])) wq
theorem uB:aC ["_law_web_here","_law_order_here","_law_truths","_law_found","_law_tie","_law_truth"] ["_law_web_here","_law_order_here","_law_truths"] (am lm):=⟨rfl,rfl,rfl,by decide+kernel,rfl,by decide+kernel,by decide+kernel⟩
theorem Bi(h:fW K mg "_law_spread" lm f fd ["_law_web_here","_law_order_here","_law_truths"])(T:cg mg):bg P w K mg base gy 1 f fd ["_law_web_here","_law_order_here","_law_truths"] (iB K 3 k9):=by have nd:=uB.nd;exact h.fn uB rfl rfl (λcdv A outer s H E hr=>(@ag _ _ _ _ _ _ _ _ (@aA _ _ _ _ _ 3 _ _ nd rfl ↥3 (@nA _ _ _ _ _ _ _ rfl (@bj _ _ _ _ _ ((@di _ _ _ _ _)∘ac)) (@aP _ _ _ _ _ _ _ _ _ (@b_len _ _ rfl) ∅ T.b_len ((@cc _ _ _ _ _ _ _ rfl (¬0) af (λ_ _=>rfl))∘ac) ⋯ ⋯ ∅ ∅)) ∅ (by trivial)) (@ag _ _ _ _ _ _ _ _ (@el _ _ _ _ _ _ _ _ _ _ _ RX rfl (@D4 _ _ _ _ _ _ _ _ _ _ rfl rfl T.b_zip ((¬1)∘((¬2)∘ac)) ∅ ∅) (@ip _ _ _ _ _ _ _ _ rfl rfl (@aU _ _ _ _ _ _ _ _ (@ax _ _ _ 4 _ nd rfl ↥3 (by trivial)) (@aU _ _ _ _ _ _ _ _ (@ax _ _ _ 5 _ nd rfl ↥3 (by trivial)) (@eh _ _) ∅) ∅) (ba (ba hZ)) ∅ ∅) (@aj _ _ _ _ _ (@J9 _ _ _ _ _ _ _ _ _ _ (¬5) (¬3) (¬4) ↥5 ∅ ∅ ∅)) ↥5) (@aj _ _ _ _ _ (@aL _ _ _ _ _ (@aP _ _ _ _ _ _ _ _ _ (@b_tuple _ _ rfl) ∅ T.b_tuple ((¬3)∘ac) ⋯ ⋯ ∅ ∅))))))
theorem si:aC ["_law_error"] ["_law_error"] (am jB):=⟨rfl,rfl,rfl,by decide+kernel,rfl,by decide+kernel,by decide+kernel⟩
theorem yE(h:fW K mg "_law_is_many" jB f fd ["_law_error"])(T:cg mg){C:QQ}(Z:sP K C){c_TooMany:QQ}(m_TooMany:mg "TooMany"=some (.ref c_TooMany)){c_NoRise:QQ}(m_NoRise:mg "NoRise"=some (.ref c_NoRise)){c_NoText:QQ}(m_NoText:mg "NoText"=some (.ref c_NoText)){c_NotTwoSided:QQ}(m_NotTwoSided:mg "NotTwoSided"=some (.ref c_NotTwoSided)){c_PairsError:QQ}(m_PairsError:mg "PairsError"=some (.ref c_PairsError))(k_t:W.kitAny K (.ref C) [.ref c_NoRise,.ref c_NoText,.ref c_NotTwoSided]=some false)(k_TooMany:TX K (.ref C) (.ref c_TooMany)=some true)(k_PairsError:TX K (.ref C) (.ref c_PairsError)=some true)(k_ValueError:TX K (.ref C) (.type "ValueError")=some true):bg P w K mg base gy 1 f fd ["_law_error"] (Nt C):=by have nd:=si.nd;refine h.F.ok si (λvs H Q E q=>by obtain⟨a,rfl,_⟩:=q;rfl) λcdv A outer s H vs Q E hr hsp=>⟨_,jv (zP (PW.pt (Ie (DL (yP (yL Z rfl T.b_isinstance VB (pv 0) (lO (v:=V.ref c_TooMany) rfl m_TooMany rfl) (λ_ r=>r) k_TooMany))) (DS (yP (JO (vs:=[V.ref c_NoRise,V.ref c_NoText,V.ref c_NotTwoSided]) Z rfl T.b_isinstance VB (pv 0) (c_ (lO (v:=V.ref c_NoRise) rfl m_NoRise rfl) (c_ (lO (v:=V.ref c_NoText) rfl m_NoText rfl) (c_ (lO (v:=V.ref c_NotTwoSided) rfl m_NotTwoSided rfl) io rfl) rfl) rfl) (λ_ _ _ q=>q) (by show 3<=Rm;decide) (λus' r=>by match us',r with|_,.cons a (.cons b (.cons c .nil))=>cases a;cases b;cases c;rfl) k_t))))) (j2 (rO Ib)) pX) (j2 (rO (Dj (yL Z rfl T.b_isinstance VB (pv 0) (lO (v:=V.ref c_PairsError) rfl m_PairsError rfl) (λ_ r=>r) k_PairsError) (Dp (yL Z rfl T.b_isinstance VB (pv 0) (xn (T:="ValueError") rfl T.b_ValueError ↥2 ⋯ ⋯) (λ_ r=>r) k_ValueError))))),?_⟩;obtain⟨a,rfl,ha,q⟩:=hsp;exact Bq ha q
def wo:FS:=(bh (ky (s_ (qS "int") (ae 0)) (ky (l6 (s_ (qS "bool") (ae 0))) (iD IU IU (ae 1) (ae 0) (ae 2)))))
def jr:FM:=jd 3 0 [] wo
theorem uA:aC ["_law_thing","_law_low_here","_law_high"] ["_law_thing","_law_low_here","_law_high"] (am lh):=⟨rfl,rfl,rfl,by decide+kernel,rfl,by decide+kernel,by decide+kernel⟩
theorem Bh(h:fW K mg "_law_is_int" lh f fd ["_law_thing","_law_low_here","_law_high"])(T:cg mg):bg P w K mg base gy 1 f fd ["_law_thing","_law_low_here","_law_high"] (iB K 3 jr):=by have nd:=uA.nd;exact h.fn uA rfl rfl (λcdv A outer s H E hr=>(@aj _ _ _ _ _ (@aL _ _ _ _ _ (@yR _ _ _ _ _ _ _ _ (@zQ _ _ _ _ _ _ _ _ "int" rfl ⋯ rfl T.b_isinstance rfl T.b_int PyProof.Rows.boot_int ⋯ ⋯ (¬0) ∅ ∅) (@yR _ _ _ _ _ _ _ _ (@J5 _ _ _ _ _ (@zQ _ _ _ _ _ _ _ _ "bool" rfl ⋯ rfl T.b_isinstance rfl T.b_bool PyProof.Rows.boot_bool ⋯ ⋯ (¬0) ∅ ∅)) (@D1 _ _ _ _ _ _ (@GX _ _ _ _ _ _ _ _ _ _ _ _ _ (@Fo _ _) (@Fo _ _) (¬1) (¬0) (¬2) (by with_unfolding_all rfl))))))))
def gc:FI:=(iJ (cD (aa (bF (aa (vC (.bool true)) (aa (aB eE (ae 4) (vC (.int 1))) ai))) (aa (bF (aa (vC (.bool false)) (aa (aB eE (ae 4) (vC (.int 2))) ai))) ai))))
def cy:FS:=(ay (lq ([]++[]) 2 (ir (sN (iN (aF (cf 3 jr (aa (ae 6) (aa (s_ AM (vC (.int 1))) (aa (aB kW (aH (g1 ee) (aa (ae 1) ai)) (vC (.int 1))) ai)))))) (sN (aF (iD IU IU (vC (.int 0)) (ae 6) (ae 3))) (aF (aB (f9 (mi false) (g_ false)) (ae 6) (ae 2))))) (bh (vC (.bool false))) bX)) (ir (uH 2 (aF (aB CD (ae 6) (ae 3)))) (mB 2 6 (cf 4 eg (aa (ae 0) (aa (aB (f9 kh f_) (ae 2) (ae 3)) (aa (aB eE (ae 4) (vC (.int 0))) (aa (ae 5) ai)))))) bX))
def dI:FI:=(zB (aa (ae 1) ai))
def dG:FS:=(ay (lq ([]++[]) 2 (ir (sN (iN (aF (s_ (qS "tuple") (ae 4)))) (sN (aF (aB (cN true) (aH (g1 ee) (aa (ae 4) ai)) (vC (.int 3)))) (aF (aB (f9 (mi true) (g_ true)) (ae 3) (ae 2))))) (bh (vC (.bool false))) bX)) (ay (lq ([]++[]) 2 (ir (sN (iN (aF (cf 3 jr (aa (aB eE (ae 4) (vC (.int 0))) (aa (vC (.int 0)) (aa (aB kW (aH (g1 ee) (aa (aB eE (ae 0) (vC (.int 1))) ai)) (vC (.int 1))) ai)))))) (iN (aF (cf 3 k8 (aa (ae 0) (aa (aB (f9 kh f_) (ae 2) (ae 3)) (aa (aB eE (ae 4) (vC (.int 0))) ai))))))) (bh (vC (.bool false))) bX)) (cO (([5]++([6]++[]))++(([]++[])++([]++[]))) (kj 2 gc) (fJ 2 (bV (aG (ah 5) (aG (ah 6) bN)))) cy)))
def lT:FS:=(ay (ir (sN (iN (aF (s_ (qS "tuple") (ae 1)))) (aF (aB CD (aH (g1 ee) (aa (ae 1) ai)) (vC (.int 300))))) (bh (vC (.bool false))) bX) (oI 2 (Hw (vC (.int 0)) (bF (aa (bF ai) (aa (bF ai) ai)))) (ay (cO (([3]++([4]++[]))++(([]++[])++(([]++[])++(([5]++([6]++[]))++(([]++[])++([]++[])))))) (kj 2 dI) (fJ 2 (bV (aG (ah 3) (aG (ah 4) bN)))) dG) (ko 2 (bh (vC (.bool true)))))))
def cB:FM:=jd 2 5 (([]++[])++(2::((([3]++([4]++[]))++(([]++[])++(([]++[])++(([5]++([6]++[]))++(([]++[])++([]++[]))))))++[]))) lT
theorem ls:aC ["_law_web_here","_law_tree","_law_stands","_law_at","_law_node","_law_truth","_law_there"] ["_law_web_here","_law_tree"] (am dC):=⟨rfl,rfl,rfl,by decide+kernel,rfl,by decide+kernel,by decide+kernel⟩
theorem rK(h:fW K mg "_law_nodes_right" dC f fd ["_law_web_here","_law_tree"])(T:cg mg)(zLis_int:Cl P w K mg base "_law_is_int" lh ["_law_thing","_law_low_here","_law_high"] 1 3 jr)(zLmay:Cl P w K mg base "_law_may" ut ["_law_web_here","_law_stand","_law_tie"] 2 3 k8)(zLbehind:Cl P w K mg base "_law_behind" jA ["_law_web_here","_law_stand","_law_tie","_law_truth"] 1 4 eg):bg P w K mg base gy 3 f fd ["_law_web_here","_law_tree"] (iB K 2 cB):=by obtain⟨Qf,Qg,Oz,Pb⟩:=zLis_int;obtain⟨Qo,Qp,Pe,PL⟩:=zLmay;obtain⟨Pw,Px,Ov,OY⟩:=zLbehind;have nd:=ls.nd;exact h.fn ls rfl rfl (λcdv A outer s H E hr=>(@ag _ _ _ _ _ _ _ _ (@bU _ _ _ _ _ _ _ _ _ _ _ (@rS _ _ _ _ (@kl _ _ _ _ _ _ _ _ (@gp _ _ _ _ _ (@dq _ _ _ _ (@zQ _ _ _ _ _ _ _ _ "tuple" rfl ⋯ rfl T.b_isinstance rfl T.b_tuple WH ⋯ ⋯ (¬1) ∅ ∅) ↥5)) (@j6 _ _ _ _ _ (@aV _ _ _ _ _ _ _ _ _ (@ya _ _) (@aP _ _ _ _ _ _ _ _ _ (@b_len _ _ rfl) ∅ T.b_len ((¬1)∘ac) ⋯ ⋯ ∅ ∅) af (aZ _))))) (@aj _ _ _ _ _ (@aL _ _ _ _ _ (@di _ _ _ _ _))) (@aX _ _)) (@uq _ _ 2 _ _ _ _ _ _ _ _ nd rfl ↥3 (@LV _ _ _ _ _ _ _ af (@aT _ _ _ _ _ _ ((@aT _ _ _ _ _ _ ac)∘((@aT _ _ _ _ _ _ ac)∘ac)))) ∅ (by trivial) (@df _ _ _ _ _ _ _ _ _ (@pY _ _ 2 _ _ _ _ _ _ _ _ _ RX rfl (@D3 _ _ _ _ _ _ _ _ _ rfl rfl T.b_enumerate ((¬1)∘ac) ∅) (@ip _ _ _ _ _ _ _ _ rfl rfl (@aU _ _ _ _ _ _ _ _ (@ax _ _ _ 3 _ nd rfl ↥3 (by trivial)) (@aU _ _ _ _ _ _ _ _ (@ax _ _ _ 4 _ nd rfl ↥3 (by trivial)) (@eh _ _) ∅) ∅) (ba (ba hZ)) ∅ ∅) ⋯ (@df _ _ _ _ _ _ _ _ _ (@nE _ _ 2 _ _ _ ⋯ (@bU _ _ _ _ _ _ _ _ _ _ _ (@rS _ _ _ _ (@kl _ _ _ _ _ _ _ _ (@gp _ _ _ _ _ (@dq _ _ _ _ (@zQ _ _ _ _ _ _ _ _ "tuple" rfl ⋯ rfl T.b_isinstance rfl T.b_tuple WH ⋯ ⋯ (¬4) ∅ ∅) ↥5)) (@kl _ _ _ _ _ _ _ _ (@aV _ _ _ _ _ _ _ _ _ (@Aw _ _ _ rfl hr) (@aP _ _ _ _ _ _ _ _ _ (@b_len _ _ rfl) ∅ T.b_len ((¬4)∘ac) ⋯ ⋯ ∅ ∅) af (aZ _)) (@j6 _ _ _ _ _ (@aV _ _ _ _ _ _ _ _ _ (@zq _ _ _ rfl hr) (¬3) (¬2) (by with_unfolding_all rfl)))))) (@aj _ _ _ _ _ (@aL _ _ _ _ _ (@di _ _ _ _ _))) (@aX _ _))) (@df _ _ _ _ _ _ _ _ _ (@nE _ _ 2 _ _ _ ⋯ (@bU _ _ _ _ _ _ _ _ _ _ _ (@rS _ _ _ _ (@kl _ _ _ _ _ _ _ _ (@gp _ _ _ _ _ (@dq _ _ _ _ (@aY _ _ _ _ _ _ _ _ _ _ _ _ _ _ _ Oz Pb (hr.mono ⋯) ((@cc _ _ _ _ _ _ _ rfl (¬4) af (λ_ _=>rfl))∘(af∘((@xt _ _ _ _ _ _ _ (@aP _ _ _ _ _ _ _ _ _ (@b_len _ _ rfl) ∅ T.b_len ((@cc _ _ _ _ _ _ _ rfl (¬0) af (λ_ _=>rfl))∘ac) ⋯ ⋯ ∅ ∅) af)∘ac))) ∅ ⋯ ∅ ∅) ↥5)) (@j6 _ _ _ _ _ (@gp _ _ _ _ _ (@dq _ _ _ _ (@aY _ _ _ _ _ _ _ _ _ _ _ _ _ _ _ Pe PL (hr.mono ⋯) ((¬0)∘((@yQ _ _ _ _ _ _ _ _ hr rfl (¬2) (¬3) (λ_ _=>rfl))∘((@cc _ _ _ _ _ _ _ rfl (¬4) af (λ_ _=>rfl))∘ac))) ∅ ⋯ ∅ ∅) ↥5))))) (@aj _ _ _ _ _ (@aL _ _ _ _ _ (@di _ _ _ _ _))) (@aX _ _))) (@iq _ _ _ _ _ _ (@pY _ _ 2 _ _ _ _ _ _ _ _ _ RX rfl (@ej _ _ _ _ _ rfl (@bj _ _ _ _ _ ((@aT _ _ _ _ _ _ ((@di _ _ _ _ _)∘((@cc _ _ _ _ _ _ _ rfl (¬4) af (λ_ _=>rfl))∘ac)))∘((@aT _ _ _ _ _ _ ((@di _ _ _ _ _)∘((@cc _ _ _ _ _ _ _ rfl (¬4) af (λ_ _=>rfl))∘ac)))∘ac)))) (@ip _ _ _ _ _ _ _ _ rfl rfl (@aU _ _ _ _ _ _ _ _ (@ax _ _ _ 5 _ nd rfl ↥3 (by trivial)) (@aU _ _ _ _ _ _ _ _ (@ax _ _ _ 6 _ nd rfl ↥3 (by trivial)) (@eh _ _) ∅) ∅) (ba (ba hZ)) ∅ ∅) ⋯ (@df _ _ _ _ _ _ _ _ _ (@nE _ _ 2 _ _ _ ⋯ (@bU _ _ _ _ _ _ _ _ _ _ _ (@rS _ _ _ _ (@kl _ _ _ _ _ _ _ _ (@gp _ _ _ _ _ (@dq _ _ _ _ (@aY _ _ _ _ _ _ _ _ _ _ _ _ _ _ _ Oz Pb (hr.mono ⋯) ((¬6)∘((@Ih _ _ _ _ _ af)∘((@xt _ _ _ _ _ _ _ (@aP _ _ _ _ _ _ _ _ _ (@b_len _ _ rfl) ∅ T.b_len ((¬1)∘ac) ⋯ ⋯ ∅ ∅) af)∘ac))) ∅ ⋯ ∅ ∅) ↥5)) (@kl _ _ _ _ _ _ _ _ (@DX _ _ _ _ _ _ _ _ _ _ _ _ _ (@Fo _ _) (@Fo _ _) af (¬6) (¬3) (by with_unfolding_all rfl)) (@j6 _ _ _ _ _ (@aV _ _ _ _ _ _ _ _ _ (@Cc _ _ _ rfl hr) (¬6) (¬2) (by with_unfolding_all rfl)))))) (@aj _ _ _ _ _ (@aL _ _ _ _ _ (@di _ _ _ _ _))) (@aX _ _))) (@iq _ _ _ _ _ _ (@J8 _ _ 2 _ _ _ _ _ _ _ _ _ (@D7 _ _ 2 _ _ (@aV _ _ _ _ _ _ _ _ _ (@ya _ _) (¬6) (¬3) (aZ _))) (@iq _ _ _ _ _ _ (@zR _ _ 2 _ _ _ 6 _ _ _ _ _ _ hr rfl ⋯ (@eW _ 2 _ _ ∅ (by first|exact Or.inl rfl|exact Or.inr ↥3|exact Or.inr (Or.inr rfl)) ⋯ ⋯) (@eW _ 6 _ _ ∅ (by first|exact Or.inl rfl|exact Or.inr ↥3|exact Or.inr (Or.inr rfl)) ⋯ ⋯) (@aY _ _ _ _ _ _ _ _ _ _ _ _ _ _ _ Ov OY (hr.mono ⋯) ((¬0)∘((@yQ _ _ _ _ _ _ _ _ hr rfl (¬2) (¬3) (λ_ _=>rfl))∘((@cc _ _ _ _ _ _ _ rfl (¬4) af (λ_ _=>rfl))∘((¬5)∘ac)))) ∅ ⋯ ∅ ∅) ∅)) (@D6 _ _ _)))) ↥5)))) ↥5) (@iq _ _ _ _ _ _ (@nD _ _ 2 _ _ _ ⋯ (@aL _ _ _ _ _ (@di _ _ _ _ _))))))))
def js:FM:=KW 2 0 oj
theorem sr:aC ["_law_web_here","_law_order_here","_law_caught","_law_error"] ["_law_web_here","_law_order_here"] (am jC):=⟨rfl,rfl,rfl,by decide+kernel,rfl,by decide+kernel,by decide+kernel⟩
theorem yF(h:fW K mg "_law_refused" jC f fd ["_law_web_here","_law_order_here"])(T:cg mg){C Cb:QQ}{OL:QQ}{OM:RJ}(Oa:fW K mg "tree_of" eX OL OM ["web","order"])(R_tree_of:bg P w K mg base (qc P w C) 6 OL OM ["web","order"] (Fc K 2 0 oj)){O6:QQ}{O7:RJ}(Om:fW K mg "_law_is_many" jB O6 O7 ["_law_error"])(ON:bg P w K mg base gy 1 O6 O7 ["_law_error"] (Nt C))(m_PairsError:mg "PairsError"=some (.ref Cb))(hex:W.exmOne K (.ref C) (.ref Cb)=some true):bg P w K mg base gy 7 f fd ["_law_web_here","_law_order_here"] (iB K 2 js):=by have nd:=sr.nd;refine h.F.ok sr (λvs H Q E q=>q.1) λcdv A outer s H vs Q E hr hsp=>⟨_,jv (rP (i:=2) nd rfl ↥3 JP rfl (.inl rfl)) (jv (DC (i:=2) (j:=3) rfl rfl R_tree_of (hr.mono ⋯) rfl Oa.m Oa.F.kp Oa.b (c_ (pv 0) (c_ (pv 1) io rfl) rfl) rfl m_PairsError hex nd rfl rfl rfl rfl ⋯) (j2 (rO (zM ON (hr.mono ⋯) rfl Om.m Om.F.kp Om.b .nil Ia (c_ (pv 2) io rfl))))),?_⟩;obtain⟨v0,v1,rfl⟩:∃v0 v1,vs=[v0,v1]:=match vs,hsp.1 with|[v0,v1],_=>⟨_,_,rfl⟩;refine⟨v0,rfl,v1,rfl,EJ hsp,λa H' kp hn=>?_⟩;exact Br rfl ao λH2 k2=>IR hsp λc o e=>k2 c o (rq hn c o (kp c o e))
def mM:FS:=(ay (aW 4 (cf 3 k9 (aa (ae 0) (aa (ae 1) (aa (ae 3) ai))))) (bh (cf 2 mv (aa (cf 2 ic (aa (ae 2) (aa (ae 4) ai))) (aa (cf 3 fN (aa (ae 0) (aa (ae 1) (aa (ae 4) ai)))) ai)))))
def cu:FM:=jd 4 1 ([4]++[]) mM
theorem l4:aC ["_law_web_here","_law_order_here","_law_tree","_law_truths","_law_answers_here"] ["_law_web_here","_law_order_here","_law_tree","_law_truths"] (am er):=⟨rfl,rfl,rfl,by decide+kernel,rfl,by decide+kernel,by decide+kernel⟩
theorem sW(h:fW K mg "_law_asks_alike" er f fd ["_law_web_here","_law_order_here","_law_tree","_law_truths"])(T:cg mg)(zLspread:Cl P w K mg base "_law_spread" lm ["_law_web_here","_law_order_here","_law_truths"] 1 3 k9)(zLsame:Cl P w K mg base "_law_same" oJ ["_law_found","_law_due"] 1 2 mv)(zLrun_tree:Cl P w K mg base "_law_run_tree" iy ["_law_tree","_law_answers_here"] 1 2 ic)(zLrun_order:Cl P w K mg base "_law_run_order" fU ["_law_web_here","_law_order_here","_law_answers_here"] 3 3 fN):bg P w K mg base gy 4 f fd ["_law_web_here","_law_order_here","_law_tree","_law_truths"] (iB K 4 cu):=by obtain⟨Qh,Qi,OF,Py⟩:=zLspread;obtain⟨P5,P6,OW,Pq⟩:=zLsame;obtain⟨PR,PU,Ow,Pf⟩:=zLrun_tree;obtain⟨PM,PN,Oo,Pa⟩:=zLrun_order;have nd:=l4.nd;exact h.fn l4 rfl rfl (λcdv A outer s H E hr=>(@ag _ _ _ _ _ _ _ _ (@aA _ _ _ _ _ 4 _ _ nd rfl ↥3 (@aY _ _ _ _ _ _ _ _ _ _ _ _ _ _ _ OF Py (hr.mono ⋯) ((¬0)∘((¬1)∘((¬3)∘ac))) ∅ ⋯ ∅ ∅) ∅ (by trivial)) (@aj _ _ _ _ _ (@aL _ _ _ _ _ (@aY _ _ _ _ _ _ _ _ _ _ _ _ _ _ _ OW Pq (hr.mono ⋯) ((@aY _ _ _ _ _ _ _ _ _ _ _ _ _ _ _ Ow Pf (hr.mono ⋯) ((¬2)∘((¬4)∘ac)) ∅ ⋯ ∅ ∅)∘((@aY _ _ _ _ _ _ _ _ _ _ _ _ _ _ _ Oo Pa (hr.mono ⋯) ((¬0)∘((¬1)∘((¬4)∘ac))) ∅ ⋯ ∅ ∅)∘ac)) ∅ ⋯ ∅ ∅)))))
def NK:FI:=(cI (aa (vC (.int 8)) ai))
def MH:FS:=(ir (iN (aF (cf 4 cu (aa (ae 9) (aa (wd (ae 4) gw (fQ (vC (.int 8)))) (aa (ae 6) (aa (cf 2 jq (aa (ae 1) (aa (vC (.int 8)) ai))) ai))))))) (bh (vC (.bool false))) bX)
def MK:FI:=(iJ (cf 1 jt (aa (aH (g1 ee) (aa (ae 4) ai)) ai)))
def KU:FS:=(ir (iN (aF (cf 4 cu (aa (ae 3) (aa (ae 4) (aa (ae 6) (aa (ae 7) ai))))))) (bh (vC (.bool false))) bX)
def NL:FI:=(cI (aa (vC (.int 4)) ai))
def K8:FS:=(ay (aW 3 (cf 3 w_ (aa (ae 1) (aa (vC (.int 12)) (aa (vC (.int 9)) ai))))) (ay (aW 4 (cf 3 m7 (aa (ae 1) (aa (ae 3) (aa (aB eE (cD (aa (vC (.int 7)) (aa (vC (.int 5)) (aa (vC (.int 5)) (aa (vC (.int 4)) ai))))) (ae 2)) ai))))) (ay (aW 5 (bF (aa (ae 3) (aa (ae 4) ai)))) (ay (aW 6 (cf 2 eU (aa (ae 3) (aa (ae 4) ai)))) (ay (ir (sN (iN (aF (cf 2 cB (aa (ae 3) (aa (ae 6) ai))))) (sN (aF (aB (cN true) (ae 5) (bF (aa (ae 3) (aa (ae 4) ai))))) (iN (aF (cf 2 mv (aa (cf 2 eU (aa (ae 3) (aa (ae 4) ai))) (aa (ae 6) ai))))))) (bh (vC (.bool false))) bX) (cO ([7]++([]++[])) MK (ah 7) KU))))))
def HN:FS:=(ay (aW 1 (cf 1 m6 (aa (ae 0) ai))) (ay (cO ([2]++([3]++([4]++([5]++([6]++(([]++[])++([7]++([]++[])))))))) NL (ah 2) K8) (ay (aW 8 (aB cZ (vC (.int 9)) (aB a' (cf 1 a9 (aa (ae 1) ai)) (vC (.int 8))))) (ay (aW 9 (cf 2 rC (aa (ae 1) (aa (ae 8) ai)))) (ay (aW 4 (cf 3 rB (aa (ae 1) (aa (ae 9) (aa (ae 8) ai))))) (ay (ir (sN (iN (aF (cf 2 js (aa (ae 9) (aa (ae 4) ai))))) (iN (aF (cf 2 js (aa (ae 9) (aa (wd (ae 4) gw (fQ (vC (.int 9)))) ai)))))) (bh (vC (.bool false))) bX) (ay (aW 6 (cf 2 eU (aa (ae 9) (aa (wd (ae 4) gw (fQ (vC (.int 8)))) ai)))) (ay (ir (iN (aF (cf 2 cB (aa (ae 9) (aa (ae 6) ai))))) (bh (vC (.bool false))) bX) (ay (cO ([2]++([]++[])) NK (ah 2) MH) (bh (cf 4 cu (aa (ae 9) (aa (wd (ae 4) gw (fQ (vC (.int 8)))) (aa (ae 6) (aa (aB ja (bF (aa (vC (.bool false)) ai)) (vC (.int 8))) ai)))))))))))))))
def rD:FM:=jd 1 9 ([1]++(([2]++([3]++([4]++([5]++([6]++(([]++[])++([7]++([]++[]))))))))++([8]++([9]++([4]++(([]++[])++([6]++(([]++[])++(([2]++([]++[]))++[]))))))))) HN
theorem EB:aC ["_law_script","_law_drawn","_law_k","_law_web_here","_law_order_here","_law_handed","_law_tree","_law_truths","_law_many","_law_great"] ["_law_script"] (am r9):=⟨rfl,rfl,rfl,by decide+kernel,rfl,by decide+kernel,by decide+kernel⟩
theorem Jv(h:fW K mg "law" r9 f fd ["_law_script"])(T:cg mg)(zLdraws:Cl P w K mg base "_law_draws" nJ ["_law_script"] 2 1 m6)(zLwide:Cl P w K mg base "_law_wide" r6 ["_law_drawn","_law_many"] 5 2 rC)(zLfull:Cl P w K mg base "_law_full" rY ["_law_drawn","_law_web_here","_law_most"] 2 3 rB)(z_tree_of:Cl P w K mg base "tree_of" eX ["web","order"] 6 2 eU)(zLasks_alike:Cl P w K mg base "_law_asks_alike" er ["_law_web_here","_law_order_here","_law_tree","_law_truths"] 4 4 cu)(zLweb:Cl P w K mg base "_law_web" xC ["_law_drawn","_law_most","_law_ties_here"] 5 3 w_)(zLorder:Cl P w K mg base "_law_order" nL ["_law_drawn","_law_web_here","_law_most"] 2 3 m7)(zLrows_of:Cl P w K mg base "_law_rows_of" jD ["_law_many"] 1 1 jt)(zLnodes_right:Cl P w K mg base "_law_nodes_right" dC ["_law_web_here","_law_tree"] 3 2 cB)(zLnext:Cl P w K mg base "_law_next" iu ["_law_drawn"] 1 1 a9)(zLrefused:Cl P w K mg base "_law_refused" jC ["_law_web_here","_law_order_here"] 7 2 js)(zLsame:Cl P w K mg base "_law_same" oJ ["_law_found","_law_due"] 1 2 mv)(zLanswers:Cl P w K mg base "_law_answers" jy ["_law_drawn","_law_many"] 2 2 jq):bg P w K mg base gy 8 f fd ["_law_script"] (iB K 1 rD):=by obtain⟨Qq,Qr,OZ,PP⟩:=zLdraws;obtain⟨Qy,Qz,Pc,P7⟩:=zLwide;obtain⟨QA,QB,Pd,P8⟩:=zLfull;obtain⟨OL,OM,Oa,OP⟩:=z_tree_of;obtain⟨PD,PF,Of,Ot⟩:=zLasks_alike;obtain⟨QG,QH,Pz,Qs⟩:=zLweb;obtain⟨Qu,Qv,O0,PQ⟩:=zLorder;obtain⟨P9,P_,OA,Pr⟩:=zLrows_of;obtain⟨PB,PC,Og,OB⟩:=zLnodes_right;obtain⟨OT,OU,N_,N'⟩:=zLnext;obtain⟨P',Qa,Ou,O_⟩:=zLrefused;obtain⟨P5,P6,OW,Pq⟩:=zLsame;obtain⟨Qb,Qc,OC,Pt⟩:=zLanswers;have nd:=EB.nd;exact h.fn EB rfl rfl (λcdv A outer s H E hr=>(@ag _ _ _ _ _ _ _ _ (@aA _ _ _ _ _ 1 _ _ nd rfl ↥3 (@aY _ _ _ _ _ _ _ _ _ _ _ _ _ _ _ OZ PP (hr.mono ⋯) ((¬0)∘ac) ∅ ⋯ ∅ ∅) ∅ (by trivial)) (@ag _ _ _ _ _ _ _ _ (@el _ _ _ _ _ _ _ _ _ _ _ RX rfl (@cC _ _ _ _ _ _ _ rfl T.b_range (af∘ac) ∅) (@ax _ _ _ 2 _ nd rfl ↥3 (by trivial)) (@ag _ _ _ _ _ _ _ _ (@aA _ _ _ _ _ 3 _ _ nd rfl ↥3 (@aY _ _ _ _ _ _ _ _ _ _ _ _ _ _ _ Pz Qs (hr.mono ⋯) ((¬1)∘(af∘(af∘ac))) ∅ ⋯ ∅ ∅) ∅ (by trivial)) (@ag _ _ _ _ _ _ _ _ (@aA _ _ _ _ _ 4 _ _ nd rfl ↥3 (@aY _ _ _ _ _ _ _ _ _ _ _ _ _ _ _ O0 PQ (hr.mono ⋯) ((¬1)∘((¬3)∘((@cc _ _ _ _ _ _ _ rfl (@bj _ _ _ _ _ (af∘(af∘(af∘(af∘ac))))) (¬2) (λ_ _=>rfl))∘ac))) ∅ ⋯ ∅ ∅) ∅ (by trivial)) (@ag _ _ _ _ _ _ _ _ (@aA _ _ _ _ _ 5 _ _ nd rfl ↥3 (@aT _ _ _ _ _ _ ((¬3)∘((¬4)∘ac))) ∅ (by trivial)) (@ag _ _ _ _ _ _ _ _ (@aA _ _ _ _ _ 6 _ _ nd rfl ↥3 (@aY _ _ _ _ _ _ _ _ _ _ _ _ _ _ _ Oa OP (hr.mono ⋯) ((¬3)∘((¬4)∘ac)) ∅ ⋯ ∅ ∅) ∅ (by trivial)) (@ag _ _ _ _ _ _ _ _ (@bU _ _ _ _ _ _ _ _ _ _ _ (@rS _ _ _ _ (@kl _ _ _ _ _ _ _ _ (@gp _ _ _ _ _ (@dq _ _ _ _ (@aY _ _ _ _ _ _ _ _ _ _ _ _ _ _ _ Og OB (hr.mono ⋯) ((¬3)∘((¬6)∘ac)) ∅ ⋯ ∅ ∅) ↥5)) (@kl _ _ _ _ _ _ _ _ (@aV _ _ _ _ _ _ _ _ _ (@Aw _ _ _ rfl hr) (¬5) (@aT _ _ _ _ _ _ ((¬3)∘((¬4)∘ac))) (aZ _)) (@j6 _ _ _ _ _ (@gp _ _ _ _ _ (@dq _ _ _ _ (@aY _ _ _ _ _ _ _ _ _ _ _ _ _ _ _ OW Pq (hr.mono ⋯) ((@aY _ _ _ _ _ _ _ _ _ _ _ _ _ _ _ Oa OP (hr.mono ⋯) ((¬3)∘((¬4)∘ac)) ∅ ⋯ ∅ ∅)∘((¬6)∘ac)) ∅ ⋯ ∅ ∅) ↥5)))))) (@aj _ _ _ _ _ (@aL _ _ _ _ _ (@di _ _ _ _ _))) (@aX _ _)) (@aj _ _ _ _ _ (@el _ _ _ _ _ _ _ _ _ _ _ RX rfl (@ej _ _ _ _ _ rfl (@aY _ _ _ _ _ _ _ _ _ _ _ _ _ _ _ OA Pr (hr.mono ⋯) ((@aP _ _ _ _ _ _ _ _ _ (@b_len _ _ rfl) ∅ T.b_len ((¬4)∘ac) ⋯ ⋯ ∅ ∅)∘ac) ∅ ⋯ ∅ ∅)) (@ax _ _ _ 7 _ nd rfl ↥3 (by trivial)) (@aj _ _ _ _ _ (@bU _ _ _ _ _ _ _ _ _ _ _ (@gp _ _ _ _ _ (@dq _ _ _ _ (@aY _ _ _ _ _ _ _ _ _ _ _ _ _ _ _ Of Ot (hr.mono ⋯) ((¬3)∘((¬4)∘((¬6)∘((¬7)∘ac)))) ∅ ⋯ ∅ ∅) ↥5)) (@aj _ _ _ _ _ (@aL _ _ _ _ _ (@di _ _ _ _ _))) (@aX _ _))) ↥5))))))) ↥5) (@ag _ _ _ _ _ _ _ _ (@aA _ _ _ _ _ 8 _ _ nd rfl ↥3 (@cL _ _ _ _ _ _ _ rfl af (@a_ _ _ _ _ _ _ _ (@aY _ _ _ _ _ _ _ _ _ _ _ _ _ _ _ N_ N' (hr.mono ⋯) ((¬1)∘ac) ∅ ⋯ ∅ ∅) af)) ∅ (by trivial)) (@ag _ _ _ _ _ _ _ _ (@aA _ _ _ _ _ 9 _ _ nd rfl ↥3 (@aY _ _ _ _ _ _ _ _ _ _ _ _ _ _ _ Pc P7 (hr.mono ⋯) ((¬1)∘((¬8)∘ac)) ∅ ⋯ ∅ ∅) ∅ (by trivial)) (@ag _ _ _ _ _ _ _ _ (@aA _ _ _ _ _ 4 _ _ nd rfl ↥3 (@aY _ _ _ _ _ _ _ _ _ _ _ _ _ _ _ Pd P8 (hr.mono ⋯) ((¬1)∘((¬9)∘((¬8)∘ac))) ∅ ⋯ ∅ ∅) ∅ (by trivial)) (@ag _ _ _ _ _ _ _ _ (@bU _ _ _ _ _ _ _ _ _ _ _ (@rS _ _ _ _ (@kl _ _ _ _ _ _ _ _ (@gp _ _ _ _ _ (@dq _ _ _ _ (@aY _ _ _ _ _ _ _ _ _ _ _ _ _ _ _ Ou O_ (hr.mono ⋯) ((¬9)∘((¬4)∘ac)) ∅ ⋯ ∅ ∅) ↥5)) (@j6 _ _ _ _ _ (@gp _ _ _ _ _ (@dq _ _ _ _ (@aY _ _ _ _ _ _ _ _ _ _ _ _ _ _ _ Ou O_ (hr.mono ⋯) ((¬9)∘((@iV _ _ _ _ _ _ _ _ _ _ rfl (¬4) (@iX _ _) (@iY _ _ _ _ af))∘ac)) ∅ ⋯ ∅ ∅) ↥5))))) (@aj _ _ _ _ _ (@aL _ _ _ _ _ (@di _ _ _ _ _))) (@aX _ _)) (@ag _ _ _ _ _ _ _ _ (@aA _ _ _ _ _ 6 _ _ nd rfl ↥3 (@aY _ _ _ _ _ _ _ _ _ _ _ _ _ _ _ Oa OP (hr.mono ⋯) ((¬9)∘((@iV _ _ _ _ _ _ _ _ _ _ rfl (¬4) (@iX _ _) (@iY _ _ _ _ af))∘ac)) ∅ ⋯ ∅ ∅) ∅ (by trivial)) (@ag _ _ _ _ _ _ _ _ (@bU _ _ _ _ _ _ _ _ _ _ _ (@gp _ _ _ _ _ (@dq _ _ _ _ (@aY _ _ _ _ _ _ _ _ _ _ _ _ _ _ _ Og OB (hr.mono ⋯) ((¬9)∘((¬6)∘ac)) ∅ ⋯ ∅ ∅) ↥5)) (@aj _ _ _ _ _ (@aL _ _ _ _ _ (@di _ _ _ _ _))) (@aX _ _)) (@ag _ _ _ _ _ _ _ _ (@el _ _ _ _ _ _ _ _ _ _ _ RX rfl (@cC _ _ _ _ _ _ _ rfl T.b_range (af∘ac) ∅) (@ax _ _ _ 2 _ nd rfl ↥3 (by trivial)) (@aj _ _ _ _ _ (@bU _ _ _ _ _ _ _ _ _ _ _ (@gp _ _ _ _ _ (@dq _ _ _ _ (@aY _ _ _ _ _ _ _ _ _ _ _ _ _ _ _ Of Ot (hr.mono ⋯) ((¬9)∘((@iV _ _ _ _ _ _ _ _ _ _ rfl (¬4) (@iX _ _) (@iY _ _ _ _ af))∘((¬6)∘((@aY _ _ _ _ _ _ _ _ _ _ _ _ _ _ _ OC Pt (hr.mono ⋯) ((¬1)∘(af∘ac)) ∅ ⋯ ∅ ∅)∘ac)))) ∅ ⋯ ∅ ∅) ↥5)) (@aj _ _ _ _ _ (@aL _ _ _ _ _ (@di _ _ _ _ _))) (@aX _ _))) ↥5) (@aj _ _ _ _ _ (@aL _ _ _ _ _ (@aY _ _ _ _ _ _ _ _ _ _ _ _ _ _ _ Of Ot (hr.mono ⋯) ((¬9)∘((@iV _ _ _ _ _ _ _ _ _ _ rfl (¬4) (@iX _ _) (@iY _ _ _ _ af))∘((¬6)∘((@nA _ _ _ _ _ _ _ rfl (@aT _ _ _ _ _ _ ((@di _ _ _ _ _)∘ac)) af)∘ac)))) ∅ ⋯ ∅ ∅)))))))))))))
local macro_rules|`(tactic|simp?[$ts,*])=>`(tactic|simp[$ts,*,jd,lZ,ay,ir,bh,bX,aW,cM,kB,r8,vN,aF,aB,s_,ae,vC,cD,ai,aa,bF,aH,cf,pM,sN,iN,KL,ky,zc,l6,wd,gw,fQ,bz,bi,m9,eS,gU,mh,dZ,bo,vh,wc,bV,aG,ah,bN,ci,aM,be,xg,dY,fD,dP,gE,jU,jS,jQ,jP,gZ,gY,fK,eO,gX,qT,ki,ml,qU,mr,jT,mn,mq,hU,hJ,eQ,hV,mX,md,i7,kJ,kM,qB,eK,eJ,fH,jR,Rk,-RQ,-Rn,-SN,-Tw,-Rr,-Su,-getElem?_pos,-Sl,qL,qK,qG,qF,qI,qJ,qH,qM])
theorem zu{n k:Int}(h:0<k):0<=n%k:=VG _ (Int.ne_of_gt h)
theorem zw{n k:Int}(h:0<k):n%k<k:=VH _ h
def nx:List Int->Int|[]=>0|d::_=>d
def je(ds:List Int):Prop:=∀d∈ds,0<=d/\d<2147483648
theorem H_{ds:List Int}(h:je ds):0<=nx ds/\nx ds<2147483648:=by cases ds with|nil=>exact⟨Int.le_refl 0,by show(0:Int)<2147483648;decide⟩|cons d r=>exact h d ↥1
theorem Mx{ds:List Int}(h:je ds):je ds.tail:=λd hd=>h d (List.mem_of_mem_tail hd)
theorem KC(ds:List Int):a9 [.l (ds.map .int)]=some (.d (.int (nx ds)),[.l (ds.tail.map .int)]):=by have hq:∀e:En,e[0]?=some (some (.l (ds.map .int)))->cN false e (.s 0) (.l [])=some (.d (.bool (ds.map PyData.int).isEmpty)):=λe he=>qR he (lu ds).1;cases ds with|nil=>simp?[a9,x_,hq,nx]|cons d r=>simp?[a9,x_,hq,nx]
theorem jI{ds:List Int}(hd:je ds):∃(n:Int) (ds':List Int),a9 [.l (ds.map .int)]=some (.d (.int n),[.l (ds'.map .int)])/\0<=n/\n<2147483648/\je ds':=⟨nx ds,ds.tail,KC ds,(H_ hd).1,(H_ hd).2,Mx hd⟩
theorem Ah(cell k:Int)(h0:0<=k)(h1:k<=1000):∃r,lK [.d (.int cell),.d (.int k)]=some (.d (.int r),[.d (.int cell),.d (.int k)])/\0<=r/\r<2147483648:=by
 have a1:oy (cell%2147483647) 48271=true:=vG ⋯ ⋯;have a2:oy 7919 k=true:=C5 ⋯ ⋯;have a3:oy (7919*k) k=true:=vG ↥0 ↥0;have a4:oy ((cell%2147483647*48271+7919*k*k+104729)%2147483647) ((cell%2147483647*48271+7919*k*k+104729)%2147483647)=true:=vG ↥0 ↥0;refine⟨_,by simp?[lK,zm,aO,qW,a1,a2,a3,a4];rfl,?_,?_⟩;·lia
 ·lia
theorem vg{ds:List Int}(h:je ds){r:Int}(h0:0<=r)(h1:r<2147483648):je (ds++[r]):=λd hd=>by
 rcases QL hd with hd|hd;·exact h d hd
 ·simp at hd;subst hd;exact⟨h0,h1⟩
abbrev dE(ns ds:List Int)(v2 v3 v4:Option Sv):En:=[some (.d (.list (ns.map .int))),some (.l (ds.map .int)),v2,v3,v4]
inductive DI (ns:List Int) (i:Nat):En->Prop|mk{ds v2 v3 v4}(hd:je ds) (hl:ds.length<=1000*i):DI ns i (dE ns ds v2 v3 v4)
inductive DJ (ns:List Int) (k cell:Int) (n i:Nat):En->Prop|mk{ds v4}(hd:je ds) (hl:ds.length=n+i):DJ ns k cell n i (dE ns ds (some (.d (.int k))) (some (.d (.int cell))) v4)
inductive DW (ns:List Int) (k:Int) (v4:Option Sv) (n:Nat):En->Prop|mk{cell ds}(hc:0<=cell) (hd:je ds) (hl:ds.length<=max n 900):DW ns k v4 n (dE ns ds (some (.d (.int k))) (some (.d (.int cell))) v4)
theorem Hn(ns:List Int)(hn:ns.length<=63):∃ds,m6 [.d (.list (ns.map .int))]=some (.l (ds.map .int),[.d (.list (ns.map .int))])/\je ds:=by
 have inner:∀(cell k:Int) (ds:List Int) (v4:Option Sv),0<=k->k<=63->je ds->ds.length<=63000->∃ds' v4',(∀W,cO W lI (ah 4) jj (dE ns ds (some (.d (.int k))) (some (.d (.int cell))) v4)=some (.nx (dE ns ds' (some (.d (.int k))) (some (.d (.int cell))) v4')))/\je ds'/\ds'.length=ds.length+12:=by
  intro cell k ds v4 k0 k1 hd hl;obtain⟨e',h1,h2⟩:=bC (own:=[]) (g:=ah 4) (f:=jj) (DJ ns k cell ds.length) (bf 0 12) 0 (dE ns ds (some (.d (.int k))) (some (.d (.int cell))) v4) (λi x e hx hI=>by
   obtain⟨rfl,hi⟩:=cX hx;obtain⟨hd',hl'⟩:=hI;rename_i ds' v4';obtain⟨r1,c1,_,_⟩:=Ah cell (3*(0+(i:Int))+1) ↥0 ↥0;obtain⟨r2,c2,c3,c4⟩:=Ah r1 (0+(i:Int)+k+2) ↥0 ↥0;have a1:oy 3 (0+(i:Int))=true:=C5 ⋯ ⋯;refine⟨_,dE ns (ds'++[r2]) (some (.d (.int k))) (some (.d (.int cell))) (some (.d (.int (0+(i:Int))))),rfl,?_,aQ,.mk (vg hd' c3 c4) ↥7⟩;have hlen:ds'.length<1000000:=by lia
   simp only[Int.zero_add]at a1 c1 c2;simp?[dE,jj,c1,c2,qW,a1,hlen]) (.mk hd rfl);obtain⟨hd',hl'⟩:=h2;rename_i ds' v4';rw[dU]at hl';refine⟨ds',v4',λW=>?_,hd',by lia⟩;rw[bR (show lI _=some (bf 0 12,[],_) from bT (n:=12) rfl ⋯ ⋯)];exact h1
 have wh:∀(cell k:Int) (ds:List Int) (v4:Option Sv),0<=cell->je ds->ds.length<=63100->∃cell' ds',iz (2^4200) gJ lE (dE ns ds (some (.d (.int k))) (some (.d (.int cell))) v4)=some (.nx (dE ns ds' (some (.d (.int k))) (some (.d (.int cell'))) v4))/\0<=cell'/\je ds'/\ds'.length<=max ds.length 900:=by
  intro cell k ds v4 hc hd hl;have tst:∀(cell:Int) (ds:List Int),gJ (dE ns ds (some (.d (.int k))) (some (.d (.int cell))) v4)=some (decide (1000000000000000000<=cell)&&decide ((ds.length:Int)<900),dE ns ds (some (.d (.int k))) (some (.d (.int cell))) v4):=by
   intro cell ds;by_cases h:(1000000000000000000:Int)<=cell;·simp?[dE,gJ,mW,nu,h]
   ·simp?[dE,gJ,mW,nu,h]
  obtain⟨e0,e',h1,hI,h3⟩:=ka (ft:=gJ) (f:=lE) (DW ns k v4 ds.length) (λe=>1000000-ue 1 e) (λe hI=>by
   obtain⟨hc',hd',hl'⟩:=hI;rename_i cell' ds';rw[tst];by_cases c1:(1000000000000000000:Int)<=cell'
   ·by_cases c2:(ds'.length:Int)<900
    ·refine .inr ⟨_,dE ns (ds'++[cell'%2147483629]) (some (.d (.int k))) (some (.d (.int (cell'/2147483629)))) v4,by rw[decide_eq_true c1,decide_eq_true c2];rfl,?_,.mk ↥0 (vg hd' ↥0 ↥0) ↥7,?_⟩
     ·have hlen:ds'.length<1000000:=by lia
      have b8:Bt 8000 2147483629:=me ⋯ ⋯;simp?[dE,lE,aO,eN,b8,hlen]
     ·simp[ue,dE];lia
    ·exact .inl ⟨_,by rw[decide_eq_true c1,decide_eq_false c2];rfl,trivial⟩
   ·exact .inl ⟨_,by rw[decide_eq_false c1];rfl,trivial⟩) (2^4200) _ (.mk hc hd ↥0) (vF (m:=20) (Vs (Nat.sub_le _ _) ⋯) ⋯);obtain⟨hc',hd',hl'⟩:=hI;rename_i cell' ds';rw[tst]at h3;have h4:=(Prod.mk.inj (RG h3)).2;subst h4;exact⟨cell',ds',h1,hc',hd',hl'⟩
 have turn:∀(i:Nat) (ds:List Int) (v3 v4:Option Sv) (hi:i<ns.length),je ds->ds.length<=1000*i->∃ds2 v3' v4',gG (dE ns ds (some (.d (.int (i:Int)))) v3 v4)=some (.nx (dE ns ds2 (some (.d (.int (i:Int)))) v3' v4'))/\je ds2/\ds2.length<=1000*(i+1):=by
  intro i ds v3 v4 hi hd hl;have hcell:atI (ns.map PyData.int) (i:Int)=some (.int ns[i]):=by rw[i8 ↥0 (by rw[Rq];lia)];simp[hi]
  have c0:(0:Int)<=(ns[i].natAbs:Int):=by lia
  have st:aW 3 (aH (g1 AJ) (aa (aB eE (ae 0) (ae 2)) ai)) (dE ns ds (some (.d (.int (i:Int)))) v3 v4)=some (.nx (dE ns ds (some (.d (.int (i:Int)))) (some (.d (.int (ns[i].natAbs:Int)))) v4)):=by simp?[dE,hcell]
  generalize (ns[i].natAbs:Int)=cell at c0 st;have mid:∃ds1 v4',ir (aF (aB HX (ae 3) (aB vt (vC (.int 10)) (vC (.int 18))))) (cO ([4]++[]) lI (ah 4) jj) bX (dE ns ds (some (.d (.int (i:Int)))) (some (.d (.int cell))) v4)=some (.nx (dE ns ds1 (some (.d (.int (i:Int)))) (some (.d (.int cell))) v4'))/\je ds1/\ds1.length<=ds.length+12:=by
   by_cases cb:cell<1000000000000000000;·obtain⟨ds1,v4',f1,f2,f3⟩:=inner cell (i:Int) ds v4 ↥0 ↥0 hd ↥0;refine⟨ds1,v4',?_,f2,by lia⟩;rw[Es (e1:=dE ns ds (some (.d (.int (i:Int)))) (some (.d (.int cell))) v4) (by simp?[dE,mW,nu,cb])];exact f1 _
   ·refine⟨ds,v4,?_,hd,by lia⟩;rw[Iq (e1:=dE ns ds (some (.d (.int (i:Int)))) (some (.d (.int cell))) v4) (by simp?[dE,mW,nu,cb])];rfl
  obtain⟨ds1,v4',m1,m2,m3⟩:=mid;obtain⟨cell2,ds2,w1,w2,w3,w4⟩:=wh cell (i:Int) ds1 v4' c0 m2 ↥0;by_cases c2:(2147483629:Int)<=cell2
  ·refine⟨ds2++[cell2%2147483629],some (.d (.int cell2)),v4',?_,vg w3 ↥0 ↥0,by simp;lia⟩;have hlen:ds2.length<1000000:=by lia
   unfold gG;rw[bS st,bS m1,bS w1];simp?[dE,c2,aO,hlen]
  ·refine⟨ds2,some (.d (.int cell2)),v4',?_,w3,by lia⟩;unfold gG;rw[bS st,bS m1,bS w1];simp?[dE,c2]
 obtain⟨e',h1,hI⟩:=bC (own:=[]) (g:=ah 2) (f:=gG) (DI ns) (bf 0 (min (ns.length:Int) 63).toNat) 0 (dE ns [] none none none) (λi x e hx hI=>by obtain⟨rfl,hi⟩:=cX hx;obtain⟨hd,hl⟩:=hI;rename_i ds v2 v3 v4;rw[Ta]at hl⊢;obtain⟨ds2,v3',v4',t1,t2,t3⟩:=turn i ds v3 v4 ↥0 hd hl;exact⟨dE ns ds (some (.d (.int (i:Int)))) v3 v4,_,by simp[ah,dE],t1,aQ,.mk t2 t3⟩) (.mk (λd hd=>by cases hd) ↥1);obtain⟨hd,hl⟩:=hI;rename_i ds v2 v3 v4;refine⟨ds,?_,hd⟩;have hf:∀W,cO W om (ah 2) gG (dE ns [] none none none)=some (.nx (dE ns ds v2 v3 v4)):=λW=>by rw[bR (show om _=some (bf 0 (min (ns.length:Int) 63).toNat,[],dE ns [] none none none) from bT (n:=min (ns.length:Int) 63) (by simp?[dE]) ↥0 ↥0)];exact h1
 unfold dE at hf;simp only[RQ]at hf;simp?[m6,zl,hf]
theorem Mu(a b:Int)(hb:Bt 4000 b):w6 [.d (.int a),.d (.int b)]=some (.d (.int (Rw a b)),[.d (.int a),.d (.int b)]):=by
 have tst:∀x y:Int,mQ [some (.d (.int x)),some (.d (.int y))]=some (!(y==0),[some (.d (.int x)),some (.d (.int y))]):=λx y=>by simp?[mQ]
 obtain⟨e0,e',h1,⟨x,y,he,hg,hy⟩,h3⟩:=ka (ft:=mQ) (f:=pQ) (λe=>∃x y,e=[some (.d (.int x)),some (.d (.int y))]/\Rw x y=Rw a b/\Bt 4000 y) (C6 1) (λe⟨x,y,he,hg,hy⟩=>by
  subst he;rw[tst];by_cases c:y=0;·subst c;exact .inl ⟨_,rfl,trivial⟩
  ·refine .inr ⟨_,[some (.d (.int y)),some (.d (.int (x.fmod y)))],by rw[beq_false_of_ne c];rfl,by simp?[pQ,IV c],⟨y,x.fmod y,rfl,by rw[CJ,hg],?_⟩,?_⟩;·have:=oZ x c;exact Bt.of_le hy ↥0
   ·have:=oZ x c;simpa[C6]using this) (2^4200) _ ⟨a,b,rfl,rfl,hb⟩ (vF (m:=4000) (by simpa[C6,Bt]using hb) ⋯);subst he;rw[tst]at h3;have h4:=Prod.mk.inj (RG h3);have hy0:y=0:=by simpa using h4.1
 subst hy0;have h5:=h4.2;subst h5;have hs:iz (2^4200) mQ pQ [some (.d (.int a)),some (.d (.int b))]=some (.nx [some (.d (.int x)),some (.d (.int 0))]):=h1;have hg':(x.natAbs:Int)=(Rw a b:Int):=by rw[<-hg];simp
 simp only[w6,HK,jd,lZ,ay,ir,bh,bX,aW,cM,kB,r8,vN,aF,aB,s_,ae,vC,cD,ai,aa,bF,aH,cf,pM,sN,iN,KL,ky,zc,l6,wd,gw,fQ,bz,bi,m9,eS,gU,mh,dZ,bo,vh,wc,bV,aG,ah,bN,ci,aM,be,xg,dY,fD,dP,gE,jU,jS,jQ,jP,gZ,gY,fK,eO,gX,qT,ki,ml,qU,mr,jT,mn,mq,hU,hJ,eQ,hV,mX,md,i7,kJ,kM,qB,eK,eJ,fH,jR,Rk,-RQ,-Rn,-SN,-Tw,-Rr,-Su,-getElem?_pos,-Sl,qL,qK,qG,qF,qI,qJ,qH,qM];simp?[hs,hg']
theorem Iy(t b:Int)(hb:0<b)(h:Bt 4000 b):ui [.d (.int t),.d (.int b)]=some (.d (.tuple [.int (gh t b).1,.int (gh t b).2]),[.d (.int t),.d (.int b)]):=by
 have g0:=zA (t:=t) (b:=b) ↥0;have g1:(Rw t b:Int)≠0:=by lia
 have g8:Bt 8000 (Rw t b:Int):=(IW (t:=t) ↥0 h).mono ⋯;have e:gh t b=(t.fdiv (Rw t b:Int),b.fdiv (Rw t b:Int)):=by unfold gh;rw[if_neg ↥0]
 rw[e];simp?[ui,HL,Mu t b h,FC g1 g8]
theorem HP{i:Int}{n:Nat}(h1:-2147483648<i)(h2:i<2147483648)(hn:31<=n):Bt n i:=Bt.mono (m:=31) (by unfold Bt;lia) hn
def Cj(t b:Int):Prop:=0<=t/\t<=b/\1<=b/\b<=100/\Rw t b=1
theorem EM(n k:Int)(hn:0<=n):∃t b,fM [.d (.int n),.d (.int k)]=some (.d (.tuple [.int t,.int b]),[.d (.int n),.d (.int k)])/\Cj t b:=by
 have b9:Bt 8000 9:=me ⋯ ⋯;have b100:Bt 8000 100:=me ⋯ ⋯;have low:∀t b:Int,0<b->0<=t->t<=b->b<=100->Cj (gh t b).1 (gh t b).2:=λt b hb h0 h1 h2=>by obtain⟨r1,r2,r3,r4⟩:=yy hb h0 h1 h2;exact⟨r1,r2,r3,r4,C2 ↥0⟩
 by_cases c0:k=0
 ·subst c0;obtain⟨x,hx,ha⟩:=kN (xs:=[PyData.tuple [.int 1,.int 2],.tuple [.int 1,.int 3],.tuple [.int 2,.int 3],.tuple [.int 1,.int 1],.tuple [.int 0,.int 1],.tuple [.int 3,.int 4]]) (i:=n%6) ↥0 ↥7;obtain⟨t,b,rfl,hc⟩:∃t b,x=.tuple [.int t,.int b]/\Cj t b:=by simp only[RC,RM,or_false]at hx;rcases hx with rfl|rfl|rfl|rfl|rfl|rfl<;>exact⟨_,_,rfl,by unfold Cj;decide⟩
  exact⟨t,b,by simp?[fM,kO,aO,ha],hc⟩
 ·by_cases c1:k=1;·subst c1;have hm:(n/9)%(2+n%9-1)<2+n%9-1:=VH _ ↥0;have hm0:0<=(n/9)%(2+n%9-1):=VG _ ↥0;refine⟨_,_,?_,low (1+(n/9)%(2+n%9-1)) (2+n%9) ↥0 ↥0 ↥0 ↥0⟩;have hpos:∀e:En,a' e (.d (.int (n/9))) (.d (.int (2+n%9-1)))=_:=λe=>aO ↥0;have hl:=Iy (1+(n/9)%(2+n%9-1)) (2+n%9) ↥0 (HP ↥0 ↥0 ⋯);simp?[fM,kO,aO,eN,b9,hpos,hl]
  ·by_cases c2:k=2;·subst c2;have hm:(n/100)%(1+n%100+1)<1+n%100+1:=VH _ ↥0;have hm0:0<=(n/100)%(1+n%100+1):=VG _ ↥0;refine⟨_,_,?_,low ((n/100)%(1+n%100+1)) (1+n%100) ↥0 ↥0 ↥0 ↥0⟩;have hpos:∀e:En,a' e (.d (.int (n/100))) (.d (.int (1+n%100+1)))=_:=λe=>aO ↥0;have hl:=Iy ((n/100)%(1+n%100+1)) (1+n%100) ↥0 (HP ↥0 ↥0 ⋯);simp?[fM,kO,aO,eN,b100,hpos,hl]
   ·refine⟨1,1,?_,by unfold Cj;decide⟩;simp?[fM,kO,c0,c1,c2]
theorem Hq(n k:Int):∃r,m8 [.d (.int n),.d (.int k)]=some (.d (.int r),[.d (.int n),.d (.int k)])/\0<=r/\r<=1000:=by
 obtain⟨x,hx,ha⟩:=kN (xs:=[PyData.int (n%7),.int (5+n%2),.int (n%1001),.int (1000-n%3)]) (i:=k%4) ↥0 ↥7;obtain⟨r,rfl,hr⟩:∃r,x=.int r/\0<=r/\r<=1000:=by simp only[RC,RM,or_false]at hx;rcases hx with rfl|rfl|rfl|rfl<;>exact⟨_,rfl,by lia,by lia⟩
 exact⟨r,by simp?[m8,zp,aO,ha],hr⟩
abbrev tE(ds:List Int)(things many shape odds ws:Int)(ts:List pO)(v7 v8 v9 v10 v11 v12:Option Sv):En:=[some (.l (ds.map .int)),some (.d (.int things)),some (.d (.int many)),some (.d (.int shape)),some (.d (.int odds)),some (.d (.int ws)),some (.l (ts.map cT)),v7,v8,v9,v10,v11,v12]
inductive TR (things many shape odds ws:Int) (ts:List pO) (k:Option Sv):En->Prop|mk{t ds w8 w9 w10 w11 w12}(hd:je ds) (ht:t.Ok things):TR things many shape odds ws ts k (tE ds things many shape odds ws (ts++[t]) k w8 w9 w10 w11 w12)
inductive TI (things many a b c:Int) (i:Nat):En->Prop|mk{ts ds w7 w8 w9 w10 w11 w12}(hd:je ds) (hl:ts.length=i) (ht:∀t∈ts,t.Ok things):TI things many a b c i (tE ds things many a b c ts w7 w8 w9 w10 w11 w12)
theorem Mv(ds:List Int)(things many shape odds ws:Int)(ts:List pO)(k:Int)(v8 v9 v10 v11 v12:Option Sv)(hd:je ds)(h2:2<=things)(h12:things<=100)(s0:0<=shape)(s1:shape<6)(k0:0<=k)(hl:ts.length<=1000):∃e',jk (tE ds things many shape odds ws ts (some (.d (.int k))) v8 v9 v10 v11 v12)=some (.nx e')/\TR things many shape odds ws ts (some (.d (.int k))) e':=by
 obtain⟨n,d1,tn,-,-,hd1⟩:=jI hd;obtain⟨m,d2,tm,m0,-,hd2⟩:=jI hd1;obtain⟨x,hx,ha⟩:=kN (xs:=[PyData.int (n%things),.int 0,.int (k%things),.int (n%things),.int (n%2),.int (n%things)]) (i:=shape) s0 ↥7;have tp:0<things:=WJ ⋯ h2;have tq:0<things-1:=Int.sub_pos_of_lt (WJ ⋯ h2);have nt:0<=n%things/\n%things<things:=⟨zu tp,zw tp⟩;have kt:0<=k%things/\k%things<things:=⟨zu tp,zw tp⟩;obtain⟨one,rfl,o0,o1⟩:∃r,x=.int r/\0<=r/\r<things:=by simp only[RC,RM,or_false]at hx;rcases hx with rfl|rfl|rfl|rfl|rfl|rfl<;>exact⟨_,rfl,by lia,by lia⟩
 have r0:0<=(n/12)%(things-1):=zu tq;have r1:(n/12)%(things-1)<things-1:=zw tq;have q0:0<=(one+1+(n/12)%(things-1))%things:=zu tp;have q1:(one+1+(n/12)%(things-1))%things<things:=zw tp;have qn:(one+1+(n/12)%(things-1))%things≠one:=λz=>by
  by_cases c:one+1+(n/12)%(things-1)<things;·rw[Int.emod_eq_of_lt ↥0 c]at z;lia
  ·have e:(one+1+(n/12)%(things-1))%things=(one+1+(n/12)%(things-1)-things)%things:=by rw[Int.sub_emod_right]
   rw[e,Int.emod_eq_of_lt ↥0 ↥0]at z;lia
 obtain⟨t,b,c1,c2,c3,c4,c5,c6⟩:=EM m odds m0;obtain⟨w,w1,w2,w3⟩:=Hq (m/10007) ws;have b12:Bt 8000 12:=me ⋯ ⋯;have b107:Bt 8000 10007:=me ⋯ ⋯;have g1:∀(e:En) (i:Int),a' e (.d (.int i)) (.d (.int things))=some (.d (.int (i%things))):=λe i=>aO tp;have g2:∀(e:En) (i:Int),a' e (.d (.int i)) (.d (.int (things-1)))=some (.d (.int (i%(things-1)))):=λe i=>aO tq;have hlen:ts.length<1000000:=by lia
 by_cases c:shape=4;·subst c;refine⟨tE d2 things many 4 odds ws (ts++[⟨0,1,t,b,w⟩]) (some (.d (.int k))) (some (.d (.int n))) (some (.d (.int 0))) (some (.d (.int 1))) (some (.d (.int m))) (some (.d (.tuple [.int 0,.int 1]))),?_,.mk hd2 ⟨by show(0:Int)<=0;decide,by show(0:Int)<1;decide,by show(1:Int)<things;lia,c2,c3,c4,c5,w2,w3,c6⟩⟩;simp?[tE,jk,tn,tm,aO,g1,g2,eN,b12,b107,ha,c1,w1,oh,cT,hlen];decide
 ·refine⟨tE d2 things many shape odds ws (ts++[⟨min one ((one+1+(n/12)%(things-1))%things),max one ((one+1+(n/12)%(things-1))%things),t,b,w⟩]) (some (.d (.int k))) (some (.d (.int n))) (some (.d (.int one))) (some (.d (.int ((one+1+(n/12)%(things-1))%things)))) (some (.d (.int m))) (some (.d (.tuple [.int (min one ((one+1+(n/12)%(things-1))%things)),.int (max one ((one+1+(n/12)%(things-1))%things))]))),?_,.mk hd2 ⟨by show 0<=min _ _;lia,by show min _ _<max _ _;lia,by show max _ _<_;lia,c2,c3,c4,c5,w2,w3,c6⟩⟩;simp?[tE,jk,tn,tm,aO,g1,g2,eN,b12,b107,ha,c1,w1,oh,cT,hlen,c]
theorem EQ(ds:List Int)(things many:Int)(hd:je ds)(h2:2<=things)(h12:things<=100)(m0:0<=many)(m1:many<=1000):∃(ts:List pO) (ds':List Int),mw [.l (ds.map .int),.d (.int things),.d (.int many)]=some (.d (.tuple (ts.map cT)),[.l (ds'.map .int),.d (.int things),.d (.int many)])/\je ds'/\(ts.length:Int)=many/\∀t∈ts,t.Ok things:=by
 obtain⟨n0,d1,t0,-,-,hd1⟩:=jI hd;obtain⟨n1,d2,t1,-,-,hd2⟩:=jI hd1;obtain⟨n2,d3,t2,-,-,hd3⟩:=jI hd2;obtain⟨e',h1,hI⟩:=bC (own:=[]) (g:=ah 7) (f:=jk) (TI things many (n0%6) (n1%4) (n2%4)) (bf 0 many.toNat) 0 (tE d3 things many (n0%6) (n1%4) (n2%4) [] none none none none none none) (λi x e hx hI=>by obtain⟨rfl,hi⟩:=cX hx;obtain⟨hd',hl,ht⟩:=hI;rename_i ts ds' w7 w8 w9 w10 w11 w12;obtain⟨e9,s1,⟨s2,s3⟩⟩:=Mv ds' things many (n0%6) (n1%4) (n2%4) ts (0+(i:Int)) w8 w9 w10 w11 w12 hd' h2 h12 (zu ⋯) (zw ⋯) ↥0 ↥0;exact⟨_,_,rfl,s1,aQ,.mk s2 ↥7 λz hz=>by
  rcases QL hz with hz|hz;·exact ht z hz
  ·simp at hz;subst hz;exact s3⟩) (.mk hd3 rfl λt ht=>by cases ht);obtain⟨hd',hl,ht⟩:=hI;rename_i ts ds' w7 w8 w9 w10 w11 w12;refine⟨ts,ds',?_,hd',by rw[hl,dU];lia,ht⟩;have hf:∀W,cO W qZ (ah 7) jk (tE d3 things many (n0%6) (n1%4) (n2%4) [] none none none none none none)=some (.nx (tE ds' things many (n0%6) (n1%4) (n2%4) ts w7 w8 w9 w10 w11 w12)):=λW=>by rw[bR (show qZ _=some (bf 0 many.toNat,[],tE d3 things many (n0%6) (n1%4) (n2%4) [] none none none none none none) from bT (n:=many) (by simp?[tE]) ↥0 ↥0)];exact h1
 unfold tE at hf;simp only[RQ]at hf;simp?[mw,B6,t0,t1,t2,aO,hf]
abbrev wE(ds:List Int)(most tn things many:Int)(ts:List pO)(way:Int)(ps:List Int)(v8 v9:Option Sv):En:=[some (.l (ds.map .int)),some (.d (.int most)),some (.d (.int tn)),some (.d (.int things)),some (.d (.int many)),some (.d (.tuple (ts.map cT))),some (.d (.int way)),some (.l (ps.map .int)),v8,v9]
inductive WI (most tn things many:Int) (ts:List pO) (way:Int) (i:Nat):En->Prop|mk{ps ds w8}(hd:je ds) (hpl:ps.length=i) (hps:∀p∈ps,0<=p/\p<=20):WI most tn things many ts way i (wE ds most tn things many ts way ps w8 none)
theorem Mw(ds:List Int)(most tn:Int)(hd:je ds)(m0:0<=most)(m1:most<=12)(k0:0<=tn)(k1:tn<=16):∃(W:aJ) (ds':List Int),w_ [.l (ds.map .int),.d (.int most),.d (.int tn)]=some (.d (au W),[.l (ds'.map .int),.d (.int most),.d (.int tn)])/\je ds'/\W.Ok/\W.things<=most/\(W.ties.length:Int)<=tn:=by
 obtain⟨n0,d1,t0,-,-,hd1⟩:=jI hd;obtain⟨n1,d2,t1,-,-,hd2⟩:=jI hd1;have mp:0<most+1:=Int.lt_add_one_of_le m0;have kp:0<tn+1:=Int.lt_add_one_of_le k0;have g0:∀(e:En),a' e (.d (.int n0)) (.d (.int (most+1)))=some (.d (.int (n0%(most+1)))):=λe=>aO mp;have g1':∀(e:En),a' e (.d (.int n1)) (.d (.int (tn+1)))=some (.d (.int (n1%(tn+1)))):=λe=>aO kp;have th0:0<=n0%(most+1):=zu mp;have th1:n0%(most+1)<most+1:=zw mp;have ti0:0<=n1%(tn+1):=zu kp;have ti1:n1%(tn+1)<tn+1:=zw kp;clear mp kp;generalize n0%(most+1)=things at th0 th1 g0;generalize n1%(tn+1)=tm at ti0 ti1 g1';obtain⟨many,hmany,mm,m00,m01⟩:∃many:Int,many=tm*(if decide (1<things)=true then 1 else 0)/\(1<things\/many=0)/\0<=many/\many<=tn:=by
  by_cases c:1<things;·exact⟨tm,by simp[c],.inl c,ti0,by lia⟩
  ·exact⟨0,by simp[c],.inr rfl,by lia,by lia⟩
 have gm:∀e:En,ja e (.d (.int tm)) (.d (.int (if decide (1<things)=true then 1 else 0)))=some (.d (.int many)):=λe=>by rw[qW (vG (by split<;>decide) (by split<;>decide)),hmany]
 have gi:∀e:En,g1 wO e [.d (.bool (decide (1<things)))]=some (.d (.int (if decide (1<things)=true then 1 else 0))):=λe=>rfl;generalize (if decide (1<things)=true then 1 else 0:Int)=one at gm gi;obtain⟨ts,d3,t3,hd3,hlen,hts⟩:=EQ d2 (max 2 things) many hd2 ↥0 ↥0 m00 ↥0;obtain⟨n4,d4,t4,-,-,hd4⟩:=jI hd3;obtain⟨e',h1,hI⟩:=bC (own:=[]) (g:=ah 8) (f:=pR) (WI most tn things many ts (n4%3)) (bf 0 things.toNat) 0 (wE d4 most tn things many ts (n4%3) [] none none) (λi x e hx hI=>by
  obtain⟨rfl,hi⟩:=cX hx;obtain⟨hd5,hpl,hps⟩:=hI;rename_i ps d5 w8;obtain⟨p1,d6,t6,-,-,hd6⟩:=jI hd5;obtain⟨p2,d7,t7,-,-,hd7⟩:=jI hd6;obtain⟨z,hz,ha⟩:=kN (xs:=[PyData.int 20,.int (1+p1%3),.int (p2%21)]) (i:=n4%3) (zu ⋯) (zw (k:=3) ⋯);obtain⟨p,rfl,hp⟩:∃r,z=.int r/\0<=r/\r<=20:=by simp only[RC,RM,or_false]at hz;rcases hz with rfl|rfl|rfl<;>exact⟨_,rfl,by lia,by lia⟩
  refine⟨wE d5 most tn things many ts (n4%3) ps (some (.d (.int (0+(i:Int))))) none,wE d7 most tn things many ts (n4%3) (ps++[p]) (some (.d (.int (0+(i:Int))))) none,rfl,?_,aQ,.mk hd7 ↥7 λq hq=>by
   rcases QL hq with hq|hq;·exact hps q hq
   ·simp at hq;subst hq;exact hp⟩;have hlen:ps.length<1000000:=by lia
  simp?[wE,pR,t6,t7,aO,ha,hlen]) (.mk hd4 rfl λp hp=>by cases hp);obtain⟨hd5,hpl,hps⟩:=hI;rename_i ps d5 w8;have hf:∀W,cO W vx (ah 8) pR (wE d4 most tn things many ts (n4%3) [] none none)=some (.nx (wE d5 most tn things many ts (n4%3) ps w8 none)):=λW=>by rw[bR (show vx _=some (bf 0 things.toNat,[],wE d4 most tn things many ts (n4%3) [] none none) from bT (n:=things) (by simp?[wE]) ↥0 ↥0)];exact h1
 obtain⟨p1,d6,t6,-,-,hd6⟩:=jI hd5;obtain⟨p2,d7,t7,-,-,hd7⟩:=jI hd6;obtain⟨p3,d8,t8,-,-,hd8⟩:=jI hd7;have xp:0<max 1 many:=WJ Int.zero_lt_one (Int.le_max_left _ _);have gx:∀(e:En),a' e (.d (.int p1)) (.d (.int (max 1 many)))=some (.d (.int (p1%max 1 many))):=λe=>aO xp;have x0:0<=p1%max 1 many:=zu xp;have x1:p1%max 1 many<max 1 many:=zw xp;obtain⟨z,hz,ha⟩:=kN (xs:=[PyData.int 40,.int (1+p1%max 1 many),.int (p2%41)]) (i:=p3%3) (zu ⋯) (zw (k:=3) ⋯);obtain⟨asks,rfl,hasks⟩:∃r,z=.int r/\0<=r/\r<=40:=by simp only[RC,RM,or_false]at hz;rcases hz with rfl|rfl|rfl<;>exact⟨_,rfl,by lia,by lia⟩
 rw[dU]at hpl;refine⟨⟨things,ts,ps,asks⟩,d8,?_,hd8,⟨th0,by show things<=12;lia,λt ht=>?_,by show ts.length<=16;lia,by show(ps.length:Int)=things;lia,hps,hasks.1,hasks.2⟩,by show things<=most;lia,by show(ts.length:Int)<=tn;lia⟩;·unfold wE at hf;simp only[RQ]at hf;simp?[w_,HM,t0,t1,g0,g1',gm,gi,t3,t4,aO,hf,t6,t7,t8,gx,ha,au]
 ·rcases mm with c|c;·have:=hts t ht;rw[show max 2 things=things by lia]at this;exact this
  ·have:ts=[]:=Vu.mp ↥0;subst this;cases ht
theorem uI{W:aJ}{asked:List Int}{thing:Int}(h:∀k∈asked,jK W k)(hl:asked.length<=1000):gL [.d (au W),.d (.tuple (asked.map .int)),.d (.int thing)]=some (.d (.int (W.many asked thing)),[.d (au W),.d (.tuple (asked.map .int)),.d (.int thing)]):=by
 let cs:En:=[some (.d (.int thing)),some (.d (au W))];have hc:∀x∈asked.map PyData.int,fj (cs++[some (.d x)])=some (E_ (λk=>W.has k thing) x,cs++[some (.d x)]):=λx hx=>by obtain⟨k,hk,rfl⟩:=QM hx;simp?[E_,cs,fj,au,mL (h k hk),cT,aJ.has]
 have he:∀x∈asked.map PyData.int,E_ (λk=>W.has k thing) x=true->fx (cs++[some (.d x)])=some (.d (id x),cs++[some (.d x)]):=λx hx _=>by simp?[cs,fx]
 obtain⟨t',hf⟩:=gK (cs:=cs) (ft:=fj) (fe:=fx) (b:=E_ (λk=>W.has k thing)) (y:=id) (asked.map PyData.int) none [] hc he ↥7;have hv:=jJ (cp:=[(2,"_law_thing"),(0,"_law_web_here")]) (nT:=1) (fi:=o6) (g:=ah 2) (ft:=fj) (fe:=fx) (e:=[some (.d (au W)),some (.d (.tuple (asked.map PyData.int))),some (.d (.int thing))]) (cs:=cs) (t:=[none]) (t':=[t']) (q_ (fa:=ae 1) rfl) rfl rfl hf;have hlen:(([]++UL id (List.filter (E_ (λk=>W.has k thing)) (asked.map PyData.int))).length:Int)=W.many asked thing:=by unfold aJ.many;simp[List.filter_map];rfl
 simp only[gL,tG,jd,lZ,ay,ir,bh,bX,aW,cM,kB,r8,vN,aF,aB,s_,ae,vC,cD,ai,aa,bF,aH,cf,pM,sN,iN,KL,ky,zc,l6,wd,gw,fQ,bz,bi,m9,eS,gU,mh,dZ,bo,vh,wc,bV,aG,ah,bN,ci,aM,be,xg,dY,fD,dP,gE,jU,jS,jQ,jP,gZ,gY,fK,eO,gX,qT,ki,ml,qU,mr,jT,mn,mq,hU,hJ,eQ,hV,mX,md,i7,kJ,kM,qB,eK,eJ,fH,jR,Rk,-RQ,-Rn,-SN,-Tw,-Rr,-Su,-getElem?_pos,-Sl,qL,qK,qG,qF,qI,qJ,qH,qM];simp?[hv];simpa using hlen
theorem Di{W:aJ}(ok:W.Ok){thing:Int}(h0:0<=thing)(h1:thing<W.things):atI (W.pat.map PyData.int) thing=some (.int (W.pat.getD thing.toNat 0)):=wn h0 (by have:=ok.pl;lia)
theorem Iz{W:aJ}(ok:W.Ok){asked taken:List Int}{k:Int}(h:∀k∈asked,jK W k)(hl:asked.length<=1000)(hk:jK W k):k8 [.d (au W),.d (cx asked taken),.d (.int k)]=some (.d (.bool (W.may asked taken k)),[.d (au W),.d (cx asked taken),.d (.int k)]):=by
 have tk:=hk.ok ok;have t0:=tk.o0;have t1:=tk.o1;have t2:=tk.o2;have p1:=Di ok (thing:=(W.tie k).one) ↥0 ↥0;have p2:=Di ok (thing:=(W.tie k).other) ↥0 ↥0;have a1:=uI (W:=W) (asked:=asked) (thing:=(W.tie k).one) h hl;have a2:=uI (W:=W) (asked:=asked) (thing:=(W.tie k).other) h hl;rw[fw]at a1 a2⊢;unfold aJ.may aJ.bears;by_cases c1:asked.contains k=true;·simp?[k8,tH,cx,c1];simp at c1;simp[c1]
 ·by_cases c2:W.asks<=(asked.length:Int)
  ·have c1':k∉asked:=by simpa using c1
   simp?[k8,tH,cx,c1',c2]
  ·have c1':k∉asked:=by simpa using c1
   have turn:∀(thing:Int) (v5:Option Sv),gL [.d (.tuple [.int W.things,.tuple (W.ties.map cT),.tuple (W.pat.map .int),.int W.asks]),.d (.tuple (asked.map .int)),.d (.int thing)]=some (.d (.int (W.many asked thing)),[.d (.tuple [.int W.things,.tuple (W.ties.map cT),.tuple (W.pat.map .int),.int W.asks]),.d (.tuple (asked.map .int)),.d (.int thing)])->atI (W.pat.map PyData.int) thing=some (.int (W.pat.getD thing.toNat 0))->jM [some (.d (.tuple [.int W.things,.tuple (W.ties.map cT),.tuple (W.pat.map .int),.int W.asks])),some (.d (cx asked taken)),some (.d (.int k)),some (.d (.tuple (asked.map .int))),some (.d (.tuple (taken.map .int))),some (.d (.int thing))]=(if (!taken.contains thing&&decide (W.many asked thing<W.pat.getD thing.toNat 0))=true then some (.nx [some (.d (.tuple [.int W.things,.tuple (W.ties.map cT),.tuple (W.pat.map .int),.int W.asks])),some (.d (cx asked taken)),some (.d (.int k)),some (.d (.tuple (asked.map .int))),some (.d (.tuple (taken.map .int))),some (.d (.int thing))]) else some (.rt (.d (.bool false)) [some (.d (.tuple [.int W.things,.tuple (W.ties.map cT),.tuple (W.pat.map .int),.int W.asks])),some (.d (cx asked taken)),some (.d (.int k)),some (.d (.tuple (asked.map .int))),some (.d (.tuple (taken.map .int))),some (.d (.int thing))])):=by
    intro thing v5 ha hp;by_cases d1:taken.contains thing=true
    ·have d1':thing∈taken:=by simpa using d1
     simp?[jM,d1']
    ·have d1':thing∉taken:=by simpa using d1
     by_cases d2:W.many asked thing<W.pat.getD thing.toNat 0
     ·have d2':¬W.pat.getD thing.toNat 0<=W.many asked thing:=by lia
      simp only[WA]at d2 d2' hp;simp?[jM,d1',ha,hp,d2,d2']
     ·have d2':W.pat.getD thing.toNat 0<=W.many asked thing:=by lia
      simp only[WA]at d2 d2' hp;simp?[jM,d1',ha,hp,d2,d2']
   have u1:=turn (W.tie k).one none a1 p1;have u2:=turn (W.tie k).other none a2 p2;have hf:∀Wl,cO Wl zC (ah 5) jM [some (.d (.tuple [.int W.things,.tuple (W.ties.map cT),.tuple (W.pat.map .int),.int W.asks])),some (.d (cx asked taken)),some (.d (.int k)),some (.d (.tuple (asked.map .int))),some (.d (.tuple (taken.map .int))),none]=iI [] (ah 5) jM [.int (W.tie k).one,.int (W.tie k).other] [some (.d (.tuple [.int W.things,.tuple (W.ties.map cT),.tuple (W.pat.map .int),.int W.asks])),some (.d (cx asked taken)),some (.d (.int k)),some (.d (.tuple (asked.map .int))),some (.d (.tuple (taken.map .int))),none]:=λWl=>by rw[bR];exact q_ (by simp?[mL hk,cT])
   unfold cx at u1 u2 hf⊢;by_cases e1:(!taken.contains (W.tie k).one&&decide (W.many asked (W.tie k).one<W.pat.getD (W.tie k).one.toNat 0))=true
   ·by_cases e2:(!taken.contains (W.tie k).other&&decide (W.many asked (W.tie k).other<W.pat.getD (W.tie k).other.toNat 0))=true;·rw[if_pos e1]at u1;rw[if_pos e2]at u2;rw[e1,e2];simp only[k8,tH,jd,lZ,ay,ir,bh,bX,aW,cM,kB,r8,vN,aF,aB,s_,ae,vC,cD,ai,aa,bF,aH,cf,pM,sN,iN,KL,ky,zc,l6,wd,gw,fQ,bz,bi,m9,eS,gU,mh,dZ,bo,vh,wc,bV,aG,ah,bN,ci,aM,be,xg,dY,fD,dP,gE,jU,jS,jQ,jP,gZ,gY,fK,eO,gX,qT,ki,ml,qU,mr,jT,mn,mq,hU,hJ,eQ,hV,mX,md,i7,kJ,kM,qB,eK,eJ,fH,jR,Rk,-RQ,-Rn,-SN,-Tw,-Rr,-Su,-getElem?_pos,-Sl,qL,qK,qG,qF,qI,qJ,qH,qM];simp?[c1',c2,hf,iI,u1,u2,aQ]
    ·rw[if_pos e1]at u1;rw[if_neg e2]at u2;rw[e1,Bool.not_eq_true _|>.mp e2];simp only[k8,tH,jd,lZ,ay,ir,bh,bX,aW,cM,kB,r8,vN,aF,aB,s_,ae,vC,cD,ai,aa,bF,aH,cf,pM,sN,iN,KL,ky,zc,l6,wd,gw,fQ,bz,bi,m9,eS,gU,mh,dZ,bo,vh,wc,bV,aG,ah,bN,ci,aM,be,xg,dY,fD,dP,gE,jU,jS,jQ,jP,gZ,gY,fK,eO,gX,qT,ki,ml,qU,mr,jT,mn,mq,hU,hJ,eQ,hV,mX,md,i7,kJ,kM,qB,eK,eJ,fH,jR,Rk,-RQ,-Rn,-SN,-Tw,-Rr,-Su,-getElem?_pos,-Sl,qL,qK,qG,qF,qI,qJ,qH,qM];simp?[c1',c2,hf,iI,u1,u2,aQ]
   ·rw[if_neg e1]at u1;rw[Bool.not_eq_true _|>.mp e1];simp only[k8,tH,jd,lZ,ay,ir,bh,bX,aW,cM,kB,r8,vN,aF,aB,s_,ae,vC,cD,ai,aa,bF,aH,cf,pM,sN,iN,KL,ky,zc,l6,wd,gw,fQ,bz,bi,m9,eS,gU,mh,dZ,bo,vh,wc,bV,aG,ah,bN,ci,aM,be,xg,dY,fD,dP,gE,jU,jS,jQ,jP,gZ,gY,fK,eO,gX,qT,ki,ml,qU,mr,jT,mn,mq,hU,hJ,eQ,hV,mX,md,i7,kJ,kM,qB,eK,eJ,fH,jR,Rk,-RQ,-Rn,-SN,-Tw,-Rr,-Su,-getElem?_pos,-Sl,qL,qK,qG,qF,qI,qJ,qH,qM];simp?[c1',c2,hf,iI,u1,aQ]
theorem xJ{W:aJ}{asked taken:List Int}{k:Int}(truth:Bool)(hk:jK W k)(h1:asked.length<60)(h2:taken.length<60):eg [.d (au W),.d (cx asked taken),.d (.int k),.d (.bool truth)]=some (.d (cx (aJ.askd asked k) (W.took taken k truth)),[.d (au W),.d (cx asked taken),.d (.int k),.d (.bool truth)]):=by
 have s1:∀e,g1 eP e [.d (.tuple (asked.map PyData.int++[.int k]))]=some (.l ((i4 (asked++[k])).map .int)):=λe=>by have:=jV (e:=e) (ns:=asked++[k]) ↥7;simpa using this
 have s2:∀e,g1 eP e [.d (.tuple (taken.map PyData.int++[.int (W.tie k).one,.int (W.tie k).other]))]=some (.l ((i4 (taken++[(W.tie k).one,(W.tie k).other])).map .int)):=λe=>by have:=jV (e:=e) (ns:=taken++[(W.tie k).one,(W.tie k).other]) ↥7;simpa using this
 have g1':∀e,cZ e (.d (.tuple (asked.map .int))) (.d (.tuple [.int k]))=some (.d (.tuple (asked.map .int++[.int k]))):=λe=>oh ↥7;have g2':∀e,cZ e (.d (.tuple (taken.map .int))) (.d (.tuple [.int (W.tie k).one,.int (W.tie k).other]))=some (.d (.tuple (taken.map .int++[.int (W.tie k).one,.int (W.tie k).other]))):=λe=>oh ↥7;rw[fw];cases truth with|true=>simp?[eg,qp,cx,mL hk,cT,g1',g2',s1,s2,aJ.askd,aJ.took]|false=>simp?[eg,qp,cx,g1',s1,aJ.askd,aJ.took]
theorem lB{W:aJ}{k:Int}(hk:jK W k):bP [.d (au W),.d (.int k)]=some (.d (.tuple [.int (W.tie k).one,.int (W.tie k).other]),[.d (au W),.d (.int k)]):=by rw[fw];simp?[bP,oT,mL hk,cT]
theorem xN{W:aJ}{asked:List Int}{thing:Int}(h:∀k∈asked,jK W k)(hl:asked.length<=1000):fP [.d (au W),.d (.tuple (asked.map .int)),.d (.int thing)]=some (.d (.int (W.many asked thing)),[.d (au W),.d (.tuple (asked.map .int)),.d (.int thing)]):=by
 let cs:En:=[some (.d (.int thing)),some (.d (au W))];have hc:∀x∈asked.map PyData.int,dy (cs++[some (.d x)])=some (E_ (λk=>W.has k thing) x,cs++[some (.d x)]):=λx hx=>by obtain⟨k,hk,rfl⟩:=QM hx;have t:=lB (h k hk);simp?[E_,cs,dy,t,aJ.has]
 have he:∀x∈asked.map PyData.int,E_ (λk=>W.has k thing) x=true->dz (cs++[some (.d x)])=some (.d (id x),cs++[some (.d x)]):=λx hx _=>by simp?[cs,dz]
 obtain⟨t',hf⟩:=gK (cs:=cs) (ft:=dy) (fe:=dz) (b:=E_ (λk=>W.has k thing)) (y:=id) (asked.map PyData.int) none [] hc he ↥7;have hv:=jJ (cp:=[(2,"thing"),(0,"web")]) (nT:=1) (fi:=lW) (g:=ah 2) (ft:=dy) (fe:=dz) (e:=[some (.d (au W)),some (.d (.tuple (asked.map PyData.int))),some (.d (.int thing))]) (cs:=cs) (t:=[none]) (t':=[t']) (q_ (fa:=ae 1) rfl) rfl rfl hf;have hlen:(([]++UL id (List.filter (E_ (λk=>W.has k thing)) (asked.map PyData.int))).length:Int)=W.many asked thing:=by unfold aJ.many;simp[List.filter_map];rfl
 simp only[fP,oS,jd,lZ,ay,ir,bh,bX,aW,cM,kB,r8,vN,aF,aB,s_,ae,vC,cD,ai,aa,bF,aH,cf,pM,sN,iN,KL,ky,zc,l6,wd,gw,fQ,bz,bi,m9,eS,gU,mh,dZ,bo,vh,wc,bV,aG,ah,bN,ci,aM,be,xg,dY,fD,dP,gE,jU,jS,jQ,jP,gZ,gY,fK,eO,gX,qT,ki,ml,qU,mr,jT,mn,mq,hU,hJ,eQ,hV,mX,md,i7,kJ,kM,qB,eK,eJ,fH,jR,Rk,-RQ,-Rn,-SN,-Tw,-Rr,-Su,-getElem?_pos,-Sl,qL,qK,qG,qF,qI,qJ,qH,qM];simp?[hv];simpa using hlen
theorem Gy{W:aJ}(ok:W.Ok){thing:Int}(h0:0<=thing)(h1:thing<W.things):atI (W.pat.map PyData.int) thing=some (.int (W.pat.getD thing.toNat 0)):=wn h0 (by have:=ok.pl;lia)
theorem Ag{W:aJ}(ok:W.Ok){asked taken:List Int}{thing:Int}(h:∀k∈asked,jK W k)(hl:asked.length<=1000)(h0:0<=thing)(h1:thing<W.things):bA [.d (au W),.d (cx asked taken),.d (.int thing)]=some (.d (.bool (W.bears asked taken thing)),[.d (au W),.d (cx asked taken),.d (.int thing)]):=by
 have a:=xN (thing:=thing) h hl;have p:=Gy ok h0 h1;have g2:∀e,eE e (.d (au W)) (.d (.int 2))=some (.d (.tuple (W.pat.map .int))):=λe=>by rw[fw,ki,kJ];rfl
 unfold aJ.bears;generalize W.pat.getD thing.toNat 0=q at p⊢;by_cases c:taken.contains thing=true;·simp only[c];simp at c;simp?[bA,eI,cx,c]
 ·have c':taken.contains thing=false:=by simpa using c
  simp only[c'];simp at c;unfold cx at a⊢;simp?[bA,eI,c,a,g2,p]
theorem BD{W:aJ}(ok:W.Ok){asked taken:List Int}{k:Int}(h:∀k∈asked,jK W k)(hl:asked.length<=1000)(hk:jK W k):eT [.d (au W),.d (cx asked taken),.d (.int k)]=some (.d (.bool (W.may asked taken k)),[.d (au W),.d (cx asked taken),.d (.int k)]):=by
 have o:=hk.ok ok;have o0:=o.o0;have o1:=o.o1;have o2:=o.o2;have b1:=Ag ok (taken:=taken) (thing:=(W.tie k).one) h hl ↥0 ↥0;have b2:=Ag ok (taken:=taken) (thing:=(W.tie k).other) h hl ↥0 ↥0;have th:=lB hk;have g3:∀e,eE e (.d (au W)) (.d (.int 3))=some (.d (.int W.asks)):=λe=>by rw[fw,ki,kM];rfl
 unfold aJ.may;by_cases c1:asked.contains k=true;·simp only[c1];simp at c1;simp?[eT,lF,cx,c1]
 ·have c1':asked.contains k=false:=by simpa using c1
  simp at c1;by_cases c2:W.asks<=(asked.length:Int);·simp only[c1',c2];simp?[eT,lF,cx,c1,c2,g3]
  ·simp only[c1',c2];have hc:dk [(0,"web"),(1,"stand")] 1 pb (ah 2) eF kS [some (.d (au W)),some (.d (cx asked taken)),some (.d (.int k)),some (.d (.tuple (asked.map .int)))]=some (.l [.bool (W.bears asked taken (W.tie k).one),.bool (W.bears asked taken (W.tie k).other)],[some (.d (au W)),some (.d (cx asked taken)),some (.d (.int k)),some (.d (.tuple (asked.map .int)))]):=by refine za (items:=[.int (W.tie k).one,.int (W.tie k).other]) (eo:=[some (.d (au W)),some (.d (cx asked taken)),some (.d (.int (W.tie k).other))]) (q_ (by simp?[th])) ?_ rfl;have hi:mG [(0,"web"),(1,"stand")] 1 [some (.d (au W)),some (.d (cx asked taken)),some (.d (.int k)),some (.d (.tuple (asked.map .int)))]=[some (.d (au W)),some (.d (cx asked taken)),none]:=rfl;rw[hi];simp?[cS,eF,kS,b1,b2]
   have ga:∀e,g1 (qY wM) e [.l [.bool (W.bears asked taken (W.tie k).one),.bool (W.bears asked taken (W.tie k).other)]]=some (.d (.bool (W.bears asked taken (W.tie k).one&&W.bears asked taken (W.tie k).other))):=λe=>by simp[g1,qY,gu,wM,uV]
   unfold cx at hc⊢;simp?[eT,lF,c1,c2,g3,hc,ga]
theorem eB{W:aJ}{asked taken:List Int}{k:Int}(truth:Bool)(hk:jK W k)(h1:asked.length<60)(h2:taken.length<60):br [.d (au W),.d (cx asked taken),.d (.int k),.d (.bool truth)]=some (.d (cx (aJ.askd asked k) (W.took taken k truth)),[.d (au W),.d (cx asked taken),.d (.int k),.d (.bool truth)]):=by
 have s1:∀e,g1 eP e [.d (.tuple (asked.map PyData.int++[.int k]))]=some (.l ((i4 (asked++[k])).map .int)):=λe=>by have:=jV (e:=e) (ns:=asked++[k]) ↥7;simpa using this
 have s2:∀e,g1 eP e [.d (.tuple (taken.map PyData.int++[.int (W.tie k).one,.int (W.tie k).other]))]=some (.l ((i4 (taken++[(W.tie k).one,(W.tie k).other])).map .int)):=λe=>by have:=jV (e:=e) (ns:=taken++[(W.tie k).one,(W.tie k).other]) ↥7;simpa using this
 have g1':∀e,cZ e (.d (.tuple (asked.map .int))) (.d (.tuple [.int k]))=some (.d (.tuple (asked.map .int++[.int k]))):=λe=>oh ↥7;have g2':∀e,cZ e (.d (.tuple (taken.map .int))) (.d (.tuple [.int (W.tie k).one,.int (W.tie k).other]))=some (.d (.tuple (taken.map .int++[.int (W.tie k).one,.int (W.tie k).other]))):=λe=>oh ↥7;have th:=lB hk;cases truth with|true=>simp?[br,gS,cx,th,g1',g2',s1,s2,aJ.askd,aJ.took]|false=>simp?[br,gS,cx,g1',s1,aJ.askd,aJ.took]
theorem C3{W:aJ}{s:Std}{k:Int}(h:W.may s.1 s.2 k=true):k∉s.1/\(s.1.length:Int)<W.asks/\∀e,W.has k e=true->e∉s.2/\W.many s.1 e<W.pat.getD e.toNat 0:=by
 simp only[aJ.may,aJ.bears,RE,Vy,Wm,decide_eq_true_eq,decide_eq_false_iff_not,List.contains_eq_mem]at h;obtain⟨⟨h1,h2⟩,h3,h4⟩:=h;refine⟨h1,by lia,λe he=>?_⟩;unfold aJ.has at he;rw[Bool.or_eq_true,beq_iff_eq,beq_iff_eq]at he;rcases he with rfl|rfl;·exact h3
 ·exact h4
abbrev oE(ds:List Int)(W:aJ)(most:Int)(left found:List Int)(v5:Option Sv):En:=[some (.l (ds.map .int)),some (.d (au W)),some (.d (.int most)),some (.l (left.map .int)),some (.l (found.map .int)),v5]
theorem yK{ds:List Int}{W:aJ}{most:Int}{left found:List Int}{v5:Option Sv}(hd:je ds)(hl:left.length<=100)(hf:found.length<=100):∃ds' left' found',gH (oE ds W most left found v5)=some (.nx (oE ds' W most left' found' v5))/\je ds'/\(found'++left').Perm (found++left)/\found'.length<=found.length+1:=by
 have gn:∀(e:En) (xs:List Int),e[3]?=some (some (.l (xs.map .int)))->cN true e (.s 3) (.l [])=some (.d (.bool (!(xs.map PyData.int).isEmpty))):=λe xs he=>qR he (lu xs).1;by_cases c:left=[];·subst c;refine⟨ds,[],found,?_,hd,.refl _,by lia⟩;have gn':=λe he=>gn e [] he;simp only[RQ,List.isEmpty_nil,UI]at gn';simp?[oE,gH,gn']
 ·obtain⟨n,d1,t1,a1,b1,hd1⟩:=jI hd;have pos:0<left.length:=List.length_pos_iff.mpr c;have m0:0<=n%(left.length:Int):=VG _ ↥0;have m1:n%(left.length:Int)<(left.length:Int):=VH _ ↥0;have gm:∀e,a' e (.d (.int n)) (.d (.int (left.length:Int)))=some (.d (.int (n%(left.length:Int)))):=λe=>aO ↥0;generalize n%(left.length:Int)=i at*;have hi:i.toNat<left.length:=by lia
  have hx:(left.map PyData.int)[i.toNat]?=some (.int left[i.toNat]):=by rw[RK,RS hi];rfl
  have he:(left.map PyData.int).eraseIdx i.toNat=(left.eraseIdx i.toNat).map .int:=by rw[oa]
  refine⟨d1,left.eraseIdx i.toNat,found++[left[i.toNat]],?_,hd1,?_,by simp⟩
  ·have gn':=λe he=>gn e left he;have ne:(left.map PyData.int).isEmpty=false:=by cases hq:left with|nil=>exact absurd hq c|cons x r=>rfl
   rw[ne]at gn';have ql:((left.map PyData.int).length:Int)=(left.length:Int):=by simp
   have hb:i<1000000000:=by lia
   have lf:(found.map PyData.int).length<1000000:=by simp;lia
   have e1:(found++[left[i.toNat]]).map PyData.int=found.map .int++[.int left[i.toNat]]:=by simp
   simp only[oE,e1,<-he];generalize left[i.toNat]=x at*;generalize found.map PyData.int=FF at*;generalize (left.length:Int)=L at*;generalize left.map PyData.int=LL at*;simp?[gH,gn',t1,ql,gm,m0,hb,hx,lf]
  ·rw[UF];exact List.Perm.append_left _ (mf left i.toNat hi)
theorem Ho{W:aJ}(ok:W.Ok){ds:List Int}(hd:je ds){most:Int}(m0:0<=most)(m1:most<=100):∃(os ds' left:List Int),m7 [.l (ds.map .int),.d (au W),.d (.int most)]=some (.d (.tuple (os.map .int)),[.l (ds'.map .int),.d (au W),.d (.int most)])/\je ds'/\(os++left).Perm (iL W.ties.length)/\(os.length:Int)<=most:=by
 have wl:=ok.len;obtain⟨n,d1,t1,a1,b1,hd1⟩:=jI hd;have k0:0<=n%(most+1):=VG _ ↥0;have k1:n%(most+1)<most+1:=VH _ ↥0;have gm:∀e,a' e (.d (.int n)) (.d (.int (most+1)))=some (.d (.int (n%(most+1)))):=λe=>aO ↥0;generalize n%(most+1)=many at*;have g1':∀e,eE e (.d (au W)) (.d (.int 1))=some (.d (.tuple (W.ties.map cT))):=λe=>by rw[fw,ki,i7];rfl
 obtain⟨e',h1,⟨d2,left,found,v5,he,hd2,hp,hfl⟩⟩:=bC (own:=[]) (g:=ah 5) (f:=gH) (λi e=>∃ds left found v5,e=oE ds W most left found v5/\je ds/\(found++left).Perm (iL W.ties.length)/\found.length<=i) (bf 0 many.toNat) 0 (oE d1 W most (iL W.ties.length) [] none) (λi x e hx⟨ds,left,found,v5,he,hd,hp,hfl⟩=>by subst he;have hl:=hp.length_eq;rw[RW,nH]at hl;obtain⟨ds',left',found',h1,h2,h3,h4⟩:=yK (W:=W) (most:=most) (left:=left) (found:=found) (v5:=some (.d x)) hd ↥0 ↥0;exact⟨_,_,rfl,h1,aQ,ds',left',found',_,rfl,h2,h3.trans hp,by lia⟩) ⟨d1,_,[],none,rfl,hd1,by simp,by simp⟩;subst he;have hf:∀Wl,cO Wl oo (ah 5) gH (oE ds W most (iL W.ties.length) [] none)=some (.nx (oE d2 W most left found v5)):=λWl=>by rw[bR (show oo (oE ds W most (iL W.ties.length) [] none)=some (bf 0 many.toNat,[],oE d1 W most (iL W.ties.length) [] none) from bT (n:=many) (by simp?[oE,t1,gm]) ↥0 ↥0)];exact h1
 rw[dU]at hfl;refine⟨found,d2,left,?_,hd2,hp,by lia⟩;simp only[oE,RQ]at hf;have ql:((W.ties.map cT).length:Int)=(W.ties.length:Int):=by simp
 have lr:∀(fs:FA) (e e1:En) (n:Nat),n<=16->fs e=some ([.d (.int (n:Int))],e1)->i5 fs e=some (.l ((iL n).map .int),e1):=λfs e e1 n hn h=>by unfold i5;rw[h];simp only[Rr,bo];rw[if_pos ↥0,Ug]
 have hr:i5 (aa (aH (g1 ee) (aa (aB eE (ae 1) (vC (.int 1))) ai)) ai) [some (.l (ds.map .int)),some (.d (au W)),some (.d (.int most)),none,none,none]=some (.l ((iL W.ties.length).map .int),[some (.l (ds.map .int)),some (.d (au W)),some (.d (.int most)),none,none,none]):=lr _ _ _ _ wl (by simp?[g1']);simp?[m7,zo,hr,hf]
theorem EN{d:QR}{n dep:Nat}(hz:Sz n dep d)(h1:n<=16777216)(h2:dep<=60):mv [.d d,.d d]=some (.d (.bool true),[.d d,.d d]):=by have r:∀e,g1 o5 e [.d d]=some (.d (.str d.shown)):=λe=>FJ (hz.ok h1 h2);have q:∀e,cN false e (.d (.str d.shown)) (.d (.str d.shown))=some (.d (.bool true)):=λe=>FB hz.so;simp?[mv,B5,r,q]
theorem KD{n:Int}(n0:0<=n)(n1':n<=16){ds:List Int}(hd:je ds):∃(W:aJ) (ds':List Int),rC [.l (ds.map .int),.d (.int n)]=some (.d (au W),[.l (ds'.map .int),.d (.int n)])/\je ds'/\W.Ok/\(W.ties.length:Int)=n:=by
 obtain⟨n1,d1,t1,a1,-,hd1⟩:=jI hd;have gm:∀e:En,a' e (.d (.int n1)) (.d (.int 4))=some (.d (.int (n1%4))):=λe=>aO ⋯;obtain⟨z,hz,az⟩:=kN (xs:=[PyData.int 2,.int 4,.int 7,.int 12]) (i:=n1%4) (zu ⋯) (by have:=zw (n:=n1) (k:=4) ⋯;simpa using this);obtain⟨th,rfl,th1,th2⟩:∃p:Int,z=.int p/\2<=p/\p<=12:=by simp only[RC,RM,or_false]at hz;rcases hz with rfl|rfl|rfl|rfl<;>exact⟨_,rfl,by decide,by decide⟩
 obtain⟨ts,d2,t2,hd2,tl,tok⟩:=EQ d1 th n hd1 th1 ↥0 n0 ↥0;obtain⟨n3,d3,t3,a3,-,hd3⟩:=jI hd2;have gm3:∀e:En,a' e (.d (.int n3)) (.d (.int 3))=some (.d (.int (n3%3))):=λe=>aO ⋯;have q0:=zu (n:=n3) (k:=3) ⋯;have q1:=zw (n:=n3) (k:=3) ⋯;generalize n3%3=q at*;obtain⟨p,hp,ap⟩:=kN (xs:=[PyData.int 20,.int 1,.int 2]) (i:=q) q0 (by simpa using q1);obtain⟨pa,rfl,pa0,pa1⟩:∃x:Int,p=.int x/\0<=x/\x<=20:=by simp only[RC,RM,or_false]at hp;rcases hp with rfl|rfl|rfl<;>exact⟨_,rfl,by decide,by decide⟩
 obtain⟨s,hs,as⟩:=kN (xs:=[PyData.int 40,.int 40,.int (n/2)]) (i:=q) q0 (by simpa using q1);obtain⟨ak,rfl,ak0,ak1⟩:∃x:Int,s=.int x/\0<=x/\x<=40:=by simp only[RC,RM,or_false]at hs;rcases hs with rfl|rfl|rfl<;>exact⟨_,rfl,by lia,by lia⟩
 have gf:∀e:En,fF e (.d (.int n)) (.d (.int 2))=some (.d (.int (n/2))):=λe=>eN ⋯ (me ⋯ ⋯);have gr:∀e:En,ja e (.d (.tuple [.int pa])) (.d (.int th))=some (.d (.tuple (Rk th.toNat (.int pa)))):=λe=>CH ↥0 ↥0;refine⟨⟨th,ts,Rk th.toNat pa,ak⟩,d3,?_,hd3,⟨by show 0<=th;lia,th2,tok,by show ts.length<=16;lia,by show((Rk th.toNat pa).length:Int)=th;rw[Va];lia,λx hx=>by have:=List.eq_of_mem_replicate hx;subst this;exact⟨pa0,pa1⟩,ak0,ak1⟩,by show(ts.length:Int)=n;lia⟩;show _=some (Rv.d (.tuple [.int th,.tuple (ts.map cT),.tuple ((Rk th.toNat pa).map .int),.int ak]),_);rw[List.map_replicate];generalize n/2=n2 at*;generalize Rk th.toNat (PyData.int pa)=RP at*;generalize ts.map cT=TS at*;simp?[rC,B7,t1,gm,az,t2,t3,gm3,ap,as,gf,gr]
theorem NI{W:aJ}(e:En):eE e (.d (au W)) (.d (.int 1))=some (.d (.tuple (W.ties.map cT))):=by rw[fw,ki,i7];rfl
theorem xx{n:Nat}{x:Int}(h:x∈iL n):0<=x/\x<(n:Int):=by unfold iL at h;obtain⟨i,hi,rfl⟩:=QM h;have:=VL.mp hi;have e:(Int.ofNat i)=(i:Int):=rfl;simp only[e];lia
theorem G6(n:Nat):(iL n).Nodup:=by unfold iL;exact List.pairwise_map.mpr (List.Pairwise.imp (λh e=>by have:_=_:=e;simp at this;lia) List.nodup_range)
abbrev iH(n:Int)(ds:List Int)(W:aJ)(lf fd:List Int):En:=[some (.l (ds.map .int)),some (.d (au W)),some (.d (.int n)),some (.l (lf.map .int)),some (.l (fd.map .int))]
inductive FK (n:Int) (W:aJ):En->Prop|mk{ds lf fd}(hd:je ds) (nd:(fd++lf).Nodup) (hr:∀k∈fd++lf,jK W k) (hl:(fd.length:Int)<=n) (hs:fd.length+lf.length=W.ties.length):FK n W (iH n ds W lf fd)
def K'(e:En):Nat:=match e[3]? with|some (some (Sv.l xs))=>xs.length|_=>0
theorem vj{n:Int}{W:aJ}{ds lf fd:List Int}:K' (iH n ds W lf fd)=lf.length:=by show(lf.map PyData.int).length=_;rw[Rq]
theorem KB{n:Int}(n0:0<=n){W:aJ}(hn:(W.ties.length:Int)=n)(ok:W.Ok){ds:List Int}(hd:je ds):∃(fs ds':List Int),rB [.l (ds.map .int),.d (au W),.d (.int n)]=some (.d (.tuple (fs.map .int)),[.l (ds'.map .int),.d (au W),.d (.int n)])/\je ds'/\fs.Nodup/\(∀k∈fs,jK W k)/\(fs.length:Int)=n:=by
 have wl:=ok.len;have g1':=NI (W:=W);have q3:∀(xs:List Int) (e:En),e[3]?=some (some (.l (xs.map .int)))->cN true e (.s 3) (.l [])=some (.d (.bool (!(xs.map PyData.int).isEmpty))):=λxs e he=>qR he (lu _).1;obtain⟨e0,e',hw,hP,hft⟩:=ka (ft:=cQ) (f:=mO) (FK n W) K' (λe hP=>by
  obtain⟨hd,nd,hr,hl,hs⟩:=hP;rename_i ds lf fd;have qf:((fd.map PyData.int).length:Int)=(fd.length:Int):=by simp
  by_cases c:lf=[];·subst c;left;refine⟨iH n ds W [] fd,?_,trivial⟩;have q:=λe he=>q3 [] e he;simp only[iH,RQ,List.isEmpty_nil,UI]at q⊢;simp?[cQ,q]
  ·have q:=λe he=>q3 lf e he;rw[show(lf.map PyData.int).isEmpty=false by
   rcases lf with _|⟨x,r⟩;·exact absurd rfl c
   ·rfl]at q;by_cases c2:(fd.length:Int)<n
   ·right;obtain⟨nn,d1,t1,-,-,hd1⟩:=jI hd;have lp:0<(lf.length:Int):=by have:=List.length_pos_iff.mpr c;lia
    have gm:∀e:En,a' e (.d (.int nn)) (.d (.int (lf.length:Int)))=some (.d (.int (nn%(lf.length:Int)))):=λe=>aO lp;have a0:=zu (n:=nn) lp;have a1:=zw (n:=nn) lp;generalize nn%(lf.length:Int)=k at*;have hk:k.toNat<lf.length:=by lia
    have hp:=mf lf k.toNat hk;have hx:(lf.map PyData.int)[k.toNat]?=some (.int lf[k.toNat]):=by rw[RK,RS hk];rfl
    have he:(lf.map PyData.int).eraseIdx k.toNat=(lf.eraseIdx k.toNat).map .int:=oa;have pp:((fd++[lf[k.toNat]])++lf.eraseIdx k.toNat).Perm (fd++lf):=by rw[UF];exact List.Perm.append_left _ hp
    have hle:=hp.length_eq;rw[SA]at hle;generalize lf[k.toNat]=x at*;generalize lf.eraseIdx k.toNat=lf' at*;refine⟨iH n ds W lf fd,iH n d1 W lf' (fd++[x]),?_,?_,.mk hd1 (pp.nodup_iff.mpr nd) (λz hz=>hr z (pp.mem_iff.mp hz)) ↥7 ↥7,by rw[vj,vj];lia⟩
    ·have c3:(fd.length:Int)<n:=by lia
     simp only[iH];generalize lf.map PyData.int=LL at*;simp?[cQ,q,qf,c3]
    ·have ql:((lf.map PyData.int).length:Int)=(lf.length:Int):=by simp
     have nl:=rH W.ties.length (fd++lf) nd hr;rw[RW]at nl;have kb:k<1000000000:=by lia
     have lt:fd.length<1000000:=by lia
     simp only[iH,TY,Rn,RQ,<-he];generalize (lf.length:Int)=M0 at*;generalize lf.map PyData.int=LL at*;simp?[mO,t1,ql,gm,a0,kb,hx,lt]
   ·left;refine⟨iH n ds W lf fd,?_,trivial⟩;have c3:¬(fd.length:Int)<n:=by lia
    simp only[iH];generalize lf.map PyData.int=LL at*;simp?[cQ,q,qf,c3]) (2^4200) (iH n ds W (iL W.ties.length) []) (.mk hd (G6 _) (λk hk=>xx hk) (by simpa using n0) (by simp[nH])) (by rw[vj,nH];exact Vs wl ⋯);obtain⟨hd2,nd,hr,hl,hs⟩:=hP;rename_i ds2 lf fd;have key:∀b e'',cQ (iH n ds2 W lf fd)=some (b,e'')->e''=iH n ds2 W lf fd:=λb e'' h=>by
  have q:=λe he=>q3 lf e he;have qf:((fd.map PyData.int).length:Int)=(fd.length:Int):=by simp
  generalize (!(lf.map PyData.int).isEmpty)=bb at*;have:cQ (iH n ds2 W lf fd)=some (bb&&decide ((fd.length:Int)<n),iH n ds2 W lf fd):=by simp only[iH];generalize lf.map PyData.int=LL at*;cases bb<;>simp?[cQ,q,qf]
  rw[this]at h;exact(Prod.mk.inj (RG h)).2.symm
 have he:=key _ _ hft;subst he;have fl:(fd.length:Int)=n:=by
  have q:=λe he=>q3 lf e he;have qf:((fd.map PyData.int).length:Int)=(fd.length:Int):=by simp
  by_cases c:lf=[];·subst c;simp at hs;lia
  ·by_cases c2:(fd.length:Int)<n
   ·exfalso;rw[show(lf.map PyData.int).isEmpty=false by
    rcases lf with _|⟨x,r⟩;·exact absurd rfl c
    ·rfl]at q;have:cQ (iH n ds2 W lf fd)=some (true,iH n ds2 W lf fd):=by simp only[iH];generalize lf.map PyData.int=LL at*;simp?[cQ,q,qf,c2]
    rw[this]at hft;cases hft
   ·lia
 refine⟨fd,ds2,?_,hd2,(Wk.mp nd).1,λk hk=>hr k (by simp[hk]),fl⟩;have hw':iz (2^4200) cQ mO (iH n ds W (iL W.ties.length) [])=some (.nx (iH n ds2 W lf fd)):=hw;have ql:(((W.ties.map cT).length:Nat):Int)=(W.ties.length:Int):=by simp
 have q2:(W.ties.length:Int)<=100000:=by lia
 have q4:((W.ties.length:Int)).toNat=W.ties.length:=by lia
 simp only[iH,RQ]at hw';generalize fd.map PyData.int=FF at*;generalize lf.map PyData.int=LL at*;generalize W.ties.map cT=TT at*;simp?[rB,B4,g1',ql,i5,q2,q4,hw']
theorem wD{xs:List QR}{m:Nat}:L2.cutD xs none (some (m:Int))=xs.take m:=by
 unfold L2.cutD;rw[HT.sIx_none,HT.sIx_nat];simp only[List.drop_zero,Nat.sub_zero];rcases Nat.le_total m xs.length with z|z;·rw[Nat.min_eq_left z]
 ·rw[Nat.min_eq_right z,List.take_of_length_le (Ro _),List.take_of_length_le z]
theorem IX{W:aJ}{os:List Int}(e:En):cN true e (.d (.tuple [au W,.tuple (os.map .int)])) (.d (.tuple [au W,.tuple (os.map .int)]))=some (.d (.bool false)):=CB (n:=12) (Sh.tup (n:=10) λd hd=>by
 simp only[RC,RM,or_false]at hd;rcases hd with rfl|rfl;·exact Sh.web
 ·exact Sh.ints.mono ⋯) ⋯ (by simp[ed,cH,Cv,qQ])
def uE(T:List Nd)(ans:List Bool)(r:List (Int×Bool))(a:Int)(v4 v5 v6:Option Sv):En:=[some (.d (.tuple (T.map cz))),some (.d (.tuple (ans.map .bool))),some (.l (r.map dR)),some (.d (.int a)),v4,v5,v6]
theorem y3{W:aJ}(ok:W.Ok){T:List Nd}{S:Nat->Std}{ans:List Bool}(hT:Fk W T S)(ha:ans.length=W.ties.length):ic [.d (.tuple (T.map cz)),.d (.tuple (ans.map .bool))]=some (.d (.tuple ((rn T ans 17 (rt T)).map dR)),[.d (.tuple (T.map cz)),.d (.tuple (ans.map .bool))]):=by
 have tst:∀r a v4 v5 v6,d9 (uE T ans r a v4 v5 v6)=some (decide (0<=a),uE T ans r a v4 v5 v6):=λr a v4 v5 v6=>by simp?[uE,d9]
 obtain⟨e0,e',hw,⟨r,a,v4,v5,v6,rfl,hr⟩,hf⟩:=ka (ft:=d9) (f:=gD) (λe=>∃r a v4 v5 v6,e=uE T ans r a v4 v5 v6/\mH W T S ans r a) (λe=>17-ue 2 e) (λe⟨r,a,v4,v5,v6,he,hr⟩=>by
  subst he;by_cases c:0<=a
  ·obtain⟨h1,h2,h3,h4⟩:=hr.step ok hT c;have l1:∀r a v4 v5 v6,ue 2 (uE T ans r a v4 v5 v6)=r.length:=λr a v4 v5 v6=>by simp[uE,ue]
   refine .inr ⟨uE T ans r a v4 v5 v6,uE T ans _ _ (some (.d (.int (ig T a).tie))) (some (.d (.int (ig T a).yes))) (some (.d (.int (ig T a).no))),(by rw[tst,decide_eq_true c]),?_,⟨_,_,_,_,_,rfl,h4⟩,by rw[l1,l1];simp;lia⟩;have n1:=IJ c h1;have b1:=tD (bs:=ans) h3.1 (by rw[ha];exact h3.2);have rl:r.length<1000000:=by lia
   generalize ans.getD (ig T a).tie.toNat false=b at b1 h4;cases b<;>simp?[uE,gD,n1,cz,b1,dR,rl]
  ·exact .inl ⟨_,(by rw[tst,decide_eq_false c]),trivial⟩) (2^4200) (uE T ans [] (rt T) none none none) ⟨[],rt T,none,none,none,rfl,mH.first⟩ (vF (m:=20) (by simp[uE,ue]) ⋯);rw[tst]at hf;have c:¬0<=a:=by intro c;rw[decide_eq_true c]at hf;simp at hf
 rw[decide_eq_false c]at hf;simp at hf;subst hf;have hd:=hr.done ↥0;rw[<-hd];have hw':iz (2^4200) d9 gD (uE T ans [] (rt T) none none none)=some (.nx (uE T ans r a v4 v5 v6)):=hw;have hrt:((-1:Int)+if 0<T.length then 1 else 0)=rt T:=by
  unfold rt;by_cases z:T.length=0;·simp[z]
  ·have:0<T.length:=by lia
   simp[z,this]
 unfold uE at hw';simp only[RQ]at hw';simp?[ic,qq,hrt,hw']
def aE(ds:List Int)(many:Int)(bs:List Bool)(num:Int)(v4:Option Sv):En:=[some (.l (ds.map .int)),some (.d (.int many)),some (.l (bs.map .bool)),some (.d (.int num)),v4]
theorem BC{ds:List Int}{many:Int}(hd:je ds)(m0:0<=many)(m1:many<=1000):∃(ds':List Int) (bs:List Bool),jq [.l (ds.map .int),.d (.int many)]=some (.d (.tuple (bs.map .bool)),[.l (ds'.map .int),.d (.int many)])/\je ds'/\(bs.length:Int)=many:=by
 obtain⟨e2,h1,⟨d1,bs,num,v4,he,hd1,hl⟩⟩:=bC (own:=[]) (g:=ah 4) (f:=e_) (λi e=>∃(ds:List Int) (bs:List Bool) (num:Int) (v4:Option Sv),e=aE ds many bs num v4/\je ds/\bs.length=i) (bf 0 many.toNat) 0 (aE ds many [] 0 none) (λi x e hx⟨ds,bs,num,v4,he,hd,hl⟩=>by
  subst he;obtain⟨rfl,hi⟩:=cX hx;generalize hq:(0+(i:Int))=q at*;have g16:∀e:En,a' e (.d (.int q)) (.d (.int 16))=some (.d (.int (q%16))):=λe=>aO ⋯;obtain⟨m,hm0,hm1,hs⟩:=Kr (q:=q%16) ↥0 ↥0;have gd:∀(e:En) (n:Int),fF e (.d (.int n)) (.d (.int m))=some (.d (.int (n/m))):=λe n=>eN hm0 (me hm0 hm1);have g2:∀(e:En) (n:Int),a' e (.d (.int n)) (.d (.int 2))=some (.d (.int (n%2))):=λe n=>aO ⋯;have bl:bs.length<1000000:=by lia
  obtain⟨n,d1,t1,n0,n1,hd1⟩:=jI hd;by_cases c:q%16=0;·refine⟨aE ds many bs num (some (.d (.int q))),aE d1 many (bs++[n/m%2==1]) n (some (.d (.int q))),rfl,?_,aQ,_,_,_,_,rfl,hd1,by simp;lia⟩;rw[c]at g16 hs;simp?[aE,e_,g16,t1,hs,gd,g2,bl]
  ·refine⟨aE ds many bs num (some (.d (.int q))),aE ds many (bs++[num/m%2==1]) num (some (.d (.int q))),rfl,?_,aQ,_,_,_,_,rfl,hd,by simp;lia⟩;simp?[aE,e_,g16,c,hs,gd,g2,bl]) ⟨ds,[],0,none,rfl,hd,rfl⟩;subst he;rw[dU]at hl;refine⟨d1,bs,?_,hd1,by lia⟩;have hf:∀Wl,cO Wl kX (ah 4) e_ (aE ds many [] 0 none)=some (.nx (aE d1 many bs num v4)):=λWl=>by rw[bR (show kX (aE ds many [] 0 none)=some (bf 0 many.toNat,[],aE ds many [] 0 none) from bT (n:=many) (by simp?[aE]) ↥0 ↥0)];exact h1
 unfold aE at hf;simp only[RQ]at hf;simp?[jq,tF,hf]
def sY(W:aJ)(a:List Bool):Std->List Int->List (Int×Bool)|_,[]=>[]|s,k::r=>if W.may s.1 s.2 k=true then(k,a.getD k.toNat false)::sY W a (nxt W s k (a.getD k.toNat false)) r else sY W a s r
abbrev sX(W:aJ)(os:List Int)(a:List Bool)(s:Std)(r:List (Int×Bool))(v5:Option Sv):En:=[some (.d (au W)),some (.d (.tuple (os.map .int))),some (.d (.tuple (a.map .bool))),some (.d (cx s.1 s.2)),some (.l (r.map dR)),v5]
theorem xO{W:aJ}(ok:W.Ok){os:List Int}(ho:∀k∈os,jK W k)(hl:os.length<=100){a:List Bool}(ha:a.length=W.ties.length):fN [.d (au W),.d (.tuple (os.map .int)),.d (.tuple (a.map .bool))]=some (.d (.tuple ((sY W a ([],[]) os).map dR)),[.d (au W),.d (.tuple (os.map .int)),.d (.tuple (a.map .bool))]):=by
 have wl:=ok.len;obtain⟨e',h1,s,r,v5,he,_,hr,hq⟩:=bC (own:=[]) (g:=ah 5) (f:=dw) (λi e=>∃s r v5,e=sX W os a s r v5/\jh W s/\r.length<=i/\r++sY W a s (os.drop i)=sY W a ([],[]) os) (os.map .int) 0 (sX W os a ([],[]) [] none) (λi x e hx⟨s,r,v5,he,hs,hr,hq⟩=>by
  subst he;rw[Ta]at*;rw[RK]at hx;obtain⟨k,hk,rfl⟩:=QJ hx;obtain⟨il,ik⟩:=QK hk;have iw:=ho k (QO hk);have dr:os.drop i=k::os.drop (i+1):=by rw[Uu il,ik]
  rw[dr,sY]at hq;have sl:=hs.len;have tl:=hs.tk;have tm:=Iz ok (taken:=s.2) hs.inw ↥0 iw;refine⟨sX W os a s r (some (.d (.int k))),?_⟩;cases c:W.may s.1 s.2 k with|false=>rw[c]at tm;rw[c,if_neg ⋯]at hq;refine⟨sX W os a s r (some (.d (.int k))),rfl,?_,aQ,s,r,_,rfl,hs,by lia,hq⟩;simp only[sX];generalize cx s.1 s.2=SS at*;generalize a.map PyData.bool=AA at*;generalize os.map PyData.int=OO at*;generalize au W=WW at*;simp?[dw,tm]|true=>
   rw[c]at tm;rw[c,if_pos rfl]at hq;have tb:=xJ (asked:=s.1) (taken:=s.2) (a.getD k.toNat false) iw ↥0 ↥0;have b1:=tD (bs:=a) iw.1 (by rw[ha];exact iw.2);have rl:r.length<1000000:=by lia
   refine⟨sX W os a (nxt W s k (a.getD k.toNat false)) (r++[(k,a.getD k.toNat false)]) (some (.d (.int k))),rfl,?_,aQ,_,_,_,rfl,hs.nxt _ ok iw (C3 c).1,by rw[RW];simp;lia,by rw[UF];exact hq⟩;simp only[sX];generalize a.getD k.toNat false=b at*;show _=some (Fl.nx [some (.d (au W)),some (.d (.tuple (os.map .int))),some (.d (.tuple (a.map .bool))),some (.d (cx (aJ.askd s.1 k) (W.took s.2 k b))),some (.l ((r++[(k,b)]).map dR)),some (.d (.int k))]);rw[TY];generalize cx (aJ.askd s.1 k) (W.took s.2 k b)=S2 at*;generalize cx s.1 s.2=SS at*;generalize a.map PyData.bool=AA at*;generalize os.map PyData.int=OO at*;generalize au W=WW at*;simp?[dw,tm,tb,b1,dR,rl]) ⟨([],[]),[],none,rfl,jh.first W,SY _,rfl⟩;subst he;rw[Ta,Rq,List.drop_length,sY,Sl]at hq;rw[Ta,Rq]at hr;have hi:lV (sX W os a ([],[]) [] none)=some (os.map .int,[],sX W os a ([],[]) [] none):=q_ (fa:=ae 1) rfl;have hg:=λWl=>bR (W:=Wl) (g:=ah 5) (f:=dw) hi;rw[h1]at hg;have rl:r.length<1000000:=by lia
 rw[<-hq];simp only[sX,cx,RQ]at hg;generalize a.map PyData.bool=AA at*;generalize os.map PyData.int=OO at*;generalize au W=WW at*;simp?[fN,oR,hg,rl]
def dB(bs:List Bool):QR:=.tuple (bs.map .bool)
def kR(n m:Nat):List Bool:=(To n).map λk=>decide (m/2^k%2=1)
def jx:Nat->List (List Bool)|0=>[[]]|n+1=>(jx n).flatMap λr=>[false::r,true::r]
def ni(n m:Nat):List Nat:=(To m).filter λx=>decide (x/2^n=0)
theorem G8:∀n:Nat,n<8->(ni n 256).map (kR n)=jx n:=by decide+kernel
theorem K6{i:Int}(h:0<=i):UV i 1=i%2:=by show(match decide (0<=i),decide ((0:Int)<=1) with|true,true=>((i.toNat&&&(1:Int).toNat:Nat):Int)|true,false=>_|false,true=>_|false,false=>_)=_;rw[decide_eq_true h];show((i.toNat&&&1:Nat):Int)=i%2;rw[Nat.and_two_pow_sub_one_eq_mod i.toNat 1];lia
theorem MZ(m:Nat):UV (m:Int) 1=((m%2:Nat):Int):=by rw[K6 ↥0];lia
theorem Mc{e:En}(m k:Nat):AN e (.d (.int (m:Int))) (.d (.int (k:Int)))=some (.d (.int ((m/2^k:Nat):Int))):=by simp[AN,gI,bo]
abbrev El(n:Nat)(F:List QR)(v2:Option Sv):En:=[some (.d (.int (n:Int))),some (.l F),v2]
theorem BE{n:Nat}(hn:n<8):jt [.d (.int (n:Int))]=some (.l ((jx n).map dB),[.d (.int (n:Int))]):=by obtain⟨e',h1,⟨v2,he⟩⟩:=bC (own:=[]) (g:=ah 2) (f:=ff) (λi e=>∃v2,e=El n (((ni n i).map (kR n)).map dB) v2) (bf 0 256) 0 (El n [] none) (λi x e hx⟨v2,he⟩=>by
 subst he;rw[Ta];obtain⟨rfl,hi⟩:=cX hx;rw[Int.zero_add];have sh:=λe=>Mc (e:=e) i n;have nn:ni n (i+1)=ni n i++if i/2^n=0 then[i]else[]:=by
  unfold ni;rw[List.range_succ,List.filter_append];congr 1;by_cases c:i/2^n=0;·rw[if_pos c,List.filter_cons_of_pos (by simpa using c)];rfl
  ·rw[if_neg c,List.filter_cons_of_neg (by simpa using c)];rfl
 have ln:(ni n i).length<=256:=by unfold ni;have:=Wo (λx=>decide (x/2^n=0)) (To i);rw[List.length_range]at this;exact RT this ↥0
 have ll:(((ni n i).map (kR n)).map dB).length<1000000:=by rw[Rq,Rq];lia
 refine⟨El n (((ni n i).map (kR n)).map dB) (some (.d (.int (i:Int)))),El n (((ni n (i+1)).map (kR n)).map dB) (some (.d (.int (i:Int)))),rfl,?_,aQ,_,rfl⟩;rw[nn];by_cases c:i/2^n=0
 ·rw[if_pos c,TY,TY];obtain⟨t',hf⟩:=gK (cs:=[some (.d (.int (i:Int)))]) (ft:=eF) (fe:=fB) (b:=λ_=>true) (y:=λx=>match x with|.int k=>.bool (decide (i/2^k.toNat%2=1))|_=>.none) (bf 0 n) none [] (λx hx=>rfl) (λx hx _=>by
  obtain⟨j,hj⟩:=Wg hx;obtain⟨rfl,jn⟩:=cX hj;rw[Int.zero_add];have sj:=λe=>Mc (e:=e) i j;have an:∀e:En,Cy e (.d (.int ((i/2^j:Nat):Int))) (.d (.int 1))=some (.d (.int ((i/2^j%2:Nat):Int))):=λe=>by rw[Cz,MZ]
  have de:decide (((i/2^j%2:Nat):Int)=1)=decide (i/2^j%2=1):=by
   have:(((i/2^j%2:Nat):Int)=1)=(i/2^j%2=1):=by apply propext;lia
   simp only[this]
  show fB [some (.d (.int (i:Int))),some (.d (.int (j:Int)))]=some (.d (.bool (decide (i/2^(j:Int).toNat%2=1))),[some (.d (.int (i:Int))),some (.d (.int (j:Int)))]);rw[Ug,<-de];generalize ((i/2^j%2:Nat):Int)=q at*;generalize ((i/2^j:Nat):Int)=p at*;simp?[fB,sj,an,Bool.beq_eq_decide_eq];try rfl) (by rw[dU];simp;lia);rw[SN,List.filter_eq_self.mpr (λ_ _=>rfl)]at hf;have hy:((bf 0 n).map λx=>match x with|.int k=>PyData.bool (decide (i/2^k.toNat%2=1))|_=>.none)=(kR n i).map .bool:=by unfold bf kR;rw[SH,SH];refine VD λj hj=>?_;simp
  rw[hy]at hf;have hv:dk [(2,"_law_number")] 1 o8 (ah 1) eF fB (El n (((ni n i).map (kR n)).map dB) (some (.d (.int (i:Int)))))=some (.l ((kR n i).map .bool),El n (((ni n i).map (kR n)).map dB) (some (.d (.int (i:Int))))):=jJ (cs:=[some (.d (.int (i:Int)))]) (t:=[none]) (t':=[t']) (bT (n:=(n:Int)) rfl ↥0 ↥0) rfl rfl (by rw[Ug];exact hf);have bl:((kR n i).map PyData.bool).length<1000000:=by rw[Rq];unfold kR;rw[Rq,List.length_range];lia
  simp only[El,Rn,RQ]at hv⊢;unfold dB at hv ll⊢;rw[show PyData.tuple ((kR n i).map .bool)=.tuple ((kR n i).map .bool) from rfl];generalize (kR n i).map PyData.bool=BB at*;generalize ((ni n i).map (kR n)).map (λbs=>PyData.tuple (bs.map .bool))=FF at*;have c':((i/2^n:Nat):Int)=0:=by lia
  generalize ((i/2^n:Nat):Int)=q at*;simp?[ff,sh,c',hv,ll,bl]
 ·rw[if_neg c,Sl];have c':¬((i/2^n:Nat):Int)=0:=by lia
  simp only[El];generalize ((ni n i).map (kR n)).map dB=FF at*;generalize ((i/2^n:Nat):Int)=q at*;simp?[ff,sh,c']) ⟨none,rfl⟩;subst he;rw[Ta,dU,G8 n hn]at h1;have hi:o_ (El n [] none)=some (bf 0 256,[],El n [] none):=bT (n:=256) (by simp?[vt,gI,bo,show yN 2 8=true by decide]) ⋯ ⋯;have hg:=λWl=>bR (W:=Wl) (g:=ah 2) (f:=ff) hi;rw[h1]at hg;simp only[El]at hg;generalize (jx n).map dB=RR at*;simp?[jt,tI,hg]
def Hh(W:aJ)(zs:List (Int×Bool))(a:List Bool):List Bool:=zs.foldl (λa z=>a.set z.1.toNat z.2) a
theorem vT{W:aJ}:∀(zs:List (Int×Bool)) (a:List Bool),(Hh W zs a).length=a.length|[],_=>rfl|z::r,a=>by show(Hh W r (a.set z.1.toNat z.2)).length=_;rw[vT r,Sy]
theorem Am{α β:Type}{f:α->QR}{g:β->QR}:∀(xs:List α) (ys:List β),mF (xs.map f) (ys.map g)=(xs.zip ys).map λz=>.tuple [f z.1,g z.2]|[],_=>by simp[mF]|_::_,[]=>by simp[mF]|x::xs,y::ys=>by rw[Rn,Rn,List.zip_cons_cons,Rn,<-Am xs ys];rfl
abbrev Hg(W:aJ)(os:List Int)(τ a:List Bool)(v4 v5:Option Sv):En:=[some (.d (au W)),some (.d (.tuple (os.map .int))),some (.d (dB τ)),some (.l (a.map .bool)),v4,v5]
theorem EO{W:aJ}(ok:W.Ok){os:List Int}(ho:∀k∈os,jK W k){τ:List Bool}:k9 [.d (au W),.d (.tuple (os.map .int)),.d (dB τ)]=some (.d (dB (Hh W (os.zip τ) (Rk W.ties.length false))),[.d (au W),.d (.tuple (os.map .int)),.d (dB τ)]):=by
 have wl:=ok.len;have g1':∀e,eE e (.d (au W)) (.d (.int 1))=some (.d (.tuple (W.ties.map cT))):=λe=>by rw[fw,ki,i7];rfl
 obtain⟨e',h1,a,v4,v5,he,ha,hq⟩:=bC (own:=[]) (g:=bV (aG (ah 4) (aG (ah 5) bN))) (f:=jN) (λi e=>∃a v4 v5,e=Hg W os τ a v4 v5/\a.length=W.ties.length/\Hh W ((os.zip τ).drop i) a=Hh W (os.zip τ) (Rk W.ties.length false)) ((os.zip τ).map λz=>.tuple [.int z.1,.bool z.2]) 0 (Hg W os τ (Rk W.ties.length false) none none) (λi x e hx⟨a,v4,v5,he,ha,hq⟩=>by
  subst he;rw[Ta]at*;rw[RK]at hx;obtain⟨z,hz,rfl⟩:=QJ hx;obtain⟨il,ik⟩:=QK hz;have iw:=ho z.1 (VO (QO hz)).1;have dr:(os.zip τ).drop i=z::(os.zip τ).drop (i+1):=by rw[Uu il,ik]
  rw[dr]at hq;refine⟨Hg W os τ a (some (.d (.int z.1))) (some (.d (.bool z.2))),Hg W os τ (a.set z.1.toNat z.2) (some (.d (.int z.1))) (some (.d (.bool z.2))),rfl,?_,aQ,_,_,_,rfl,by rw[Sy];exact ha,hq⟩;have ix:yk ((a.map PyData.bool).length) z.1=some z.1.toNat:=by unfold yk;rw[if_pos iw.1,if_pos (by rw[Rq,ha];exact iw.2)]
  simp only[Hg];rw[List.map_set];generalize a.map PyData.bool=AA at*;generalize os.map PyData.int=OO at*;generalize dB τ=TT at*;generalize au W=WW at*;simp?[jN,G_,oM,ix]) ⟨_,none,none,rfl,by simp,rfl⟩;subst he;rw[Ta,Rq,List.drop_length]at hq;have hq:a=Hh W (os.zip τ) (Rk W.ties.length false):=hq;rw[hq]at h1;have hz:ms (Hg W os τ (Rk W.ties.length false) none none)=some ((os.zip τ).map λz=>.tuple [.int z.1,.bool z.2],[],Hg W os τ (Rk W.ties.length false) none none):=by rw[<-Am];simp only[Hg,dB];generalize τ.map PyData.bool=TT at*;generalize os.map PyData.int=OO at*;generalize au W=WW at*;simp?[ms,zD]
 have hg:=λWl=>bR (W:=Wl) (g:=bV (aG (ah 4) (aG (ah 5) bN))) (f:=jN) hz;rw[h1]at hg;have ql:((W.ties.map cT).length:Int)=(W.ties.length:Int):=by simp
 have gm:∀e:En,ja e (.l [.bool false]) (.d (.int (W.ties.length:Int)))=some (.l ((Rk W.ties.length false).map .bool)):=λe=>by rw[Ld ↥0 ↥0,Ug,List.map_replicate]
 simp only[Hg,dB]at hg⊢;have sl:=vT (W:=W) (os.zip τ) (Rk W.ties.length false);rw[Va]at sl;have rl:((Hh W (os.zip τ) (Rk W.ties.length false)).map PyData.bool).length<1000000:=by rw[Rq,sl];lia
 generalize (Hh W (os.zip τ) (Rk W.ties.length false)).map PyData.bool=SS at*;generalize (Rk W.ties.length false).map PyData.bool=RR at*;generalize τ.map PyData.bool=TT at*;generalize os.map PyData.int=OO at*;generalize W.ties.map cT=LL at*;generalize (W.ties.length:Int)=nn at*;generalize au W=WW at*;simp?[k9,wq,g1',ql,gm,hg,rl]
theorem uj{W:aJ}{a:List Int}{k e:Int}:W.many a e<=W.many (aJ.askd a k) e:=by unfold aJ.many aJ.askd;have p:((i4 (a++[k])).filter λj=>W.has j e).length=((a++[k]).filter λj=>W.has j e).length:=((j9 (a++[k])).filter _).length_eq;rw[p,List.filter_append,RW];lia
theorem yA{W:aJ}{s:Std}{k j:Int}{b:Bool}(h:W.may (nxt W s k b).1 (nxt W s k b).2 j=true):W.may s.1 s.2 j=true/\j≠k:=by
 simp only[nxt,aJ.may,aJ.bears,RE,Vy,Wm,decide_eq_true_eq,decide_eq_false_iff_not,List.contains_eq_mem]at h⊢;obtain⟨⟨h1,h2⟩,⟨h3,h4⟩,h5,h6⟩:=h;have tk:∀t,t∉W.took s.2 k b->t∉s.2:=λt q z=>q (by
  unfold aJ.took;split;·exact jH.mpr (by simp[z])
  ·exact z);have q1:j∉s.1:=λz=>h1 (by unfold aJ.askd;exact jH.mpr (by simp[z]));have q2:j≠k:=λz=>h1 (by unfold aJ.askd;exact jH.mpr (by simp[z]));have l:=mK (a:=s.1) (k:=k);have h2':=of_decide_eq_false h2;have h4':=of_decide_eq_true h4;have h6':=of_decide_eq_true h6;have m1:=uj (W:=W) (a:=s.1) (k:=k) (e:=(W.tie j).one);have m2:=uj (W:=W) (a:=s.1) (k:=k) (e:=(W.tie j).other);exact⟨⟨⟨q1,by lia⟩,⟨tk _ h3,by lia⟩,tk _ h5,by lia⟩,q2⟩
theorem lN{W:aJ}{s:Std}{k j:Int}{b:Bool}(h:W.may s.1 s.2 j=false\/j=k):W.may (nxt W s k b).1 (nxt W s k b).2 j=false:=by cases c:W.may (nxt W s k b).1 (nxt W s k b).2 j with|false=>rfl|true=>
 obtain⟨a,n⟩:=yA c;rcases h with h|h;·rw[h]at a;cases a
 ·exact absurd h n
def eM(W:aJ)(os:List Int)(s:Std):Option Int:=os.find? λk=>W.may s.1 s.2 k
def bJ(W:aJ)(os:List Int)(s:Std):Nat:=(os.dropWhile λk=>!W.may s.1 s.2 k).length
theorem rX{W:aJ}{s:Std}:∀os:List Int,bJ W os s<=os.length|[]=>Ro _|x::r=>by have:=rX (W:=W) (s:=s) r;unfold bJ at this⊢;rw[UM];split<;>simp<;>lia
theorem jw{W:aJ}{s:Std}{k:Int}{b:Bool}:∀{os:List Int},eM W os s=some k->bJ W os (nxt W s k b)<bJ W os s
 |[],h=>by simp[eM]at h|x::r,h=>by
  unfold eM at h
  rw[RL]at h;cases c:W.may s.1 s.2 x with|true=>
   rw[c]at h;have hk:x=k:=RG h;subst hk;have e1:bJ W (x::r) s=r.length+1:=by unfold bJ;rw[UM,c];simp
   have e2:bJ W (x::r) (nxt W s x b)=bJ W r (nxt W s x b):=by unfold bJ;rw[UM,lN (.inr rfl)];simp
   have:=rX (W:=W) (s:=nxt W s x b) r;lia|false=>
   rw[c]at h;have ih:=jw (b:=b) (os:=r) (show eM W r s=some k from h);have e1:bJ W (x::r) s=bJ W r s:=by unfold bJ;rw[UM,c];simp
   have e2:bJ W (x::r) (nxt W s k b)=bJ W r (nxt W s k b):=by unfold bJ;rw[UM,lN (.inl c)];simp
   lia
theorem Io{W:aJ}{s:Std}:∀{os:List Int},bJ W os s=0->eM W os s=none|[],_=>rfl|x::r,h=>by cases c:W.may s.1 s.2 x with
 |true=>
  have e1:bJ W (x::r) s=r.length+1:=by unfold bJ;rw[UM,c];simp
  lia|false=>
  have e1:bJ W (x::r) s=bJ W r s:=by unfold bJ;rw[UM,c];simp
  have ih:=Io (os:=r) (W:=W) (s:=s) ↥0;unfold eM at ih⊢;rw[RL,c];exact ih
theorem zy{W:aJ}{os:List Int}{s:Std}{k:Int}(h:eM W os s=some k):W.may s.1 s.2 k=true/\k∈os:=⟨by have:=List.find?_some h;simpa using this,List.mem_of_find?_eq_some h⟩
theorem nG{W:aJ}{a:List Bool}{s:Std}:∀(p r:List Int),(∀j∈p,W.may s.1 s.2 j=false)->sY W a s (p++r)=sY W a s r|[],_,_=>rfl|x::p,r,h=>by rw[Tw,sY,h x ↥1,if_neg ⋯,nG p r λj hj=>h j (by simp[hj])]
theorem xw{W:aJ}{a:List Bool}{os:List Int}{s:Std}(h:eM W os s=none):sY W a s os=[]:=by
 have:=nG (W:=W) (a:=a) (s:=s) os [] λj hj=>by have:=WK.mp h j hj;simpa using this
 rw[Sl]at this;rw[this];rfl
theorem qO{p:Int->Bool}{k:Int}:∀{os:List Int},os.find? p=some k->∃l r,os=l++k::r/\(∀j∈l,p j=false)/\p k=true|[],h=>by simp at h|x::os,h=>by rw[RL]at h;cases c:p x with|true=>rw[c]at h;have hk:x=k:=RG h;subst hk;exact⟨[],os,rfl,(λj hj=>nomatch hj),c⟩|false=>rw[c]at h;obtain⟨l,r,e,h1,h2⟩:=qO h;exact⟨x::l,r,by rw[e];rfl,λj hj=>by
 rcases QN hj with rfl|hj;·exact c
 ·exact h1 j hj,h2⟩
theorem Eg{W:aJ}{a:List Bool}{os:List Int}{s:Std}{k:Int}(h:eM W os s=some k):sY W a s os=(k,a.getD k.toNat false)::sY W a (nxt W s k (a.getD k.toNat false)) os:=by
 obtain⟨l,r,e,h1,h2⟩:=qO h;rw[e,nG l _ h1,sY,if_pos h2];congr 1;have:l++k::r=(l++[k])++r:=by simp
 rw[this,nG (l++[k]) r λj hj=>?_];rcases QL hj with hj|hj;·exact lN (.inl (h1 j hj))
 ·exact lN (.inr (Uk.mp hj))
structure qd (W:aJ) (os:List Int) (T:List Nd) (S:Nat->Std):Prop where
 tr:Fk W T S
 ord:K0 T
 tree:K2 T
 s0:(T=[]/\eM W os ([],[])=none)\/(T≠[]/\S 0=([],[]))tie:∀(i:Nat) (x:Nd),T[i]?=some x->eM W os (S i)=some x.tie
 stop:∀(i:Nat) (x:Nd) (b:Bool),T[i]?=some x->iK x b=-1->eM W os (nxt W (S i) x.tie b)=none
 len:T.length<=300
theorem Ei{W:aJ}{os:List Int}{T:List Nd}{S:Nat->Std}{a:List Bool}(h:qd W os T S):∀(f:Nat) (l:Int) (s:Std),((l=-1/\eM W os s=none)\/(0<=l/\l<(T.length:Int)/\S l.toNat=s))->bJ W os s<=f->rn T a f l=sY W a s os
 |0,l,s,_,hr=>by rw[xw (Io ↥0)];rfl|f+1,l,s,hl,hr=>by
  rcases hl with⟨rfl,hn⟩|⟨h0,h1,rfl⟩;·rw[xw hn,Eh ⋯]
  ·have hx:=rE h0 h1;have ht:=h.tie _ _ hx;have o:=h.tr _ _ hx;rw[Eg ht];unfold rn;rw[if_neg ↥0];congr 1;generalize hb:a.getD (ig T l).tie.toNat false=b;have hn:=jw (b:=b) ht;refine Ei h f _ _ ?_ ↥0
   cases b with|true=>
    rw[if_pos rfl];rcases o.yes with z|⟨z1,z2,z3⟩;·exact .inl ⟨z,h.stop _ _ true hx z⟩
    ·exact .inr ⟨z1,z2,z3⟩|false=>
    rw[if_neg ⋯];rcases o.no with z|⟨z1,z2,z3⟩;·exact .inl ⟨z,h.stop _ _ false hx z⟩
    ·exact .inr ⟨z1,z2,z3⟩
theorem Eo{W:aJ}{os:List Int}{T:List Nd}{S:Nat->Std}{a:List Bool}(h:qd W os T S)(hl:os.length<=17):rn T a 17 (rt T)=sY W a ([],[]) os:=by
 refine Ei h 17 _ _ ?_ (RT (rX os) hl);unfold rt;rcases h.s0 with⟨z,n⟩|⟨z,n⟩;·subst z;exact .inl ⟨rfl,n⟩
 ·have:T.length≠0:=λe=>z (Vu.mp e);rw[if_neg this];exact .inr ⟨by lia,by lia,n⟩
def JX(W:aJ)(os:List Int)(ws:List Wt):Nat:=(ws.map λw=>2^bJ W os w.st-1).sum
def A_(W:aJ)(os:List Int)(ws:List Wt):Nat:=(ws.map λw=>2^(bJ W os w.st+1)-1).sum
structure wf (W:aJ) (os:List Int) (T:List Nd) (S:Nat->Std) (ws:List Wt):Prop where
 gr:xZ W T S ws
 lw:E3 T ws
 ord:∀(i:Nat) (b:Bool),lS T i b=-1\/(i:Int)<lS T i b
 tld:∀j:Nat,0<j->j<T.length->∃i b,lS T i b=(j:Int)par:∀w∈ws,w.par=-1->T=[]/\w.st=([],[])/\ws.length=1
 s0:T≠[]->S 0=([],[])tie:∀(i:Nat) (x:Nd),T[i]?=some x->eM W os (S i)=some x.tie
 stop:∀(i:Nat) (x:Nd) (b:Bool),T[i]?=some x->iK x b=-1->(∃w∈ws,w.par=(i:Int)/\(w.side==0)=b)\/eM W os (nxt W (S i) x.tie b)=none
 root:T=[]->(∃w∈ws,w.par=-1)\/eM W os ([],[])=none
 len:T.length+JX W os ws+1<=2^os.length
theorem wf.first{W:aJ}{os:List Int}{S:Nat->Std}:wf W os [] S [⟨([],[]),-1,0⟩]where
 gr:=⟨λi x h=>(by simp at h),λw hw=>(by simp at hw;subst hw;exact⟨jh.first W,.inl rfl⟩),λw hw=>(by simp at hw;subst hw;exact .inl rfl)⟩;lw:=E3.first;ord:=λi b=>.inl (h_ ↥1);tld:=λj h1 h2=>by simp at h2
 par:=λw hw _=>by simp at hw;subst hw;exact⟨rfl,rfl,rfl⟩
 s0:=λh=>absurd rfl h;tie:=λi x h=>by simp at h
 stop:=λi x b h=>by simp at h
 root:=λ_=>.inl ⟨⟨([],[]),-1,0⟩,by simp,rfl⟩;len:=by have h1:=rX (W:=W) (s:=([],[])) os;have h2:2^bJ W os ([],[])<=2^os.length:=Tr ⋯ h1;have h3:0<2^bJ W os ([],[]):=Vk ⋯;simp[JX];lia
theorem wf.perm{W:aJ}{os:List Int}{T:List Nd}{S:Nat->Std}{ws vs:List Wt}(h:wf W os T S ws)(p:ws.Perm vs):wf W os T S vs where
 gr:=⟨h.gr.tr,λw hw=>h.gr.wt w (p.mem_iff.mpr hw),λw hw=>h.gr.side w (p.mem_iff.mpr hw)⟩;lw:=⟨h.lw.unq,h.lw.rng,λw hw=>h.lw.free w (p.mem_iff.mpr hw),(p.map EV).nodup_iff.mp h.lw.dst,λw hw=>h.lw.side w (p.mem_iff.mpr hw)⟩;ord:=h.ord;tld:=h.tld;par:=λw hw z=>by obtain⟨a,b,c⟩:=h.par w (p.mem_iff.mpr hw) z;exact⟨a,b,by rw[<-p.length_eq];exact c⟩
 s0:=h.s0;tie:=h.tie;stop:=λi x b h1 h2=>(h.stop i x b h1 h2).imp (λ⟨w,a,c⟩=>⟨w,p.mem_iff.mp a,c⟩) id;root:=λz=>(h.root z).imp (λ⟨w,a,c⟩=>⟨w,p.mem_iff.mp a,c⟩) id;len:=by
  have:JX W os vs=JX W os ws:=by unfold JX;exact((p.map λw:Wt=>2^bJ W os w.st-1).sum_nat).symm
  rw[this];exact h.len
theorem F_{W:aJ}{os:List Int}{ws vs:List Wt}(p:ws.Perm vs):A_ W os ws=A_ W os vs:=(p.map λw:Wt=>2^(bJ W os w.st+1)-1).sum_nat
theorem wf.less{W:aJ}{os:List Int}{T:List Nd}{S:Nat->Std}{w:Wt}{ws:List Wt}(h:wf W os T S (w::ws))(hn:eM W os w.st=none):wf W os T S ws where
 gr:=h.gr.less;lw:=h.lw.less;ord:=h.ord;tld:=h.tld;par:=λv hv z=>by obtain⟨a,b,c⟩:=h.par v (by simp[hv]) z;have:0<ws.length:=List.length_pos_of_mem hv;rw[SA]at c;lia
 s0:=h.s0;tie:=h.tie;stop:=λi x b h1 h2=>by
  rcases h.stop i x b h1 h2 with⟨v,hv,e1,e2⟩|z
  ·rcases QN hv with rfl|hv
   ·right;rcases(h.gr.wt v ↥1).2 with q|⟨p,y,q1,q2,q3⟩;·lia
    ·have:p=i:=by lia
     subst this;rw[h1]at q2;cases q2;rcases q3 with⟨q3,q4⟩|⟨q3,q4⟩;·rw[q3]at e2;subst e2;rw[<-hn,q4];rfl
     ·rw[q3]at e2;subst e2;rw[<-hn,q4];rfl
   ·exact .inl ⟨v,hv,e1,e2⟩
  ·exact .inr z
 root:=λz=>by
  rcases h.root z with⟨v,hv,e⟩|q
  ·rcases QN hv with rfl|hv;·obtain⟨_,b,_⟩:=h.par v ↥1 e;rw[b]at hn;exact .inr hn
   ·exact .inl ⟨v,hv,e⟩
  ·exact .inr q
 len:=by have:=h.len;simp[JX]at this⊢;lia
theorem wf.more{W:aJ}{os:List Int}{T:List Nd}{S:Nat->Std}{w:Wt}{ws:List Wt}{k:Int}(ok:W.Ok)(ho:∀k∈os,jK W k)(h:wf W os T S (w::ws))(hf:eM W os w.st=some k):wf W os ((if 0<=w.par then T.modify w.par.toNat (λx=>ef x w.side T.length) else T)++[⟨k,-1,-1⟩]) (xY S T.length w.st) (ws++[⟨nxt W w.st k true,T.length,0⟩,⟨nxt W w.st k false,T.length,1⟩]):=by
 obtain⟨hm,hk⟩:=zy hf;have hs:=h.lw.side w ↥1;have hp:w.par=-1\/(0<=w.par/\w.par<(T.length:Int)):=(h.lw.free w ↥1).imp id λz=>⟨z.1,z.2.1⟩;have hfree:0<=w.par->lS T w.par.toNat (w.side==0)=-1:=λz=>by
  rcases h.lw.free w ↥1 with q|⟨_,_,q⟩;·lia
  ·exact q
 have F:=λi a=>wZ (T:=T) (k:=k) (i:=i) (a:=a) hs hp;have more1:=h.gr.more ok (ho k hk) hm;have more2:=h.lw.more (k:=k) (s1:=nxt W w.st k true) (s2:=nxt W w.st k false);have G:∀(i:Nat) (x:Nd),((if 0<=w.par then T.modify w.par.toNat (λx=>ef x w.side T.length) else T)++[(⟨k,-1,-1⟩:Nd)])[i]?=some x->(i<T.length/\∃y,T[i]?=some y/\x.tie=y.tie)\/(i=T.length/\x=⟨k,-1,-1⟩):=λi x hx=>by
  have len:(if 0<=w.par then T.modify w.par.toNat (λx=>ef x w.side T.length) else T).length=T.length:=by split<;>simp
  by_cases c:i<T.length
  ·left;rw[SM ↥0]at hx;split at hx
   ·rw[UJ]at hx;obtain⟨y,hy,e⟩:=QJ hx;refine⟨c,y,hy,?_⟩;rw[<-e];split;·exact wY
    ·rfl
   ·exact⟨c,x,hx,rfl⟩
  ·right;rw[UZ ↥0,len]at hx;have e:i-T.length=0:=by
    rcases Nat.eq_zero_or_pos (i-T.length) with z|z;·exact z
    ·rw[Vi ↥7]at hx;cases hx
   rw[e]at hx;cases hx;exact⟨by lia,rfl⟩
 have len:((if 0<=w.par then T.modify w.par.toNat (λx=>ef x w.side T.length) else T)++[(⟨k,-1,-1⟩:Nd)]).length=T.length+1:=by rw[RW];split<;>simp
 generalize ((if 0<=w.par then T.modify w.par.toNat (λx=>ef x w.side T.length) else T)++[(⟨k,-1,-1⟩:Nd)])=T' at*;have first:T=[]->w.par=-1:=λz=>by
  rcases hp with q|⟨q1,q2⟩;·exact q
  ·subst z;simp at q2;lia
 refine⟨more1,more2,λi b=>?_,λj h1 h2=>?_,λv hv z=>?_,λ_=>?_,λi x hx=>?_,λi x b hx hl=>?_,λz=>?_,?_⟩
 ·rw[F i b];split;·rename_i c;right;rcases hp with q|q<;>lia
  ·exact h.ord i b
 ·rw[len]at h2;by_cases c:j<T.length
  ·obtain⟨i,b,e⟩:=h.tld j h1 c;refine⟨i,b,?_⟩;rw[F i b,if_neg];·exact e
   ·rintro⟨q1,q2⟩;have:=hfree ↥0;rw[<-q1,Ug,<-q2]at this;lia
  ·have hj:j=T.length:=by lia
   have:0<=w.par:=by
    rcases hp with q|q;·have:=(h.par w ↥1 q).1;subst this;simp at hj;lia
    ·exact q.1
   refine⟨w.par.toNat,w.side==0,?_⟩;rw[F,if_pos ⟨by lia,rfl⟩,hj]
 ·exfalso;rcases QL hv with hv|hv;·obtain⟨_,_,c⟩:=h.par v (by simp[hv]) z;have:0<ws.length:=List.length_pos_of_mem hv;rw[SA]at c;lia
  ·simp only[RC,RM,or_false]at hv;rcases hv with rfl|rfl<;>simp at z<;>lia
 ·unfold xY;split;·rename_i c;have:T=[]:=Vu.mp c.symm;exact(h.par w ↥1 (first this)).2.1
  ·rename_i c;exact h.s0 λz=>c (by rw[z];rfl)
 ·rcases G i x hx with⟨c,y,hy,e⟩|⟨c,e⟩;·unfold xY;rw[if_neg ↥0,e];exact h.tie i y hy
  ·unfold xY;rw[if_pos c,e];exact hf
 ·rcases G i x hx with⟨c,y,hy,e⟩|⟨c,e⟩
  ·have fl:=F i b;rw[jc hx,hl]at fl;have nc:¬((i:Int)=w.par/\b=(w.side==0)):=λz=>by rw[if_pos z]at fl;lia
   rw[if_neg nc,jc hy]at fl;unfold xY;rw[if_neg ↥0,e];rcases h.stop i y b hy fl.symm with⟨v,hv,e1,e2⟩|q
   ·rcases QN hv with rfl|hv;·exact absurd ⟨e1.symm,e2.symm⟩ nc
    ·exact .inl ⟨v,by simp[hv],e1,e2⟩
   ·exact .inr q
  ·left;cases b with|true=>exact⟨⟨nxt W w.st k true,T.length,0⟩,by simp,by rw[c],rfl⟩|false=>exact⟨⟨nxt W w.st k false,T.length,1⟩,by simp,by rw[c],rfl⟩
 ·exfalso;rw[z]at len;simp at len
 ·have hl:=h.len;have r1:=jw (b:=true) hf;have r2:=jw (b:=false) hf;have p1:2^(bJ W os (nxt W w.st k true)+1)<=2^bJ W os w.st:=Tr ⋯ r1;have p2:2^(bJ W os (nxt W w.st k false)+1)<=2^bJ W os w.st:=Tr ⋯ r2;have p3:0<2^bJ W os (nxt W w.st k true):=Vk ⋯;have p4:0<2^bJ W os (nxt W w.st k false):=Vk ⋯;rw[VI]at p1 p2;rw[len];simp[JX]at hl⊢;lia
theorem F8{W:aJ}{os:List Int}{w:Wt}{ws:List Wt}{k n m:Int}(hf:eM W os w.st=some k):A_ W os (ws++[⟨nxt W w.st k true,n,0⟩,⟨nxt W w.st k false,m,1⟩])<A_ W os (w::ws):=by
 have r1:=jw (b:=true) hf;have r2:=jw (b:=false) hf;have p1:2^(bJ W os (nxt W w.st k true)+1)<=2^bJ W os w.st:=Tr ⋯ r1;have p2:2^(bJ W os (nxt W w.st k false)+1)<=2^bJ W os w.st:=Tr ⋯ r2;have p3:0<2^(bJ W os (nxt W w.st k true)+1):=Vk ⋯;have p4:0<2^(bJ W os (nxt W w.st k false)+1):=Vk ⋯;have p5:2^(bJ W os w.st+1)=2*2^bJ W os w.st:=by rw[VI];lia
 simp[A_]at*;lia
theorem FZ{W:aJ}{os:List Int}{w:Wt}{ws:List Wt}:A_ W os ws<A_ W os (w::ws):=by
 have p3:2<=2^(bJ W os w.st+1):=by rw[VI];have:0<2^bJ W os w.st:=Vk ⋯;lia
 simp[A_];lia
theorem wf.done{W:aJ}{os:List Int}{T:List Nd}{S:Nat->Std}(h:wf W os T S [])(hl:os.length<=8):qd W os T S where
 tr:=h.gr.tr;ord:=λi x hx=>by have a:=h.ord i true;have b:=h.ord i false;rw[jc hx]at a b;exact⟨a,b⟩
 tree:=⟨h.lw.unq,h.tld⟩;s0:=by
  by_cases z:T=[]
  ·rcases h.root z with⟨w,hw,_⟩|q;·cases hw
   ·exact .inl ⟨z,q⟩
  ·exact .inr ⟨z,h.s0 z⟩
 tie:=h.tie;stop:=λi x b h1 h2=>by
  rcases h.stop i x b h1 h2 with⟨w,hw,_⟩|q;·cases hw
  ·exact q
 len:=by have:=h.len;have:2^os.length<=2^8:=Tr ⋯ hl;lia
theorem mT{α:Type}{cs:En}{g:FG}{ft:FT}{fe:FE}{item:α->QR}{b:α->Bool}{y:α->QR}{u:α->En}(n:Nat):∀(L:List α) (t:En) (acc:List QR),t.length=n->(∀x∈L,(∀t:En,t.length=n->g (item x) (cs++t)=some (cs++u x))/\(u x).length=n/\ft (cs++u x)=some (b x,cs++u x)/\(b x=true->fe (cs++u x)=some (.d (y x),cs++u x)))->acc.length+L.length<=1000000->∃t',t'.length=n/\cS g ft fe (L.map item) (cs++t) acc=some (acc++(L.filter b).map y,cs++t')
 |[],t,acc,h,_,_=>⟨t,h,by simp[cS]⟩|x::r,t,acc,h,hs,hl=>by
  simp only[SA]at hl;obtain⟨a1,a2,a3,a4⟩:=hs x ↥1;have al:acc.length<1000000:=by lia
  cases c:b x with|false=>rw[c]at a3;obtain⟨t',l',ih⟩:=mT n r (u x) acc a2 (λy hy=>hs y (by simp[hy])) ↥0;refine⟨t',l',?_⟩;rw[Rn,List.filter_cons_of_neg (by simp[c])];simp only[cS,a1 t h,Rr,a3];exact ih|true=>rw[c]at a3;obtain⟨t',l',ih⟩:=mT n r (u x) (acc++[y x]) a2 (λy hy=>hs y (by simp[hy])) ↥7;refine⟨t',l',?_⟩;rw[Rn,List.filter_cons_of_pos (by simp[c]),Rn];simp only[cS,a1 t h,Rr,a3,a4 c,if_true,mh,al];rw[ih];simp
theorem tR{α:Type}{cs:En}{g g2:FG}{ft ft2:FT}{fi2:FI}{fe:FE}{item:α->QR}{f:α->List QR}(n B:Nat):∀(L:List α) (t:En) (acc:List QR),t.length=n->(∀x∈L,(f x).length<=B)->(∀x∈L,∀(t:En) (acc:List QR),t.length=n->acc.length+B<=1000000->∃e1 e2 its e3 t',g (item x) (cs++t)=some e1/\ft e1=some (true,e2)/\fi2 e2=some (its,[],e3)/\cS g2 ft2 fe its e3 acc=some (acc++f x,cs++t')/\t'.length=n)->acc.length+B*L.length<=1000000->∃t',t'.length=n/\i_ g ft fi2 g2 ft2 fe (L.map item) (cs++t) acc=some (acc++L.flatMap f,cs++t')|[],t,acc,h,_,_,_=>⟨t,h,by simp[i_]⟩|x::r,t,acc,h,hf,hs,hl=>by simp only[SA,Nat.mul_add,Nat.mul_one]at hl;obtain⟨e1,e2,its,e3,t1,a1,a2,a3,a4,a5⟩:=hs x ↥1 t acc h ↥0;have:=hf x ↥1;obtain⟨t',b1,b2⟩:=tR n B r t1 (acc++f x) a5 (λy hy=>hf y (by simp[hy])) (λy hy=>hs y (by simp[hy])) (by rw[RW];lia);refine⟨t',b1,?_⟩;rw[Rn];unfold i_;simp only[a1,a2,a3,a4,b2,Rr,if_true,List.flatMap_cons,UF]
theorem ur{i ik:Nat}{fv:FE}{e y:En}{dv kd:QR}{kvs kvs':List (QR×QR)}(ne:ik≠i)(h1:fv e=some (.d dv,y))(h2:C8 dv=true)(h3:dN [] i 0 e y)(h4:e[i]?=some (some (.d (.dict kvs))))(h5:y[ik]?=some (some (.d kd)))(h6:xr kvs kd dv=some kvs'):mB i ik fv e=some (.nx (y.set i (some (.d (.dict kvs'))))):=by unfold mB;rw[h1,Rr];dsimp only;rw[if_pos ⟨h2,h3⟩,h4,Ru (Rz ne),h5];dsimp only;rw[h6];rfl
theorem lP{W:List Nat}{i:Nat}{f:FS}{e y:En}(h:f e=some (.nx y))(hf:dN W i 0 e y):lq W i f e=some (.nx (y.set i (e[i]?).join)):=by unfold lq;rw[h,Rr];exact if_pos hf
theorem rZ{i:Nat}{f:FS}{e y:En}(h:f (e.set i none)=some (.nx y)):ko i f e=some (.nx (y.set i (e[i]?).join)):=by unfold ko;rw[h];rfl
theorem Et{i:Nat}{f:FS}{e y:En}{d:QR}(h:f (e.set i none)=some (.rt (.d d) y)):ko i f e=some (.rt (.d d) (y.set i (e[i]?).join)):=by unfold ko;rw[h];rfl
theorem xI{i:Nat}{f:FT}{e y:En}{b:Bool}(h:f (e.set i none)=some (b,y)):uH i f e=some (b,y.set i (e[i]?).join):=by unfold uH;rw[h];rfl
theorem mZ{i:Nat}{f:FI}{e y:En}{items:List QR}{own:gB}(h:f (e.set i none)=some (items,own,y))(ho:(own.all λq=>q.1 !=i)=true):kj i f e=some (items,own,y.set i (e[i]?).join):=by unfold kj;rw[h,Rr];exact if_pos ho
theorem wQ{i:Nat}{g:FG}{e y:En}{x:QR}(h:g x (e.set i none)=some y):fJ i g x e=some (y.set i (e[i]?).join):=by unfold fJ;rw[h];rfl
theorem Er{W:List Nat}{fi:FI}{g:FG}{f:FS}{e e1:En}{items:List QR}{own:gB}(h:fi e=some (items,own,e1))(hw:(own.all λq=>!W.contains q.1)=true):cO W fi g f e=iI own g f items e1:=by unfold cO;rw[h,Rr];exact if_pos hw
abbrev dS(s:Std):QR:=cx s.1 s.2
theorem uk:∀ns:List Int,m_ (ns.map .int)=true|[]=>rfl|n::r=>by rw[Rn,m_,uk r];rfl
theorem yB(s:Std):C8 (dS s)=true:=by simp[dS,cx,C8,m_,uk]
theorem rF:∀ss:List Std,m_ (ss.map dS)=true|[]=>rfl|s::r=>by rw[Rn,m_,rF r,yB];rfl
def iP(L:List (Std×Int)):List (QR×QR):=L.map λp=>(dS p.1,.int p.2)
def fX(L:List (Std×Int))(s:Std):Option Int:=(L.find? λp=>decide (p.1=s)).map (·.2)
def pK(L:List (Std×Int))(s:Std)(k:Int):List (Std×Int):=if (fX L s).isSome=true then L.map λp=>if p.1=s then(p.1,k) else p else L++[(s,k)]
theorem i0(s:Std):mC (dS s)=some s:=lx s
theorem kG:∀L:List (Std×Int),mI (iP L)=true|[]=>rfl|p::r=>by have ih:=kG r;unfold mI iP at ih⊢;rw[Rn,List.all_cons,ih,i0];rfl
theorem kU(s:Std):∀L:List (Std×Int),gW (iP L) s=(fX L s).map .int
 |[]=>rfl|p::r=>by
  have ih:=kU s r;unfold gW fX iP at ih⊢;rw[Rn,RL,RL,i0];by_cases c:p.1=s;·simp[c]
  ·have:(some p.1==some s)=false:=by simp[c]
   rw[this,decide_eq_false c];exact ih
theorem GU(L:List (Std×Int))(s:Std)(k:Int):pg (iP L) s (.int k)=iP (pK L s k):=by
 unfold pg pK;rw[kU,UH];split
 ·unfold iP;rw[SH,SH];refine VD λp _=>?_;by_cases c:p.1=s;·simp[i0,c]
  ·simp[i0,c]
 ·unfold iP;rw[TY];rfl
theorem DM{L:List (Std×Int)}{s:Std}{k:Int}:(pK L s k).length<=L.length+1:=by unfold pK;split<;>simp
theorem Jl{s t:Std}{k:Int}:∀L:List (Std×Int),fX (pK L s k) t=if t=s then some k else fX L t:=by
 have up:∀L:List (Std×Int),fX (L.map λp=>if p.1=s then(p.1,k) else p) t=if t=s then(fX L t).map λ_=>k else fX L t:=by intro L;induction L with|nil=>simp[fX]|cons p r ih=>
  unfold fX at ih⊢;rw[Rn,RL,RL];by_cases c:p.1=t
  ·by_cases d:t=s;·subst d;subst c;simp
   ·have:¬p.1=s:=λz=>d (c.symm.trans z);simp[this,c,d]
  ·have e1:(if p.1=s then(p.1,k) else p).1=p.1:=by split<;>rfl
   rw[e1,decide_eq_false c];exact ih
 have app:∀L:List (Std×Int),fX (L++[(s,k)]) t=(fX L t).orElse λ_=>if t=s then some k else none:=by intro L;unfold fX;rw[List.find?_append];cases L.find? λp=>decide (p.1=t) with|some p=>rfl|none=>
  by_cases d:t=s;·subst d;simp
  ·have:¬s=t:=λz=>d z.symm;simp[d,this]
 intro L;unfold pK;split
 ·rename_i h;rw[up];split;·rename_i d;subst d;cases c:fX L t with|none=>rw[c]at h;cases h|some v=>rfl
  ·rfl
 ·rename_i h;rw[app];split;·rename_i d;subst d;cases c:fX L t with|none=>rfl|some v=>rw[c]at h;simp at h
  ·cases fX L t<;>rfl
theorem z9{e:En}{L:List (Std×Int)}{s:Std}:f9 (mi false) (g_ false) e (.d (dS s)) (.d (.dict (iP L)))=some (.d (.bool (fX L s).isSome)):=by
 have a:mi false e (.d (dS s)) (.d (.dict (iP L)))=none:=rfl;have b:g_ false e (.d (dS s)) (.d (.dict (iP L)))=some (.d (.bool (fX L s).isSome)):=by unfold g_;dsimp only;rw[if_pos (kG L),i0];simp[kU]
 unfold f9;rw[a];exact b
theorem Ko{e:En}{L:List (Std×Int)}{s:Std}:f9 (mi true) (g_ true) e (.d (dS s)) (.d (.dict (iP L)))=some (.d (.bool (!(fX L s).isSome))):=by
 have a:mi true e (.d (dS s)) (.d (.dict (iP L)))=none:=rfl;have b:g_ true e (.d (dS s)) (.d (.dict (iP L)))=some (.d (.bool (!(fX L s).isSome))):=by unfold g_;dsimp only;rw[if_pos (kG L),i0];simp[kU]
 unfold f9;rw[a];exact b
theorem Kn{e:En}{L:List (Std×Int)}{s:Std}{k:Int}(h:fX L s=some k):f9 kh f_ e (.d (.dict (iP L))) (.d (dS s))=some (.d (.int k)):=by
 have a:kh e (.d (.dict (iP L))) (.d (dS s))=none:=rfl;have b:f_ e (.d (.dict (iP L))) (.d (dS s))=some (.d (.int k)):=by unfold f_;dsimp only;rw[if_pos (kG L),i0,Rr,kU,h];rfl
 unfold f9;rw[a];exact b
theorem JW{L:List (Std×Int)}{s:Std}{k:Int}(h:L.length<1000000):xr (iP L) (dS s) (.int k)=some (iP (pK L s k)):=by unfold xr;rw[if_pos (by unfold iP;rw[Rq];exact h)];show(if mI (iP L)=true then(mC (dS s)).map λq=>pg (iP L) q (.int k) else none)=_;rw[if_pos (kG L),i0,Su,GU]
abbrev kz(W:aJ)(os:List Int)(L:List (Std×Int))(ss:List Std)(v4 v5 v6:Option Sv):En:=[some (.d (au W)),some (.d (.tuple (os.map .int))),some (.d (.dict (iP L))),some (.l (ss.map dS)),v4,v5,v6]
def bW(k:Int)(L:List (Std×Int))(as:List Std):List (Std×Int):=as.foldl (λL s=>pK L s k) L
theorem j3{k:Int}:∀(as:List Std) (L:List (Std×Int)),(bW k L as).length<=L.length+as.length|[],L=>Ro _|s::r,L=>by have:=j3 (k:=k) r (pK L s k);have:=DM (L:=L) (s:=s) (k:=k);show(bW k (pK L s k) r).length<=_;rw[SA];lia
theorem jp{k:Int}{t:Std}:∀(as:List Std) (L:List (Std×Int)),fX (bW k L as) t=if t∈as then some k else fX L t
 |[],L=>by simp[bW]|s::r,L=>by
  show fX (bW k (pK L s k) r) t=_;rw[jp r,Jl];by_cases c:t∈r;·simp[c]
  ·by_cases d:t=s;·subst d;simp[c]
   ·simp[c,d]
theorem Cu{W:aJ}{os:List Int}{L L':List (Std×Int)}{ss ss' as:List Std}{k:Int}{v6:Option Sv}{Wl:List Nat}(h0:0∉Wl)(h1:1∉Wl)(h6:v6=none\/∃s,v6=some (.d (dS s))):dN Wl 2 0 (kz W os L ss (some (.d (.int k))) (some (.l (as.map dS))) v6) (kz W os L' ss' (some (.d (.int k))) (some (.l (as.map dS))) v6):=by
 refine⟨.inr (.inr ⟨h0,rfl,_,rfl⟩),.inr (.inr ⟨h1,rfl,_,rfl⟩),.inl rfl,.inr (.inl (rF ss')),.inr (.inl rfl),.inr (.inl (rF as)),.inr ?_,trivial⟩;rcases h6 with rfl|⟨s,rfl⟩;·trivial
 ·exact .inl (yB s)
theorem DR{W:aJ}{os:List Int}{L:List (Std×Int)}{ss as:List Std}{k:Int}{s:Std}(hl:L.length<1000000):cE (kz W os L ss (some (.d (.int k))) (some (.l (as.map dS))) (some (.d (dS s))))=some (.nx (kz W os (pK L s k) ss (some (.d (.int k))) (some (.l (as.map dS))) (some (.d (dS s))))):=by exact ur (i:=2) (ik:=6) (fv:=ae 4) (e:=kz W os L ss (some (.d (.int k))) (some (.l (as.map dS))) (some (.d (dS s)))) (y:=kz W os L ss (some (.d (.int k))) (some (.l (as.map dS))) (some (.d (dS s)))) (dv:=.int k) ⋯ rfl rfl (Cu ⋯ ⋯ (.inr ⟨s,rfl⟩)) rfl rfl (JW hl)
theorem DQ{W:aJ}{os:List Int}{L:List (Std×Int)}{ss as:List Std}{k:Int}{v6:Option Sv}(hl:L.length+as.length<1000000):∃v6',cO ([6]++[]) (kj 2 cK) (fJ 2 (ah 6)) cE (kz W os L ss (some (.d (.int k))) (some (.l (as.map dS))) v6)=some (.nx (kz W os (bW k L as) ss (some (.d (.int k))) (some (.l (as.map dS))) v6'))/\(v6'=v6\/∃s,v6'=some (.d (dS s))):=by
 have hi:kj 2 cK (kz W os L ss (some (.d (.int k))) (some (.l (as.map dS))) v6)=some (as.map dS,[(5,as.map dS)],kz W os L ss (some (.d (.int k))) (some (.l (as.map dS))) v6):=mZ (i:=2) (f:=cK) (e:=kz W os L ss (some (.d (.int k))) (some (.l (as.map dS))) v6) (y:=(kz W os L ss (some (.d (.int k))) (some (.l (as.map dS))) v6).set 2 none) (items:=as.map dS) (own:=[(5,as.map dS)]) rfl rfl;obtain⟨e',h1,v6',he,hv⟩:=bC (own:=[(5,as.map dS)]) (g:=fJ 2 (ah 6)) (f:=cE) (λi e=>∃v6',e=kz W os (bW k L (as.take i)) ss (some (.d (.int k))) (some (.l (as.map dS))) v6'/\(v6'=v6\/∃s,v6'=some (.d (dS s)))) (as.map dS) 0 (kz W os L ss (some (.d (.int k))) (some (.l (as.map dS))) v6) (λi x e hx⟨u6,he,hu⟩=>by
  subst he;rw[Ta]at*;rw[RK]at hx;obtain⟨s,hs,rfl⟩:=QJ hx;have dr:as.take (i+1)=as.take i++[s]:=by rw[List.take_add_one,hs];rfl
  have pl:=j3 (k:=k) (as.take i) L;have tl:(as.take i).length<=as.length:=by rw[UY];lia
  refine⟨kz W os (bW k L (as.take i)) ss (some (.d (.int k))) (some (.l (as.map dS))) (some (.d (dS s))),kz W os (bW k L (as.take (i+1))) ss (some (.d (.int k))) (some (.l (as.map dS))) (some (.d (dS s))),rfl,?_,?_,_,rfl,.inr ⟨s,rfl⟩⟩;·rw[DR ↥0,dr];unfold bW;rw[List.foldl_append];rfl
  ·intro p hp;rw[Uk.mp hp];rfl) ⟨v6,rfl,.inl rfl⟩;subst he;rw[Ta,Rq,List.take_length]at h1;refine⟨v6',?_,hv⟩;rw[Er hi rfl];exact h1
structure Fe (W:aJ) (os p:List Int) (L:List (Std×Int)) (ss:List Std):Prop where
 sub:∀s k,fX L s=some k->k∈p/\eM W os s=some k/\jh W s
 st:∀s∈ss,jh W s/\∀k∈p,W.may s.1 s.2 k=false
 root:([],[])∈ss\/(fX L ([],[])).isSome=true
 next:∀s k,fX L s=some k->∀b,nxt W s k b∈ss\/(fX L (nxt W s k b)).isSome=true
theorem Fe.first{W:aJ}{os:List Int}:Fe W os [] [] [([],[])]:=⟨λs k h=>by simp[fX]at h,λs h=>by simp at h;subst h;exact⟨jh.first W,λk hk=>by cases hk⟩,.inl ↥1,λs k h=>by simp[fX]at h⟩
def fZ(W:aJ)(k:Int)(ss:List Std):List Std:=ss.filter λs=>W.may s.1 s.2 k
def Fd(W:aJ)(k:Int)(L:List (Std×Int))(ss:List Std):List Std:=(ss.filter λs=>!(fX L s).isSome)++(fZ W k ss).flatMap λs=>[nxt W s k true,nxt W s k false]
theorem Ct{f:Int->Bool}{p r:List Int}{k:Int}(h:∀j∈p,f j=false)(hk:f k=true):(p++k::r).find? f=some k:=by rw[List.find?_append,WK.mpr (λj hj=>by rw[h j hj];decide),RL,hk];rfl
theorem Fe.step{W:aJ}(ok:W.Ok){os p r:List Int}{k:Int}{L:List (Std×Int)}{ss:List Std}(h:Fe W os p L ss)(e:os=p++k::r)(hk:jK W k):Fe W os (p++[k]) (bW k L (fZ W k ss)) (Fd W k (bW k L (fZ W k ss)) ss):=by
 have ma:∀s,s∈fZ W k ss↔s∈ss/\W.may s.1 s.2 k=true:=λs=>by unfold fZ;rw[UQ]
 have here:∀s,s∈ss\/(fX L s).isSome=true->s∈Fd W k (bW k L (fZ W k ss)) ss\/(fX (bW k L (fZ W k ss)) s).isSome=true:=λs z=>by
  rcases z with z|z;·cases c:(fX (bW k L (fZ W k ss)) s).isSome with|true=>exact .inr rfl|false=>left;unfold Fd;exact Si.mpr (.inl (UQ.mpr ⟨z,by rw[c];rfl⟩))
  ·right;rw[jp];split;·rfl
   ·exact z
 have new:∀s,s∈fZ W k ss->∀b,nxt W s k b∈Fd W k (bW k L (fZ W k ss)) ss:=λs z b=>by unfold Fd;refine Si.mpr (.inr (List.mem_flatMap.mpr ⟨s,z,?_⟩));cases b<;>simp
 refine⟨λs j hj=>?_,λs hs=>?_,here _ h.root,λs j hj b=>?_⟩
 ·rw[jp]at hj;split at hj;·rename_i c;obtain⟨c1,c2⟩:=(ma s).mp c;cases hj;obtain⟨o,n⟩:=h.st s c1;exact⟨by simp,by unfold eM;rw[e];exact Ct n c2,o⟩
  ·obtain⟨a,b,c⟩:=h.sub s j hj;exact⟨by simp[a],b,c⟩
 ·unfold Fd at hs;rcases QL hs with hs|hs
  ·obtain⟨c1,c2⟩:=UQ.mp hs;obtain⟨o,n⟩:=h.st s c1;refine⟨o,λj hj=>?_⟩;rcases QL hj with hj|hj;·exact n j hj
   ·rw[Uk.mp hj];cases c:W.may s.1 s.2 k with|false=>rfl|true=>rw[jp,if_pos ((ma s).mpr ⟨c1,c⟩)]at c2;cases c2
  ·obtain⟨t,ht,hs⟩:=List.mem_flatMap.mp hs;obtain⟨c1,c2⟩:=(ma t).mp ht;obtain⟨o,n⟩:=h.st t c1;obtain⟨b,rfl⟩:∃b,s=nxt W t k b:=by
    simp only[RC,RM,or_false]at hs;rcases hs with rfl|rfl;·exact⟨true,rfl⟩
    ·exact⟨false,rfl⟩
   refine⟨o.nxt b ok hk (C3 c2).1,λj hj=>?_⟩;rcases QL hj with hj|hj;·exact lN (.inl (n j hj))
   ·exact lN (.inr (Uk.mp hj))
 ·rw[jp]at hj;split at hj;·rename_i c;cases hj;exact .inl (new s c b)
  ·exact here _ (h.next s j hj b)
theorem qj{W:aJ}{k:Int}{ss:List Std}:(fZ W k ss).length<=ss.length:=Wo _ _
theorem vk{α β:Type}{f g:α->β}:∀l:List α,(l.flatMap λx=>[f x,g x]).length=2*l.length|[]=>rfl|x::r=>by rw[List.flatMap_cons,RW,vk r];simp;lia
theorem Hi{W:aJ}{k:Int}{L:List (Std×Int)}{ss:List Std}:(Fd W k L ss).length<=3*ss.length:=by unfold Fd;have a:=qj (W:=W) (k:=k) (ss:=ss);have b:=Wo (λs=>!(fX L s).isSome) ss;rw[RW,vk];lia
theorem y_{cp:List (Nat×Str)}{nT:Nat}{fi fi2:FI}{g g2:FG}{ft ft2:FT}{fe:FE}{e e1 cs:En}{t t':En}{items out:List QR}{own:gB}(h1:fi e=some (items,own,e1))(ho:(own.all λq=>!(cp.any λc=>c.1==q.1))=true)(hc:mG cp nT e1=cs++t)(hl:cs.length=cp.length)(h3:i_ g ft fi2 g2 ft2 fe items (mG cp nT e1) []=some (out,cs++t')):j_ cp nT fi g ft fi2 g2 ft2 fe e=some (.l out,e1):=by have key:=BI (cp:=cp) (nT:=nT) (fi:=λ_=>some (items,[],e1)) (fi2:=fi2) (g:=g) (g2:=g2) (ft:=ft) (ft2:=ft2) (fe:=fe) (e:=e) rfl hc hl h3;unfold j_ at key⊢;rw[h1];simp only[Rr,Vz,if_true]at key;simp only[Rr,ho,if_true];exact key
theorem B2{W:aJ}(ok:W.Ok){os:List Int}{k:Int}{ss:List Std}(hk:jK W k)(hs:∀s∈ss,jh W s)(hl:ss.length<=1000000){v5 v6:Option Sv}:dk [(0,"web"),(4,"tie")] 1 iT (ah 2) bB cq [some (.d (au W)),some (.d (.tuple (os.map .int))),none,some (.l (ss.map dS)),some (.d (.int k)),v5,v6]=some (.l ((fZ W k ss).map dS),[some (.d (au W)),some (.d (.tuple (os.map .int))),none,some (.l (ss.map dS)),some (.d (.int k)),v5,v6]):=by
 have wl:=ok.len;obtain⟨t',l',hc⟩:=mT (cs:=[some (.d (au W)),some (.d (.int k))]) (g:=ah 2) (ft:=bB) (fe:=cq) (item:=dS) (b:=λs:Std=>W.may s.1 s.2 k) (y:=dS) (u:=λs=>[some (.d (dS s))]) 1 ss [none] [] rfl (λs hm=>by
  have o:=hs s hm;have sl:=o.len;have tm:=BD ok (taken:=s.2) o.inw ↥0 hk;refine⟨λt ht=>?_,rfl,?_,λ_=>?_⟩;·match t,ht with|[x],_=>rfl
  ·show bB [some (.d (au W)),some (.d (.int k)),some (.d (cx s.1 s.2))]=some (_,[some (.d (au W)),some (.d (.int k)),some (.d (cx s.1 s.2))]);generalize cx s.1 s.2=SS at*;generalize au W=WW at*;simp?[bB,tm]
  ·simp?[cq]) (by simpa using hl);rw[SN]at hc;exact uP (own:=[(3,ss.map dS)]) (cs:=[some (.d (au W)),some (.d (.int k))]) (t:=[none]) (t':=t') rfl rfl rfl rfl hc
theorem A7{W:aJ}{os:List Int}{k:Int}{L:List (Std×Int)}{ss:List Std}(hl:ss.length<=1000000){v5 v6:Option Sv}:dk [(2,"asks")] 1 iS (ah 1) cF cG (kz W os L ss (some (.d (.int k))) v5 v6)=some (.l ((ss.filter λs=>!(fX L s).isSome).map dS),kz W os L ss (some (.d (.int k))) v5 v6):=by
 obtain⟨t',l',hc⟩:=mT (cs:=[some (.d (.dict (iP L)))]) (g:=ah 1) (ft:=cF) (fe:=cG) (item:=dS) (b:=λs:Std=>!(fX L s).isSome) (y:=dS) (u:=λs=>[some (.d (dS s))]) 1 ss [none] [] rfl (λs hm=>by
  have tn:=λe=>Ko (e:=e) (L:=L) (s:=s);refine⟨λt ht=>?_,rfl,?_,λ_=>?_⟩;·match t,ht with|[x],_=>rfl
  ·generalize dS s=SS at*;generalize iP L=LL at*;simp?[cF,tn]
  ·simp?[cG]) (by simpa using hl);rw[SN]at hc;exact uP (own:=[(3,ss.map dS)]) (cs:=[some (.d (.dict (iP L)))]) (t:=[none]) (t':=t') rfl rfl rfl rfl hc
theorem Bb{W:aJ}(ok:W.Ok){os:List Int}{k:Int}{ss as:List Std}(hk:jK W k)(hs:∀s∈as,jh W s)(hl:2*as.length<=1000000){v6:Option Sv}:j_ [(0,"web"),(4,"tie")] 2 iR (ah 2) eF cJ (ah 3) eF bM [some (.d (au W)),some (.d (.tuple (os.map .int))),none,some (.l (ss.map dS)),some (.d (.int k)),some (.l (as.map dS)),v6]=some (.l ((as.flatMap λs=>[nxt W s k true,nxt W s k false]).map dS),[some (.d (au W)),some (.d (.tuple (os.map .int))),none,some (.l (ss.map dS)),some (.d (.int k)),some (.l (as.map dS)),v6]):=by
 have wl:=ok.len;obtain⟨t',l',hc⟩:=tR (cs:=[some (.d (au W)),some (.d (.int k))]) (g:=ah 2) (ft:=eF) (fi2:=cJ) (g2:=ah 3) (ft2:=eF) (fe:=bM) (item:=dS) (f:=λs=>[dS (nxt W s k true),dS (nxt W s k false)]) 2 2 as [none,none] [] rfl (λs _=>by simp) (λs hm t acc ht ha=>by have o:=hs s hm;have sl:=o.len;have tk:=o.tk;have t1:=eB (asked:=s.1) (taken:=s.2) true hk ↥0 ↥0;have t2:=eB (asked:=s.1) (taken:=s.2) false hk ↥0 ↥0;match t,ht with
  |[x,y],_=>
   have al:acc.length<1000000:=by lia
   have al2:acc.length+1<1000000:=by lia
   refine⟨[some (.d (au W)),some (.d (.int k)),some (.d (dS s)),y],_,[.bool true,.bool false],[some (.d (au W)),some (.d (.int k)),some (.d (dS s)),y],[some (.d (dS s)),some (.d (.bool false))],rfl,rfl,?_,?_,rfl⟩;·simp?[cJ,iJ,vU]
   ·show cS (ah 3) eF bM [.bool true,.bool false] [some (.d (au W)),some (.d (.int k)),some (.d (dS s)),y] acc=some (acc++[cx (aJ.askd s.1 k) (W.took s.2 k true),cx (aJ.askd s.1 k) (W.took s.2 k false)],[some (.d (au W)),some (.d (.int k)),some (.d (cx s.1 s.2)),some (.d (.bool false))]);unfold dS;generalize cx (aJ.askd s.1 k) (W.took s.2 k true)=S1 at*;generalize cx (aJ.askd s.1 k) (W.took s.2 k false)=S2 at*;generalize cx s.1 s.2=SS at*;generalize au W=WW at*;simp?[cS,eF,bM,t1,t2,al,al2,mh]) (by simpa using hl);rw[SN]at hc;have e1:(as.flatMap λs=>[dS (nxt W s k true),dS (nxt W s k false)])=(as.flatMap λs=>[nxt W s k true,nxt W s k false]).map dS:=by rw[List.map_flatMap];rfl
 rw[e1]at hc;exact y_ (own:=[(5,as.map dS)]) (cs:=[some (.d (au W)),some (.d (.int k))]) (t:=[none,none]) (t':=t') rfl rfl rfl rfl hc
theorem B3{W:aJ}(ok:W.Ok){os:List Int}{k:Int}{L:List (Std×Int)}{ss:List Std}(hk:jK W k)(hs:∀s∈ss,jh W s)(hl:ss.length<=10000)(hL:L.length<=100000){v5 v6:Option Sv}(h6:v6=none\/∃s,v6=some (.d (dS s))):∃v5' v6',cj (kz W os L ss (some (.d (.int k))) v5 v6)=some (.nx (kz W os (bW k L (fZ W k ss)) (Fd W k (bW k L (fZ W k ss)) ss) (some (.d (.int k))) v5' v6'))/\(v6'=none\/∃s,v6'=some (.d (dS s))):=by
 have al:=qj (W:=W) (k:=k) (ss:=ss);have c1:=B2 ok (os:=os) hk hs ↥0 (v5:=v5) (v6:=v6);obtain⟨v6',p1,hv⟩:=DQ (W:=W) (os:=os) (L:=L) (ss:=ss) (as:=fZ W k ss) (k:=k) (v6:=v6) ↥0;have hv':v6'=none\/∃s,v6'=some (.d (dS s)):=by
  rcases hv with rfl|z;·exact h6
  ·exact .inr z
 have hL':=j3 (k:=k) (fZ W k ss) L;have ha:∀s∈fZ W k ss,jh W s:=λs h=>hs s (UQ.mp h).1;generalize bW k L (fZ W k ss)=L' at*;have c2:=A7 (W:=W) (os:=os) (k:=k) (L:=L') (ss:=ss) ↥0 (v5:=some (.l ((fZ W k ss).map dS))) (v6:=v6');have fl:=Wo (λs=>!(fX L' s).isSome) ss;have fe:(fZ W k ss).flatMap (λs=>[nxt W s k true,nxt W s k false])=(fZ W k ss).flatMap λs=>[nxt W s k true,nxt W s k false]:=rfl;have len2:=vk (f:=λs=>nxt W s k true) (g:=λs=>nxt W s k false) (fZ W k ss);unfold Fd;generalize hss:(ss.filter λs=>!(fX L' s).isSome)=ss' at*;generalize fZ W k ss=as at*;have c3:=Bb ok (os:=os) (ss:=ss') (as:=as) hk ha ↥0 (v6:=v6');refine⟨some (.l (as.map dS)),v6',?_,hv'⟩;refine(bS (e1:=kz W os L ss (some (.d (.int k))) (some (.l (as.map dS))) v6) ?_).trans ((bS (e1:=kz W os L' ss (some (.d (.int k))) (some (.l (as.map dS))) v6') p1).trans ((bS (e1:=kz W os L' ss' (some (.d (.int k))) (some (.l (as.map dS))) v6') ?_).trans ?_));·refine rZ (e:=kz W os L ss (some (.d (.int k))) v5 v6) (y:=[some (.d (au W)),some (.d (.tuple (os.map .int))),none,some (.l (ss.map dS)),some (.d (.int k)),some (.l (as.map dS)),v6]) ?_;show aW 5 _ [some (.d (au W)),some (.d (.tuple (os.map .int))),none,some (.l (ss.map dS)),some (.d (.int k)),v5,v6]=_;generalize as.map dS=AA at*;generalize ss.map dS=BB at*;generalize os.map PyData.int=OO at*;generalize au W=WW at*;simp?[c1]
 ·refine lP (e:=kz W os L' ss (some (.d (.int k))) (some (.l (as.map dS))) v6') (y:=kz W os L' ss' (some (.d (.int k))) (some (.l (as.map dS))) v6') ?_ (Cu ⋯ ⋯ hv');simp only[kz]at c2⊢;generalize as.map dS=AA at*;generalize ss'.map dS=CC at*;generalize ss.map dS=BB at*;generalize iP L'=LL at*;generalize os.map PyData.int=OO at*;generalize au W=WW at*;simp?[c2]
 ·refine rZ (e:=kz W os L' ss' (some (.d (.int k))) (some (.l (as.map dS))) v6') (y:=[some (.d (au W)),some (.d (.tuple (os.map .int))),none,some (.l ((ss'++as.flatMap λs=>[nxt W s k true,nxt W s k false]).map dS)),some (.d (.int k)),some (.l (as.map dS)),v6']) ?_;show cM _ [some (.d (au W)),some (.d (.tuple (os.map .int))),none,some (.l (ss'.map dS)),some (.d (.int k)),some (.l (as.map dS)),v6']=_;have bl:(ss'.map dS).length+((as.flatMap λs=>[nxt W s k true,nxt W s k false]).map dS).length<=1000000:=by rw[Rq,Rq,len2];lia
  rw[TY];generalize (as.flatMap λs=>[nxt W s k true,nxt W s k false]).map dS=DD at*;generalize as.map dS=AA at*;generalize ss'.map dS=CC at*;generalize os.map PyData.int=OO at*;generalize au W=WW at*;simp?[Hx,oM,c3,bl]
structure BR (W:aJ) (os:List Int) (L:List (Std×Int)):Prop where root:fX L ([],[])=eM W os ([],[])next:∀s k,fX L s=some k->eM W os s=some k/\∀b,fX L (nxt W s k b)=eM W os (nxt W s k b)
theorem Fe.done{W:aJ}{os:List Int}{L:List (Std×Int)}{ss:List Std}(h:Fe W os os L ss):BR W os L:=by
 have key:∀s,s∈ss\/(fX L s).isSome=true->fX L s=eM W os s:=λs z=>by cases c:fX L s with|some k=>rw[(h.sub s k c).2.1]|none=>
  rcases z with z|z;·symm;exact WK.mpr λj hj=>by rw[(h.st s z).2 j hj];decide
  ·rw[c]at z;cases z
 exact⟨key _ h.root,λs k hk=>⟨(h.sub s k hk).2.1,λb=>key _ (h.next s k hk b)⟩⟩
theorem pL{W:aJ}(ok:W.Ok){os:List Int}(ho:∀k∈os,jK W k)(hl:os.length<=8):∃L,bK [.d (au W),.d (.tuple (os.map .int))]=some (.d (.dict (iP L)),[.d (au W),.d (.tuple (os.map .int))])/\BR W os L:=by
 have hp3:∀i,i<=8->3^i<=6561:=λi h=>RT (Tr ⋯ h) (by decide:3^8<=6561);obtain⟨e',h1,L,ss,v4,v5,v6,he,hI,-⟩:=bC (own:=[]) (g:=fJ 2 (ah 4)) (f:=cj) (λi e=>∃L ss v4 v5 v6,e=kz W os L ss v4 v5 v6/\Fe W os (os.take i) L ss/\ss.length<=3^i/\L.length<=3^i/\(v6=none\/∃s,v6=some (.d (dS s)))) (os.map .int) 0 (kz W os [] [([],[])] none none none) (λi x e hx⟨L,ss,v4,v5,v6,he,hI,l1,l2,h6⟩=>by
  subst he;rw[Ta]at*;rw[RK]at hx;obtain⟨k,hk,rfl⟩:=QJ hx;obtain⟨il,ik⟩:=QK hk;have iw:=ho k (QO hk);have dr:os.take (i+1)=os.take i++[k]:=by rw[List.take_add_one,hk];rfl
  have sp:os=os.take i++k::os.drop (i+1):=by
   conv=>lhs;rw[<-List.take_append_drop i os]
   rw[Uu il,ik]
  have p3:=hp3 i ↥0;obtain⟨v5',v6',ht,h6'⟩:=B3 ok (os:=os) (L:=L) (ss:=ss) iw (λs hs=>(hI.st s hs).1) ↥0 ↥0 (v5:=v5) h6;have st:=hI.step ok sp iw;have n1:=Hi (W:=W) (k:=k) (L:=bW k L (fZ W k ss)) (ss:=ss);have n2:=j3 (k:=k) (fZ W k ss) L;have n3:=qj (W:=W) (k:=k) (ss:=ss);refine⟨kz W os L ss (some (.d (.int k))) v5 v6,_,rfl,ht,aQ,_,_,_,_,_,rfl,by rw[dr];exact st,by rw[VI];lia,by rw[VI];lia,h6'⟩) ⟨[],[([],[])],none,none,none,rfl,Fe.first,Ro _,SY _,.inl rfl⟩;subst he;rw[Ta,Rq,List.take_length]at hI;refine⟨L,?_,hI.done⟩;have hi:kj 2 dQ (kz W os [] [([],[])] none none none)=some (os.map .int,[],kz W os [] [([],[])] none none none):=mZ (i:=2) (f:=dQ) (e:=kz W os [] [([],[])] none none none) (y:=(kz W os [] [([],[])] none none none).set 2 none) (own:=[]) rfl rfl;have hg:=λWl=>bR (W:=Wl) (g:=fJ 2 (ah 4)) (f:=cj) hi;rw[h1]at hg;have h0:ko 2 (aW 3 (cD (aa (vC (.tuple [.tuple [],.tuple []])) ai))) [some (.d (au W)),some (.d (.tuple (os.map .int))),some (.d (.dict [])),none,none,none,none]=some (.nx (kz W os [] [([],[])] none none none)):=by refine rZ (e:=[some (.d (au W)),some (.d (.tuple (os.map .int))),some (.d (.dict [])),none,none,none,none]) (y:=[some (.d (au W)),some (.d (.tuple (os.map .int))),none,some (.l [dS ([],[])]),none,none,none]) ?_;show aW 3 _ [some (.d (au W)),some (.d (.tuple (os.map .int))),none,none,none,none,none]=_;generalize os.map PyData.int=OO at*;generalize au W=WW at*;simp?[dS,cx]
 simp only[kz]at h0 hg;generalize ss.map dS=BB at*;generalize[(([],[]):Std)].map dS=CC at*;generalize iP L=LL at*;generalize iP []=L0 at*;generalize os.map PyData.int=OO at*;generalize au W=WW at*;simp?[bK,kf,oI,KI,h0,hg,zV]
def zN(w:Wt):Int:=if w.par=-1 then 0 else w.side+1
def sM(w:Wt):QR:=.tuple [cx w.st.1 w.st.2,.int w.par,.int (zN w)]
abbrev nY(W:aJ)(L:List (Std×Int))(T:List Nd)(ws:List Wt)(v4 v5 v6 v7 v8 v9 v10:Option Sv):En:=[some (.d (au W)),some (.d (.dict (iP L))),some (.n (T.map jb)),some (.l (ws.map sM)),v4,v5,v6,v7,v8,v9,v10]
theorem BL{ft:FT}{f:FS}(P:Nat->En->Prop)(hs:∀n e,P n e->(∃e1,ft e=some (false,e1))\/∃e1 e2 m,ft e=some (true,e1)/\f e1=some (.nx e2)/\P m e2/\m<n):∀(n:Nat) (fuel:Nat) (e:En),P n e->n<fuel->∃m e0 e',gv ft f fuel e=some (.nx e')/\P m e0/\ft e0=some (false,e'):=by intro n;induction n using Nat.strongRecOn with|ind n ih=>intro fuel e hp hm;cases fuel with|zero=>lia|succ fuel=>
 rcases hs n e hp with⟨e1,h1⟩|⟨e1,e2,m,h1,h2,h3,h4⟩;·exact⟨n,e,e1,by unfold gv;rw[h1];rfl,hp,h1⟩
 ·obtain⟨m',e0,e',i1,i2,i3⟩:=ih m h4 fuel e2 h3 ↥0;refine⟨m',e0,e',?_,i2,i3⟩;unfold gv;rw[h1];simp only[Rr,if_true,h2];exact i1
theorem Dy{xs:List QR}{x:QR}:m9 (xs++[x]) []=some (x,xs):=by simp[m9]
theorem Dx{i:Nat}{e e':En}{xs:List QR}{x:QR}{g:FG}(h:e[i]?=some (some (.l (xs++[x]))))(hg:g x (e.set i (some (.l xs)))=some e'):kB (bz m9 (ae i) ai) g e=some (.nx e'):=by
 have hv:ae i e=some (.s i,e):=by unfold ae;rw[h]
 unfold kB bz;rw[hv];simp only[Rr,ai,gU,h,Dy,Su,mh,hg]
noncomputable abbrev MN:FS:=ir (aF (aB (cN true) (ae 5) (vC (.int (-1))))) (uu 2 (ae 8) (ae 5) (Ba 6)) bX
theorem p8{W:aJ}{L:List (Std×Int)}{T:List Nd}{ws:List Wt}{v4 v5 v6 v7 v8 v9 v10:Option Sv}:fm (nY W L T ws v4 v5 v6 v7 v8 v9 v10)=some (decide (0<ws.length),nY W L T ws v4 v5 v6 v7 v8 v9 v10):=by
 have q:((ws.map sM).length:Int)=(ws.length:Int):=by simp
 have:decide (0<(ws.length:Int))=decide (0<ws.length):=by simp
 simp only[nY];rw[<-this];generalize ws.map sM=EE at*;generalize iP L=LL at*;generalize T.map jb=TT at*;generalize au W=WW at*;simp?[fm,q]
theorem Hr{W:aJ}{L:List (Std×Int)}{T:List Nd}{w:Wt}{ws:List Wt}{v4 v5 v6 v7 v8 v9 v10:Option Sv}(h:fX L w.st=none):∃u4 u5 u6,fg (nY W L T (ws++[w]) v4 v5 v6 v7 v8 v9 v10)=some (.nx (nY W L T ws u4 u5 u6 v7 v8 v9 v10)):=by
 refine⟨some (.d (cx w.st.1 w.st.2)),some (.d (.int w.par)),some (.d (.int (zN w))),?_⟩;refine(bS (e1:=nY W L T ws (some (.d (cx w.st.1 w.st.2))) (some (.d (.int w.par))) (some (.d (.int (zN w)))) v7 v8 v9 v10) ?_).trans ?_;·exact Dx (i:=3) (xs:=ws.map sM) (x:=sM w) (g:=bV (aG (ah 4) (aG (ah 5) (aG (ah 6) bN)))) (e:=nY W L T (ws++[w]) v4 v5 v6 v7 v8 v9 v10) (e':=nY W L T ws (some (.d (cx w.st.1 w.st.2))) (some (.d (.int w.par))) (some (.d (.int (zN w)))) v7 v8 v9 v10) ↥1 ∅
 ·have sn:=λe=>z9 (e:=e) (L:=L) (s:=w.st);rw[h]at sn;simp only[nY,dS]at sn⊢;generalize ws.map sM=EE at*;generalize iP L=LL at*;generalize T.map jb=TT at*;generalize au W=WW at*;generalize cx w.st.1 w.st.2=SS at*;simp?[sn]
theorem Hs{W:aJ}(ok:W.Ok){os:List Int}{L:List (Std×Int)}{T:List Nd}{S:Nat->Std}{w:Wt}{ws:List Wt}{k:Int}{v4 v5 v6 v7 v8 v9 v10:Option Sv}(hk:jK W k)(hg:wf W os T S (w::ws))(h:fX L w.st=some k)(hl:T.length<=1000)(hw:ws.length<=1000):∃u4 u5 u6 u7 u8 u9 u10,fg (nY W L T (ws++[w]) v4 v5 v6 v7 v8 v9 v10)=some (.nx (nY W L ((if 0<=w.par then T.modify w.par.toNat (λx=>ef x w.side T.length) else T)++[⟨k,-1,-1⟩]) (ws++[⟨nxt W w.st k true,T.length,0⟩,⟨nxt W w.st k false,T.length,1⟩]) u4 u5 u6 u7 u8 u9 u10)):=by
 have wl:=ok.len;obtain⟨o,hp⟩:=hg.gr.wt w ↥1;have sl:=o.len;have tk:=o.tk;have t1:=eB (asked:=w.st.1) (taken:=w.st.2) true hk ↥0 ↥0;have t2:=eB (asked:=w.st.1) (taken:=w.st.2) false hk ↥0 ↥0;have sn:=λe=>z9 (e:=e) (L:=L) (s:=w.st);have sg:=λe=>Kn (e:=e) h;rw[h]at sn;let n:Int:=(T.length:Int);let E:List Nd->List Wt->Option Sv->Option Sv->Option Sv->Option Sv->En:=λT ws v7 v8 v9 v10=>nY W L T ws (some (.d (cx w.st.1 w.st.2))) (some (.d (.int w.par))) (some (.d (.int (zN w)))) v7 v8 v9 v10;refine⟨some (.d (cx w.st.1 w.st.2)),some (.d (.int w.par)),some (.d (.int (zN w))),some (.d (.int k)),some (.d (.int n)),some (.d (.int 2)),some (.d (.bool false)),?_⟩;generalize hT':(if 0<=w.par then T.modify w.par.toNat (λx=>ef x w.side T.length) else T)=T';have lT':T'.length=T.length:=by rw[<-hT'];split<;>simp
 refine(bS (e1:=E T ws v7 v8 v9 v10) ?_).trans ((Es (e1:=E T ws v7 v8 v9 v10) ?_).trans ((bS (e1:=E T ws (some (.d (.int k))) (some (.d (.int n))) v9 v10) ?_).trans ((bS (e1:=E (T++[⟨k,-1,-1⟩]) ws (some (.d (.int k))) (some (.d (.int n))) v9 v10) ?_).trans ((bS (e1:=E (T'++[⟨k,-1,-1⟩]) ws (some (.d (.int k))) (some (.d (.int n))) v9 v10) ?_).trans ?_))));·exact Dx (i:=3) (xs:=ws.map sM) (x:=sM w) (g:=bV (aG (ah 4) (aG (ah 5) (aG (ah 6) bN)))) (e:=nY W L T (ws++[w]) v4 v5 v6 v7 v8 v9 v10) (e':=nY W L T ws (some (.d (cx w.st.1 w.st.2))) (some (.d (.int w.par))) (some (.d (.int (zN w)))) v7 v8 v9 v10) ↥1 ∅
 ·simp only[E,nY,dS]at sn⊢;generalize ws.map sM=EE at*;generalize iP L=LL at*;generalize T.map jb=TT at*;generalize au W=WW at*;generalize cx w.st.1 w.st.2=SS at*;simp?[sn]
 ·have q:((T.map jb).length:Int)=n:=by simp[n]
  simp only[E,nY,dS]at sg⊢;generalize ws.map sM=EE at*;generalize iP L=LL at*;generalize T.map jb=TT at*;generalize au W=WW at*;generalize cx w.st.1 w.st.2=SS at*;generalize n=nn at*;simp?[sg,Ak,gj,q]
 ·have q:(T.map jb).length<1000000:=by rw[Rq];lia
  have e1:(T++[(⟨k,-1,-1⟩:Nd)]).map jb=T.map jb++[[.int k,.int (-1),.int (-1)]]:=by simp[jb]
  simp only[E,nY];rw[e1];generalize ws.map sM=EE at*;generalize iP L=LL at*;generalize T.map jb=TT at*;generalize au W=WW at*;generalize cx w.st.1 w.st.2=SS at*;simp?[Aj,gj,q]
 ·show MN _=_;rcases hp with z|⟨p,x,z1,z2,z3⟩
  ·have g0:¬0<=w.par:=by lia
   rw[if_neg g0]at hT';subst hT';have gq:∀e:En,cN true e (.d (.int w.par)) (.d (.int (-1)))=some (.d (.bool false)):=λe=>by rw[gE];simp[z]
   simp only[E,nY];generalize ws.map sM=EE at*;generalize iP L=LL at*;generalize (T++[(⟨k,-1,-1⟩:Nd)]).map jb=TT at*;generalize au W=WW at*;generalize cx w.st.1 w.st.2=SS at*;generalize zN w=pw at*;generalize w.par=par at*;simp?[MN,gq]
  ·have g0:0<=w.par:=by lia
   have pt:w.par.toNat=p:=by lia
   have pl:p<T.length:=(QK z2).1;rw[if_pos g0,pt]at hT';have hix:yk (T.map jb++[jb ⟨k,-1,-1⟩]).length w.par=some p:=by unfold yk;rw[if_pos g0,if_pos (by rw[RW,Rq];simp;lia),pt]
   have i1:yk 3 1=some 1:=rfl;have i2:yk 3 2=some 2:=rfl;have np:¬w.par=-1:=by lia
   have gq:∀e:En,cN true e (.d (.int w.par)) (.d (.int (-1)))=some (.d (.bool true)):=λe=>by rw[gE];simp[np]
   have e1:∀U:List Nd,(U++[(⟨k,-1,-1⟩:Nd)]).map jb=U.map jb++[jb ⟨k,-1,-1⟩]:=λU=>by simp
   have ge:(T.map jb++[jb ⟨k,-1,-1⟩])[p]?=some [.int x.tie,.int x.yes,.int x.no]:=by rw[SM (by rw[Rq];exact pl),RK,z2];rfl
   have se:∀d:List QR,(T.map jb++[jb ⟨k,-1,-1⟩]).set p d=(T.map jb).set p d++[jb ⟨k,-1,-1⟩]:=λd=>by rw[List.set_append_left _ _ (by rw[Rq];exact pl)]
   have pw:zN w=w.side+1:=by unfold zN;rw[if_neg np]
   rcases z3 with⟨s0,s1⟩|⟨s0,s1⟩;·have sl':=Bw (n:=T.length) z2;rw[s0]at hT' pw;rw[hT']at sl';have se':=se [.int x.tie,.int n,.int x.no];rw[sl']at se';simp only[E,nY,e1,pw];generalize ws.map sM=EE at*;generalize iP L=LL at*;generalize T.map jb++[jb ⟨k,-1,-1⟩]=TT at*;generalize T'.map jb++[jb ⟨k,-1,-1⟩]=TU at*;generalize au W=WW at*;generalize cx w.st.1 w.st.2=SS at*;generalize n=nn at*;generalize w.par=par at*;simp?[MN,gq,uu,gj,Ba,hix,i1,i2,ge,se']
   ·have sl':=Bx (n:=T.length) z2;rw[s0]at hT' pw;rw[hT']at sl';have se':=se [.int x.tie,.int x.yes,.int n];rw[sl']at se';simp only[E,nY,e1,pw];generalize ws.map sM=EE at*;generalize iP L=LL at*;generalize T.map jb++[jb ⟨k,-1,-1⟩]=TT at*;generalize T'.map jb++[jb ⟨k,-1,-1⟩]=TU at*;generalize au W=WW at*;generalize cx w.st.1 w.st.2=SS at*;generalize n=nn at*;generalize w.par=par at*;simp?[MN,gq,uu,gj,Ba,hix,i1,i2,ge,se']
 ·have e2:(ws++[(⟨nxt W w.st k true,T.length,0⟩:Wt),⟨nxt W w.st k false,T.length,1⟩]).map sM=ws.map sM++[.tuple [cx (aJ.askd w.st.1 k) (W.took w.st.2 k true),.int n,.int 1]]++[.tuple [cx (aJ.askd w.st.1 k) (W.took w.st.2 k false),.int n,.int 2]]:=by
   have:¬(T.length:Int)=-1:=by lia
   simp[sM,zN,nxt,this,n]
  have wl1:(ws.map sM).length<1000000:=by rw[Rq];lia
  have wl2:(ws.map sM).length+1<1000000:=by rw[Rq];lia
  simp only[E,nY];rw[e2];generalize ws.map sM=EE at*;generalize iP L=LL at*;generalize (T'++[(⟨k,-1,-1⟩:Nd)]).map jb=TT at*;generalize au W=WW at*;generalize cx (aJ.askd w.st.1 k) (W.took w.st.2 k true)=S1 at*;generalize cx (aJ.askd w.st.1 k) (W.took w.st.2 k false)=S2 at*;generalize cx w.st.1 w.st.2=SS at*;generalize n=nn at*;have hi:kY [some (.d WW),some (.d (.dict LL)),some (.n TT),some (.l EE),some (.d SS),some (.d (.int w.par)),some (.d (.int (zN w))),some (.d (.int k)),some (.d (.int nn)),v9,v10]=some ([.tuple [.int 1,.bool true],.tuple [.int 2,.bool false]],[],[some (.d WW),some (.d (.dict LL)),some (.n TT),some (.l EE),some (.d SS),some (.d (.int w.par)),some (.d (.int (zN w))),some (.d (.int k)),some (.d (.int nn)),v9,v10]):=by simp?[kY,iJ,vU]
  rw[bR hi];simp?[iI,oU,t1,t2,wl1,wl2,aQ]
def ER:QR->QR|.list xs=>.tuple xs|d=>d
theorem BR.at{W:aJ}{os:List Int}{L:List (Std×Int)}(h:BR W os L){T:List Nd}{S:Nat->Std}{ws:List Wt}(hg:wf W os T S ws)(hS:∀(i:Nat) (x:Nd),T[i]?=some x->fX L (S i)=some x.tie){w:Wt}(hw:w∈ws):fX L w.st=eM W os w.st:=by
 rcases(hg.gr.wt w hw).2 with z|⟨p,x,z1,z2,z3⟩;·rw[(hg.par w hw z).2.1];exact h.root
 ·have:=(h.next _ _ (hS p x z2)).2;rcases z3 with⟨_,z3⟩|⟨_,z3⟩<;>rw[z3]<;>exact this _
inductive NF (W:aJ) (os:List Int) (L:List (Std×Int)):Nat->En->Prop|mk{T S ws v4 v5 v6 v7 v8 v9 v10}(hg:wf W os T S ws) (hS:∀(i:Nat) (x:Nd),T[i]?=some x->fX L (S i)=some x.tie) (hw:ws.length<=T.length+1):NF W os L (A_ W os ws) (nY W L T ws v4 v5 v6 v7 v8 v9 v10)
theorem BF{W:aJ}(ok:W.Ok){os:List Int}(ho:∀k∈os,jK W k)(hl:os.length<=8){L:List (Std×Int)}(hL:BR W os L):∃T S,gM [.d (au W),.d (.dict (iP L))]=some (.d (.tuple (T.map cz)),[.d (au W),.d (.dict (iP L))])/\qd W os T S:=by
 have b8:2^os.length<=256:=RT (Tr ⋯ hl) (by decide:2^8<=256);obtain⟨m,e0,e',hw,⟨hg,hS,hwl⟩,hf⟩:=BL (ft:=fm) (f:=fg) (NF W os L) (λn e hI=>by
  obtain⟨hg,hS,hwl⟩:=hI;rename_i T S ws v4 v5 v6 v7 v8 v9 v10;rcases List.eq_nil_or_concat ws with z|⟨ws,w,z⟩;·subst z;exact .inl ⟨_,p8⟩
  ·rw[List.concat_eq_append]at z;subst z;right;have pm:(ws++[w]).Perm (w::ws):=List.perm_append_comm;have hg':=hg.perm pm;have at':=hL.at hg' hS (w:=w) ↥1;have mp:=F_ (W:=W) (os:=os) pm;have tl:=hg.len;rw[RW]at hwl;simp only[SA,VW]at hwl;have pos:(0:Nat)<(ws++[w]).length:=by simp
   cases c:eM W os w.st with|none=>rw[c]at at';obtain⟨u4,u5,u6,hb⟩:=Hr (W:=W) (T:=T) (ws:=ws) (v4:=v4) (v5:=v5) (v6:=v6) (v7:=v7) (v8:=v8) (v9:=v9) (v10:=v10) at';refine⟨_,_,A_ W os ws,by rw[p8,decide_eq_true pos],hb,.mk (hg'.less c) hS ↥0,by rw[mp];exact FZ⟩|some k=>
    rw[c]at at';obtain⟨cm,ck⟩:=zy c;obtain⟨u4,u5,u6,u7,u8,u9,u10,hb⟩:=Hs ok (ho k ck) hg' at' (v4:=v4) (v5:=v5) (v6:=v6) (v7:=v7) (v8:=v8) (v9:=v9) (v10:=v10) ↥0 ↥0;refine⟨_,_,_,by rw[p8,decide_eq_true pos],hb,.mk (hg'.more ok ho c) (λi x hx=>?_) ?_,by rw[mp];exact F8 c⟩
    ·have a:=(hg'.more ok ho c).tie i x hx;have len:(if 0<=w.par then T.modify w.par.toNat (λx=>ef x w.side T.length) else T).length=T.length:=by split<;>simp
     unfold xY;by_cases q:i=T.length;·rw[if_pos q];unfold xY at a;rw[if_pos q]at a;rw[at',<-c,a]
     ·rw[if_neg q];unfold xY at a;rw[if_neg q]at a;have hi:i<T.length:=by have:=(QK hx).1;rw[RW,len]at this;simp at this;lia
      have hy:T[i]?=some T[i]:=RS hi;have b:=hg.tie i _ hy;have d:=hS i _ hy;rw[a]at b;rw[d,<-RG b]
    ·have len:(if 0<=w.par then T.modify w.par.toNat (λx=>ef x w.side T.length) else T).length=T.length:=by split<;>simp
     rw[RW,RW,len];simp;lia) (A_ W os [⟨([],[]),-1,0⟩]) (2^4200) (nY W L [] [⟨([],[]),-1,0⟩] none none none none none none none) (.mk (S:=λ_=>([],[])) wf.first (λi x h=>by simp at h) ↥1) (by
   have a:=rX (W:=W) (s:=([],[])) os;have b:2^(bJ W os ([],[])+1)<=2^9:=Tr ⋯ ↥0;have d:A_ W os [⟨([],[]),-1,0⟩]<=512:=by simp[A_];lia
   exact Vs d ↥2);rename_i T S ws v4 v5 v6 v7 v8 v9 v10;rw[p8]at hf;have hn:ws=[]:=by cases ws with|nil=>rfl|cons a r=>simp at hf
 subst hn;have he:e'=nY W L T [] v4 v5 v6 v7 v8 v9 v10:=(Prod.mk.inj (RG hf)).2.symm;subst he;have done:=hg.done hl;have tl:=done.len;refine⟨T,S,?_,done⟩;obtain⟨t',hc⟩:=gK (cs:=[]) (ft:=eF) (fe:=iQ) (b:=λ_=>true) (y:=ER) ((T.map jb).map PyData.list) none [] (λx hx=>rfl) (λx hx _=>by obtain⟨xs,_,rfl⟩:=QM hx;simp?[iQ,ER]) ↥7;have hv:=jJ (cp:=[]) (nT:=1) (fi:=pd) (g:=ah 0) (ft:=eF) (fe:=iQ) (e:=nY W L T [] v4 v5 v6 v7 v8 v9 v10) (e1:=(nY W L T [] v4 v5 v6 v7 v8 v9 v10).set 2 (some (.d (.list ((T.map jb).map .list))))) (cs:=[]) (t:=[none]) (t':=[t']) rfl rfl rfl hc;have hle:([]++(((T.map jb).map PyData.list).filter λ_=>true).map ER)=T.map cz:=by rw[SN,List.filter_eq_self.mpr (λ_ _=>rfl),SH,SH];exact VD λx _=>rfl
 rw[hle]at hv;have hw':iz (2^4200) fm fg (nY W L [] [⟨([],[]),-1,0⟩] none none none none none none none)=some (.nx (nY W L T [] v4 v5 v6 v7 v8 v9 v10)):=hw;have d0:[(⟨([],[]),-1,0⟩:Wt)].map sM=[.tuple [.tuple [.tuple [],.tuple []],.int (-1),.int 0]]:=by simp[sM,zN,cx]
 simp only[nY,d0]at hw' hv;simp only[List.set_cons_succ,List.set_cons_zero,RQ]at hv hw';generalize (T.map jb).map PyData.list=TL at*;generalize T.map jb=TT at*;generalize T.map cz=TD at*;generalize iP L=LL at*;generalize au W=WW at*;simp?[gM,tJ,Eu,hw',hv]
theorem uK{W:aJ}(ok:W.Ok){os:List Int}(ho:∀k∈os,jK W k)(hl:os.length<=8):∃T S,eU [.d (au W),.d (.tuple (os.map .int))]=some (.d (.tuple (T.map cz)),[.d (au W),.d (.tuple (os.map .int))])/\qd W os T S:=by
 obtain⟨L,h1,hL⟩:=pL ok ho hl;obtain⟨T,S,h2,h3⟩:=BF ok ho hl hL;refine⟨T,S,?_,h3⟩;have ql:((os.map PyData.int).length:Int)=(os.length:Int):=by simp
 have qn:¬(8:Int)<(os.length:Int):=by lia
 have rf:cV [.d (.int (os.length:Int)),.d (.int 8)]=some (.d .none,[.d (.int (os.length:Int)),.d (.int 8)]):=by generalize (os.length:Int)=nn at*;simp?[cV,kP,qn]
 generalize T.map cz=TD at*;generalize iP L=LL at*;generalize (os.length:Int)=nn at*;generalize os.map PyData.int=OO at*;generalize au W=WW at*;simp?[eU,tK,ql,rf,h1,h2]
theorem tX{i:Nat}:∀(e:En) (k:Nat),(∀o∈e,∀s,o=some s->∃d,s=.d d)->dN [] i k e e|[],_,_=>trivial|o::e,k,h=>by refine⟨.inr ?_,tX e (k+1) λo ho=>h o (by simp[ho])⟩;cases o with|none=>trivial|some s=>exact .inr ⟨by simp,rfl,h _ ↥1 s rfl⟩
def dM(M:List (Int×Std)):List (QR×QR):=M.map λp=>(.int p.1,dS p.2)
def pf(M:List (Int×Std))(k:Int):Option Std:=(M.find? λp=>p.1==k).map (·.2)
theorem x9:∀M:List (Int×Std),As (dM M)=true|[]=>rfl|p::r=>by have ih:=x9 r;unfold As dM at ih⊢;rw[Rn,List.all_cons,ih];rfl
theorem BY(k:Int):∀M:List (Int×Std),(dM M).any (sU k)=(pf M k).isSome|[]=>rfl|p::r=>by have ih:=BY k r;unfold pf dM at ih⊢;rw[Rn,Us,RL];cases c:p.1==k with|true=>simp[sU,c]|false=>simp only[sU,c,Wd];exact ih
theorem Cs(k:Int):∀M:List (Int×Std),((dM M).find? λp=>match p.1 with|.int i=>i==k|_=>false).map (λp=>Rv.d p.2)=(pf M k).map λs=>.d (dS s)|[]=>rfl|p::r=>by have ih:=Cs k r;unfold pf dM at ih⊢;rw[Rn,RL,RL];cases c:p.1==k with|true=>simp[c]|false=>simp only[c];exact ih
theorem Lx{e:En}{M:List (Int×Std)}{k:Int}{neg:Bool}:f9 (mi neg) (g_ neg) e (.d (.int k)) (.d (.dict (dM M)))=some (.d (.bool (if neg then !(pf M k).isSome else(pf M k).isSome))):=by
 have a:mi neg e (.d (.int k)) (.d (.dict (dM M)))=some (.d (.bool (if neg then !(pf M k).isSome else(pf M k).isSome))):=by unfold mi;dsimp only;rw[if_pos (x9 M),BY]
 unfold f9;rw[a]
theorem HZ{e:En}{M:List (Int×Std)}{k:Int}{s:Std}(h:pf M k=some s):f9 kh f_ e (.d (.dict (dM M))) (.d (.int k))=some (.d (dS s)):=by
 have a:kh e (.d (.dict (dM M))) (.d (.int k))=some (.d (dS s)):=by have:=Cs k M;rw[h]at this;exact this
 unfold f9;rw[a]
theorem qo:∀ns:List Int,qm (ns.map .int)=true|[]=>rfl|n::r=>by rw[Rn,qm,qo r];rfl
theorem Fn(s:Std):qk (dS s)=true:=by simp[dS,cx,qk,qm,qo]
theorem LP{M:List (Int×Std)}{k:Int}{s:Std}(h:M.length<1000000)(hn:pf M k=none):xr (dM M) (.int k) (dS s)=some (dM (M++[(k,s)])):=by unfold xr;rw[if_pos (by unfold dM;rw[Rq];exact h)];dsimp only;rw[if_pos ⟨x9 M,Fn s⟩];unfold GR;rw[BY,hn,if_neg ↥1];unfold dM;rw[TY];rfl
theorem pU{M:List (Int×Std)}{k q:Int}{s:Std}(hn:pf M k=none):pf (M++[(k,s)]) q=if q=k then some s else pf M q:=by
 unfold pf at hn⊢;rw[List.find?_append];by_cases c:q=k
 ·subst c;rw[if_pos rfl];have:M.find? (λp=>p.1==q)=none:=by simpa using hn
  rw[this];simp
 ·rw[if_neg c];cases M.find? λp=>p.1==q with|some p=>rfl|none=>have:¬k=q:=λz=>c z.symm;simp[this]
structure MI (T:List Nd) (S:Nat->Std) (D:Nat->Bool->Prop) (M:List (Int×Std)):Prop where z:pf M 0=some (S 0)up:∀j b,D j b->lS T j b≠-1->pf M (lS T j b)=some (S (lS T j b).toNat)dn:∀q v,pf M q=some v->q=0\/∃j b,D j b/\lS T j b=q/\q≠-1
theorem MI.mono{T:List Nd}{S:Nat->Std}{D D':Nat->Bool->Prop}{M:List (Int×Std)}(h:MI T S D M)(e:∀j b,D j b↔D' j b):MI T S D' M:=⟨h.z,λj b d=>h.up j b ((e j b).mpr d),λq v d=>(h.dn q v d).imp id λ⟨j,b,x,y⟩=>⟨j,b,(e j b).mp x,y⟩⟩
theorem MI.skip{T:List Nd}{S:Nat->Std}{D:Nat->Bool->Prop}{M:List (Int×Std)}{i:Nat}{b:Bool}(h:MI T S D M)(hl:lS T i b=-1):MI T S (λj c=>D j c\/(j=i/\c=b)) M:=⟨h.z,λj c d n=>by
 rcases d with d|⟨rfl,rfl⟩;·exact h.up j c d n
 ·exact absurd hl n,λq v d=>(h.dn q v d).imp id λ⟨j,c,x,y⟩=>⟨j,c,.inl x,y⟩⟩
theorem MI.free{T:List Nd}{S:Nat->Std}{D:Nat->Bool->Prop}{M:List (Int×Std)}{i:Nat}{b:Bool}(h:MI T S D M)(u:Fm T)(hn:¬D i b)(h0:0<lS T i b):pf M (lS T i b)=none:=by cases c:pf M (lS T i b) with|none=>rfl|some v=>
 exfalso;rcases h.dn _ _ c with z|⟨j,d,x,y,w⟩;·lia
 ·obtain⟨e1,e2⟩:=u j i d b y ↥0;rw[e1,e2]at x;exact hn x
theorem MI.put{T:List Nd}{S:Nat->Std}{D:Nat->Bool->Prop}{M:List (Int×Std)}{i:Nat}{b:Bool}(h:MI T S D M)(u:Fm T)(hn:¬D i b)(h0:0<lS T i b):MI T S (λj c=>D j c\/(j=i/\c=b)) (M++[(lS T i b,S (lS T i b).toNat)]):=by
 have fr:=h.free u hn h0;refine⟨?_,λj c d n=>?_,λq v d=>?_⟩;·rw[pU fr,if_neg ↥0];exact h.z
 ·rw[pU fr];split;·rename_i e;rw[e]
  ·rename_i e;rcases d with d|⟨rfl,rfl⟩;·exact h.up j c d n
   ·exact absurd rfl e
 ·rw[pU fr]at d;split at d;·rename_i e;right;exact⟨i,b,.inr ⟨rfl,rfl⟩,e.symm,by lia⟩
  ·exact(h.dn q v d).imp id λ⟨j,c,x,y⟩=>⟨j,c,.inl x,y⟩
theorem xK{k lo hi:Int}:jr [.d (.int k),.d (.int lo),.d (.int hi)]=some (.d (.bool (decide (lo<=k)&&decide (k<=hi))),[.d (.int k),.d (.int lo),.d (.int hi)]):=by have gi:∀e:En,qS "int" e (.d (.int k))=some (.d (.bool true)):=λ_=>rfl;have gb:∀e:En,qS "bool" e (.d (.int k))=some (.d (.bool false)):=λ_=>rfl;by_cases a:lo<=k<;>by_cases b:k<=hi<;>simp?[jr,wo,gi,gb,iD,a,b]
abbrev iE(W:aJ)(T:List Nd)(M:List (Int×Std))(v3 v4 v5 v6:Option Sv):En:=[some (.d (au W)),some (.d (.tuple (T.map cz))),some (.d (.dict (dM M))),v3,v4,v5,v6]
theorem pV{W:aJ}{T:List Nd}{M:List (Int×Std)}{a:Int}{x:Nd}{v5 v6:Option Sv}(h5:v5=none\/∃d,v5=some (.d d))(h6:v6=none\/∃d,v6=some (.d d)):dN [] 2 0 (iE W T M (some (.d (.int a))) (some (.d (cz x))) v5 v6) (iE W T M (some (.d (.int a))) (some (.d (cz x))) v5 v6):=by
 refine tX _ _ λo ho s hs=>?_;simp only[RC,RM,or_false]at ho;rcases ho with rfl|rfl|rfl|rfl|rfl|rfl|rfl;·cases hs;exact⟨_,rfl⟩
 ·cases hs;exact⟨_,rfl⟩
 ·cases hs;exact⟨_,rfl⟩
 ·cases hs;exact⟨_,rfl⟩
 ·cases hs;exact⟨_,rfl⟩
 ·rcases h5 with z|⟨d,z⟩<;>rw[z]at hs<;>cases hs;exact⟨_,rfl⟩
 ·rcases h6 with z|⟨d,z⟩<;>rw[z]at hs<;>cases hs;exact⟨_,rfl⟩
theorem ug{W:aJ}(ok:W.Ok){os:List Int}{T:List Nd}{S:Nat->Std}(h:qd W os T S){i:Nat}{x:Nd}(hx:T[i]?=some x){b:Bool}{D:Nat->Bool->Prop}{M:List (Int×Std)}(hM:MI T S D M)(hi:pf M (i:Int)=some (S i))(hn:¬D i b)(hl:M.length<100000):∃M',cy (iE W T M (some (.d (.int (i:Int)))) (some (.d (cz x))) (some (.d (.bool b))) (some (.d (.int (iK x b)))))=some (.nx (iE W T M' (some (.d (.int (i:Int)))) (some (.d (cz x))) (some (.d (.bool b))) (some (.d (.int (iK x b))))))/\MI T S (λj c=>D j c\/(j=i/\c=b)) M'/\M'.length<=M.length+1/\(∀q v,pf M q=some v->pf M' q=some v):=by
 have wl:=ok.len;have hlk:=jc (b:=b) hx;have o:=h.tr i x hx;have il:i<T.length:=(QK hx).1;have lk:uR W T.length S i x.tie b (iK x b):=by cases b;exact o.no;exact o.yes
 have od:MC i (iK x b):=LJ h.ord hx b;have t1:=xK (k:=iK x b) (lo:=-1) (hi:=(T.length:Int)-1);have c1:(decide ((-1:Int)<=iK x b)&&decide (iK x b<=(T.length:Int)-1))=true:=by
  rcases lk with z|⟨z1,z2,_⟩;·rw[RE,decide_eq_true_eq,decide_eq_true_eq];lia
  ·rw[RE,decide_eq_true_eq,decide_eq_true_eq];lia
 rw[c1]at t1;have ql:((T.map cz).length:Int)=(T.length:Int):=by simp
 have gin:=λe=>Lx (e:=e) (M:=M) (k:=iK x b) (neg:=false);have nin:pf M (iK x b)=none:=by
  rcases od with z|z;·cases c:pf M (iK x b) with|none=>rfl|some v=>
   exfalso;rcases hM.dn _ _ c with y|⟨_,_,_,_,y⟩;·lia
   ·exact y z
  ·rw[<-hlk];exact hM.free h.tree.1 hn (by rw[hlk];lia)
 rw[nin]at gin;have gn:∀e:En,AM e (.d (.int 1))=some (.d (.int (-1))):=λe=>fK;have chain:¬(0<=iK x b/\iK x b<=(i:Int)):=by rcases od with z|z<;>lia
 have first:∀R,ir (uH 2 (aF (aB CD (ae 6) (ae 3)))) (mB 2 6 (cf 4 eg (aa (ae 0) (aa (aB (f9 kh f_) (ae 2) (ae 3)) (aa (aB eE (ae 4) (vC (.int 0))) (aa (ae 5) ai)))))) bX (iE W T M (some (.d (.int (i:Int)))) (some (.d (cz x))) (some (.d (.bool b))) (some (.d (.int (iK x b)))))=R->cy (iE W T M (some (.d (.int (i:Int)))) (some (.d (cz x))) (some (.d (.bool b))) (some (.d (.int (iK x b)))))=R:=λR hR=>by
  refine(bS (e1:=iE W T M (some (.d (.int (i:Int)))) (some (.d (cz x))) (some (.d (.bool b))) (some (.d (.int (iK x b))))) ?_).trans hR;refine lP (e:=iE W T M (some (.d (.int (i:Int)))) (some (.d (cz x))) (some (.d (.bool b))) (some (.d (.int (iK x b))))) (y:=iE W T M (some (.d (.int (i:Int)))) (some (.d (cz x))) (some (.d (.bool b))) (some (.d (.int (iK x b))))) ?_ (pV (.inr ⟨_,rfl⟩) (.inr ⟨_,rfl⟩));simp only[iE];generalize iK x b=l at*;generalize dM M=MM at*;generalize T.map cz=TT at*;generalize cz x=XX at*;generalize au W=WW at*;generalize (T.length:Int)=n at*;generalize (i:Int)=ii at*;by_cases c2:0<=l;·have c3:¬l<=ii:=λz=>chain ⟨c2,z⟩;simp?[ql,t1,gn,gin,iD,c2,c3]
  ·simp?[ql,t1,gn,gin,iD,c2]
 rcases lk with z|⟨z1,z2,z3⟩
 ·refine⟨M,first _ ((Iq (e1:=iE W T M (some (.d (.int (i:Int)))) (some (.d (cz x))) (some (.d (.bool b))) (some (.d (.int (iK x b))))) ?_).trans rfl),hM.skip (by rw[hlk];exact z),by lia,λq v e=>e⟩;refine xI (e:=iE W T M (some (.d (.int (i:Int)))) (some (.d (cz x))) (some (.d (.bool b))) (some (.d (.int (iK x b))))) (y:=(iE W T M (some (.d (.int (i:Int)))) (some (.d (cz x))) (some (.d (.bool b))) (some (.d (.int (iK x b))))).set 2 none) ?_;have c:¬((i:Int)<iK x b):=by lia
  simp?[iE,c]
 ·have gt:(i:Int)<iK x b:=by rcases od with q|q<;>lia
  refine⟨M++[(iK x b,S (iK x b).toNat)],first _ ((Es (e1:=iE W T M (some (.d (.int (i:Int)))) (some (.d (cz x))) (some (.d (.bool b))) (some (.d (.int (iK x b))))) ?_).trans ?_),by rw[<-hlk];exact hM.put h.tree.1 hn (by rw[hlk];lia),by simp,λq v e=>by
   rw[pU nin];split;·rename_i c;rw[c,nin]at e;cases e
   ·exact e⟩;·refine xI (e:=iE W T M (some (.d (.int (i:Int)))) (some (.d (cz x))) (some (.d (.bool b))) (some (.d (.int (iK x b))))) (y:=(iE W T M (some (.d (.int (i:Int)))) (some (.d (cz x))) (some (.d (.bool b))) (some (.d (.int (iK x b))))).set 2 none) ?_;simp?[iE,gt]
  ·have sl:=o.st.len;have tk:=o.st.tk;have tb:=xJ (asked:=(S i).1) (taken:=(S i).2) b o.tie ↥0 ↥0;have mg:=λe=>HZ (e:=e) hi;rw[z3];refine ur (i:=2) (ik:=6) (e:=iE W T M (some (.d (.int (i:Int)))) (some (.d (cz x))) (some (.d (.bool b))) (some (.d (.int (iK x b))))) (y:=iE W T M (some (.d (.int (i:Int)))) (some (.d (cz x))) (some (.d (.bool b))) (some (.d (.int (iK x b))))) (dv:=dS (nxt W (S i) x.tie b)) ⋯ ?_ (yB _) (pV (.inr ⟨_,rfl⟩) (.inr ⟨_,rfl⟩)) rfl rfl (LP ↥0 nin);show _=some (Rv.d (cx (aJ.askd (S i).1 x.tie) (W.took (S i).2 x.tie b)),_);simp only[iE,cz,dS]at mg⊢;generalize cx (aJ.askd (S i).1 x.tie) (W.took (S i).2 x.tie b)=S2 at*;generalize cx (S i).1 (S i).2=SS at*;generalize iK x b=l at*;generalize dM M=MM at*;generalize T.map (λx=>PyData.tuple [.int x.tie,.int x.yes,.int x.no])=TT at*;generalize au W=WW at*;generalize (i:Int)=ii at*;simp?[mg,tb]
theorem Bc{W:aJ}(ok:W.Ok){os:List Int}{T:List Nd}{S:Nat->Std}(h:qd W os T S){i:Nat}{x:Nd}(hx:T[i]?=some x){M:List (Int×Std)}(hM:MI T S (λj _=>j<i) M)(hl:M.length<90000){v5 v6:Option Sv}(h5:v5=none\/∃d,v5=some (.d d))(h6:v6=none\/∃d,v6=some (.d d)):∃M' u5 u6,dG (iE W T M (some (.d (.int (i:Int)))) (some (.d (cz x))) v5 v6)=some (.nx (iE W T M' (some (.d (.int (i:Int)))) (some (.d (cz x))) (some (.d u5)) (some (.d u6))))/\MI T S (λj _=>j<i+1) M'/\M'.length<=M.length+2:=by
 have wl:=ok.len;have o:=h.tr i x hx;have il:i<T.length:=(QK hx).1;have hi:pf M (i:Int)=some (S i):=by
  by_cases z:i=0;·subst z;exact hM.z
  ·obtain⟨j,b,e⟩:=h.tree.2 i ↥0 il;have jl:j<i:=by
    by_cases c:j<T.length;·have hy:T[j]?=some T[j]:=RS c;have:=LJ h.ord hy b;rw[jc hy]at e;rcases this with q|q<;>lia
    ·rw[h_ (Vi ↥0)]at e;lia
   have:=hM.up j b jl ↥0;rw[e,Ug]at this;exact this
 have ql:((T.map cz).length:Int)=(T.length:Int):=by simp
 have gin:=λe=>Lx (e:=e) (M:=M) (k:=(i:Int)) (neg:=true);have mg:=λe=>HZ (e:=e) hi;rw[hi]at gin;have sl:=o.st.len;have tm:=Iz ok (taken:=(S i).2) o.st.inw ↥0 o.tie;rw[o.may]at tm;have t1:=xK (k:=x.tie) (lo:=0) (hi:=(W.ties.length:Int)-1);have c1:(decide ((0:Int)<=x.tie)&&decide (x.tie<=(W.ties.length:Int)-1))=true:=by have:=o.tie.1;have:=o.tie.2;rw[RE,decide_eq_true_eq,decide_eq_true_eq];lia
 rw[c1]at t1;have g1':=NI (W:=W);have qt:((W.ties.map cT).length:Int)=(W.ties.length:Int):=by simp
 let E:List (Int×Std)->Option Sv->Option Sv->En:=λM v5 v6=>iE W T M (some (.d (.int (i:Int)))) (some (.d (cz x))) v5 v6;obtain⟨M1,b1,m1,l1,k1⟩:=ug ok h hx (b:=true) hM hi ↥1 ↥0;obtain⟨M2,b2,m2,l2,k2⟩:=ug ok h hx (b:=false) m1 (k1 _ _ hi) ↥1 ↥0;refine⟨M2,.bool false,.int (iK x false),?_,m2.mono λj b=>?_,by lia⟩
 ·refine(bS (e1:=E M v5 v6) ?_).trans ((bS (e1:=E M v5 v6) ?_).trans ?_);·refine lP (e:=E M v5 v6) (y:=E M v5 v6) ?_ (pV h5 h6);simp only[E,iE,cz];generalize dM M=MM at*;generalize T.map (λx=>PyData.tuple [.int x.tie,.int x.yes,.int x.no])=TT at*;generalize au W=WW at*;generalize (i:Int)=ii at*;have gt:∀(e:En) (ds:List QR),qS "tuple" e (.d (.tuple ds))=some (.d (.bool true)):=λ_ ds=>rfl;simp?[gin,gt]
  ·refine lP (e:=E M v5 v6) (y:=E M v5 v6) ?_ (pV h5 h6);simp only[E,iE,cz,dS]at mg⊢;generalize cx (S i).1 (S i).2=SS at*;generalize dM M=MM at*;generalize T.map (λx=>PyData.tuple [.int x.tie,.int x.yes,.int x.no])=TT at*;generalize W.ties.map cT=LL at*;generalize (W.ties.length:Int)=n at*;generalize au W=WW at*;generalize (i:Int)=ii at*;simp?[mg,t1,tm,g1',qt]
  ·have hi':kj 2 gc (E M v5 v6)=some ([.tuple [.bool true,.int (iK x true)],.tuple [.bool false,.int (iK x false)]],[],E M v5 v6):=by refine mZ (i:=2) (e:=E M v5 v6) (y:=(E M v5 v6).set 2 none) (own:=[]) ?_ rfl;simp?[E,iE,cz,iK,gc,iJ,vU]
   rw[bR hi'];have ga:∀(M:List (Int×Std)) (v5 v6:Option Sv) (b:Bool) (l:Int),fJ 2 (bV (aG (ah 5) (aG (ah 6) bN))) (.tuple [.bool b,.int l]) (E M v5 v6)=some (E M (some (.d (.bool b))) (some (.d (.int l)))):=λM v5 v6 b l=>wQ (e:=E M v5 v6) (y:=(E M (some (.d (.bool b))) (some (.d (.int l)))).set 2 none) rfl;unfold iI;rw[ga,Rr];show(cy (iE W T M (some (.d (.int (i:Int)))) (some (.d (cz x))) (some (.d (.bool true))) (some (.d (.int (iK x true)))))).bind _=_;rw[b1,Rr];dsimp only;rw[if_pos aQ];unfold iI;rw[ga,Rr];show(cy (iE W T M1 (some (.d (.int (i:Int)))) (some (.d (cz x))) (some (.d (.bool false))) (some (.d (.int (iK x false)))))).bind _=_;rw[b2,Rr];dsimp only;rw[if_pos aQ];rfl
 ·constructor;·rintro((c|⟨c,_⟩)|⟨c,_⟩)<;>lia
  ·intro c;by_cases z:j=i;·cases b with|true=>exact .inl (.inr ⟨z,rfl⟩)|false=>exact .inr ⟨z,rfl⟩
   ·exact .inl (.inl ↥0)
theorem l5{W:aJ}(ok:W.Ok){os:List Int}{T:List Nd}{S:Nat->Std}(h:qd W os T S):cB [.d (au W),.d (.tuple (T.map cz))]=some (.d (.bool true),[.d (au W),.d (.tuple (T.map cz))]):=by
 have tl:=h.len;have m0:T≠[]->MI T S (λj _=>j<0) [(0,([],[]))]:=λz=>by
  rcases h.s0 with⟨e,_⟩|⟨_,e⟩;·exact absurd e z
  ·refine⟨by rw[e];rfl,λj b d _=>by lia,λq v d=>.inl ?_⟩;unfold pf at d;rw[RL]at d;by_cases c:(0:Int)==q
   ·have:(0:Int)=q:=by simpa using c
    exact this.symm
   ·have c':((0:Int)==q)=false:=by simpa using c
    rw[c']at d;simp at d
 obtain⟨e',h1,M,v3,v4,v5,v6,he,-⟩:=bC (own:=[]) (g:=fJ 2 (bV (aG (ah 3) (aG (ah 4) bN)))) (f:=dG) (λi e=>∃M v3 v4 v5 v6,e=iE W T M v3 v4 v5 v6/\(T≠[]->MI T S (λj _=>j<i) M)/\M.length<=2*i+1/\(v5=none\/∃d,v5=some (.d d))/\(v6=none\/∃d,v6=some (.d d))) (kg 0 (T.map cz)) 0 (iE W T [(0,([],[]))] none none none none) (λi y e hy⟨M,v3,v4,v5,v6,he,hM,hl,h5,h6⟩=>by
  subst he;rw[Ta]at*;obtain⟨x,hx,rfl⟩:=Cq hy;have il:i<T.length:=(QK hx).1;have ne:T≠[]:=λz=>by subst z;simp at il
  obtain⟨M',u5,u6,hb,hM',hl'⟩:=Bc ok h hx (hM ne) ↥0 h5 h6;exact⟨iE W T M (some (.d (.int (i:Int)))) (some (.d (cz x))) v5 v6,_,wQ (e:=iE W T M v3 v4 v5 v6) (y:=(iE W T M (some (.d (.int (i:Int)))) (some (.d (cz x))) v5 v6).set 2 none) rfl,hb,aQ,_,_,_,_,_,rfl,λ_=>hM',by lia,.inr ⟨_,rfl⟩,.inr ⟨_,rfl⟩⟩) ⟨[(0,([],[]))],none,none,none,none,rfl,m0,by simp,.inl rfl,.inl rfl⟩;subst he;have ie:dI ((iE W T [(0,([],[]))] none none none none).set 2 none)=some (kg 0 (T.map cz),[],(iE W T [(0,([],[]))] none none none none).set 2 none):=by simp only[iE,List.set_cons_succ,List.set_cons_zero];generalize T.map cz=TT at*;generalize au W=WW at*;simp?[dI,zB,vU]
 have hi:=mZ (i:=2) (f:=dI) (e:=iE W T [(0,([],[]))] none none none none) ie rfl;have hg:=λWl=>bR (W:=Wl) (g:=fJ 2 (bV (aG (ah 3) (aG (ah 4) bN)))) (f:=dG) hi;have e0:((iE W T [(0,([],[]))] none none none none).set 2 none).set 2 ((iE W T [(0,([],[]))] none none none none)[2]?).join=iE W T [(0,([],[]))] none none none none:=rfl;rw[e0,h1]at hg;have gt:∀(e:En) (ds:List QR),qS "tuple" e (.d (.tuple ds))=some (.d (.bool true)):=λ_ ds=>rfl;have ql:((T.map cz).length:Int)=(T.length:Int):=by simp
 have q3:¬(300:Int)<(T.length:Int):=by lia
 have a0:qk (.tuple [.tuple [],.tuple []])=true:=rfl;have d0:dM [(0,([],[]))]=[(.int 0,.tuple [.tuple [],.tuple []])]:=rfl;have fin:ko 2 (bh (vC (.bool true))) (iE W T M v3 v4 v5 v6)=some (.rt (.d (.bool true)) (iE W T M v3 v4 v5 v6)):=Et (e:=iE W T M v3 v4 v5 v6) (y:=(iE W T M v3 v4 v5 v6).set 2 none) rfl;simp only[iE,d0]at hg fin;generalize T.map cz=TT at*;generalize dM M=MM at*;generalize au W=WW at*;generalize (T.length:Int)=n at*;simp?[cB,lT,oI,Hw,gt,ql,q3,a0,hg,fin]
theorem uJ{W:aJ}{os:List Int}(h8:8<os.length)(h16:os.length<=16):js [.d (au W),.d (.tuple (os.map .int))]=some (.d (.bool true),[.d (au W),.d (.tuple (os.map .int))]):=by
 have ol:((os.map PyData.int).length:Int)=(os.length:Int):=by simp
 refine Jn rfl rfl ⟨[.int (os.length:Int),.int 8],[some (.d (au W)),some (.d (.tuple (os.map .int)))],?_,rfl,?_⟩;·generalize os.map PyData.int=OO at*;simp?[ol]
 ·have c:(8:Int)<(os.length:Int):=by lia
  refine⟨[some (.d (.int (os.length:Int))),some (.d (.int 8))],?_,rfl,?_⟩;·simp?[c]
  ·have a:∀e:En,vq e (.d (.int (os.length:Int)))=some (.d (.str (nS (os.length:Int)))):=λe=>wN ↥0 ↥0;have b:∀e:En,vq e (.d (.int 8))=some (.d (.str (nS 8))):=λe=>wN ⋯ ⋯;have l1:=zJ ⟨os.length,by lia⟩;have l2:=zJ ⟨8,by lia⟩;change (nS (os.length:Int)).length<=4 at l1;change (nS 8).length<=4 at l2;have l3:(RY " are more than ").length=15:=by decide
   have l:(nS (os.length:Int)).length+(RY " are more than ").length+(nS 8).length<=1000000:=by lia
   generalize nS (os.length:Int)=x at*;generalize nS 8=y at*;refine⟨[.d (.str (Uv++x++RY " are more than "++y))],[some (.d (.int (os.length:Int))),some (.d (.int 8))],?_,rfl⟩;simp?[a,b,MP,uM,l]
theorem yS{W:aJ}{a:List Bool}:∀(os:List Int) (s:Std),(sY W a s os).length<=os.length/\∀p∈sY W a s os,p.1∈os
 |[],s=>⟨Ro _,λp hp=>by cases hp⟩|k::r,s=>by
  rw[sY];split
  ·obtain⟨i1,i2⟩:=yS (W:=W) (a:=a) r (nxt W s k (a.getD k.toNat false));refine⟨by rw[SA,SA];lia,λp hp=>?_⟩;rcases QN hp with rfl|hp;·simp
   ·simp[i2 p hp]
  ·obtain⟨i1,i2⟩:=yS (W:=W) (a:=a) r s;exact⟨by rw[SA];lia,λp hp=>by simp[i2 p hp]⟩
theorem Af{W:aJ}(ok:W.Ok){os:List Int}{T:List Nd}{S:Nat->Std}{τ:List Bool}(h:qd W os T S)(ho:∀k∈os,jK W k)(hl:os.length<=8):cu [.d (au W),.d (.tuple (os.map .int)),.d (.tuple (T.map cz)),.d (dB τ)]=some (.d (.bool true),[.d (au W),.d (.tuple (os.map .int)),.d (.tuple (T.map cz)),.d (dB τ)]):=by have ts:=EO ok (os:=os) (τ:=τ) ho;have sl:=vT (W:=W) (os.zip τ) (Rk W.ties.length false);rw[Va]at sl;generalize Hh W (os.zip τ) (Rk W.ties.length false)=a at*;have t1:=y3 ok h.tr (ans:=a) sl;have t2:=xO ok ho ↥0 (a:=a) sl;rw[Eo h ↥0]at t1;obtain⟨i1,i2⟩:=yS (W:=W) (a:=a) os ([],[]);have t3:=EN (Sz.run ok (r:=sY W a ([],[]) os) ↥0 λp hp=>ho _ (i2 p hp)) ⋯ ⋯;unfold dB at*;generalize (sY W a ([],[]) os).map dR=RR at*;generalize a.map PyData.bool=AA at*;generalize τ.map PyData.bool=TT at*;generalize T.map cz=TD at*;generalize os.map PyData.int=OO at*;generalize au W=WW at*;simp?[cu,mM,ts,t1,t2,t3]
theorem Hk{W:aJ}(ok:W.Ok){os:List Int}{T:List Nd}{S:Nat->Std}(h:qd W os T S):Sz 6903 6 (.tuple (T.map cz)):=by
 have wl:=ok.len;refine Sz.tup (n:=21) (dep:=4) (m:=300) (λd hd=>?_) (by rw[Rq];exact h.len);obtain⟨x,hx,rfl⟩:=QM hd;obtain⟨i,hi⟩:=Wg hx;have o:=h.tr i x hi;have tl:=h.len;have sz:∀k:Int,-1<=k->k<300->Sz 4 2 (.int k):=λk a b=>Sz.int10 (n:=3) (m:=64) (by unfold Bt;lia) ⋯ ⋯ ↥0 ⋯;have lk:∀b l,uR W T.length S i x.tie b l->Sz 4 2 (.int l):=λb l q=>by
  rcases q with z|⟨z1,z2,_⟩;·exact sz l ↥0 ↥0
  ·exact sz l ↥0 ↥0
 refine Sz.tup (n:=4) (dep:=2) (m:=3) (λd hd=>?_) ↥1;simp only[RC,RM,or_false]at hd;rcases hd with rfl|rfl|rfl;·exact sz _ (by have:=o.tie.1;lia) (by have:=o.tie.2;lia)
 ·exact lk _ _ o.yes
 ·exact lk _ _ o.no
inductive IF (ns:List Int):En->Prop|mk{ds v2 v3 v4 v5 v6 v7}(hd:je ds):IF ns [some (.d (.list (ns.map .int))),some (.l (ds.map .int)),v2,v3,v4,v5,v6,v7,none,none]
theorem Bs{W:aJ}(ok:W.Ok){os:List Int}{T:List Nd}{S:Nat->Std}(h:qd W os T S)(ho:∀k∈os,jK W k)(hl:os.length<=7){v0 v1 v2 v5:Option Sv}:∃v7,∀Wl u7,cO Wl MK (ah 7) KU [v0,v1,v2,some (.d (au W)),some (.d (.tuple (os.map .int))),v5,some (.d (.tuple (T.map cz))),u7,none,none]=some (.nx [v0,v1,v2,some (.d (au W)),some (.d (.tuple (os.map .int))),v5,some (.d (.tuple (T.map cz))),(if (jx os.length).length=0 then u7 else v7),none,none]):=by
 have tr:=BE (n:=os.length) ↥0;have ql:((os.map PyData.int).length:Int)=(os.length:Int):=by simp
 have key:∀(rows:List (List Bool)) (u7:Option Sv),iI [] (ah 7) KU (rows.map dB) [v0,v1,v2,some (.d (au W)),some (.d (.tuple (os.map .int))),v5,some (.d (.tuple (T.map cz))),u7,none,none]=some (.nx [v0,v1,v2,some (.d (au W)),some (.d (.tuple (os.map .int))),v5,some (.d (.tuple (T.map cz))),(match rows.getLast? with|some r=>some (.d (dB r))|none=>u7),none,none]):=by intro rows;induction rows with|nil=>intro u7;rfl|cons τ r ih=>
  intro u7;have ta:=Af ok (τ:=τ) h ho ↥0;rw[Rn];unfold iI;have hb:KU [v0,v1,v2,some (.d (au W)),some (.d (.tuple (os.map .int))),v5,some (.d (.tuple (T.map cz))),some (.d (dB τ)),none,none]=some (.nx [v0,v1,v2,some (.d (au W)),some (.d (.tuple (os.map .int))),v5,some (.d (.tuple (T.map cz))),some (.d (dB τ)),none,none]):=by generalize T.map cz=TD at*;generalize os.map PyData.int=OO at*;generalize au W=WW at*;generalize dB τ=TT at*;simp?[KU,ta]
  show(KU [v0,v1,v2,some (.d (au W)),some (.d (.tuple (os.map .int))),v5,some (.d (.tuple (T.map cz))),some (.d (dB τ)),none,none]).bind _=_;rw[hb,Rr];dsimp only;rw[if_pos aQ,ih];cases r with|nil=>rfl|cons τ2 r2=>rw[List.getLast?_cons_cons];cases c:(τ2::r2).getLast? with|none=>simp at c|some q=>rfl
 have hi:∀u7,MK [v0,v1,v2,some (.d (au W)),some (.d (.tuple (os.map .int))),v5,some (.d (.tuple (T.map cz))),u7,none,none]=some ((jx os.length).map dB,[],[v0,v1,v2,some (.d (au W)),some (.d (.tuple (os.map .int))),v5,some (.d (.tuple (T.map cz))),u7,none,none]):=λu7=>by generalize (jx os.length).map dB=RR at*;generalize T.map cz=TD at*;generalize (os.length:Int)=n at*;generalize os.map PyData.int=OO at*;generalize au W=WW at*;simp?[MK,iJ,vU,ql,tr]
 refine⟨(match (jx os.length).getLast? with|some r=>some (.d (dB r))|none=>none),λWl u7=>?_⟩;rw[bR (hi u7),key];cases c:(jx os.length).getLast? with
 |none=>
  have:(jx os.length)=[]:=by simpa using c
  rw[this];rfl|some r=>
  have:¬(jx os.length).length=0:=λz=>by rw[Vu.mp z]at c;cases c
  rw[if_neg this]
theorem C0{ns ds:List Int}(hd:je ds){i:Nat}(hi:i<4){v3 v4 v5 v6 v7:Option Sv}:∃e2,K8 [some (.d (.list (ns.map .int))),some (.l (ds.map .int)),some (.d (.int (i:Int))),v3,v4,v5,v6,v7,none,none]=some (.nx e2)/\IF ns e2:=by
 obtain⟨W,d1,t1,hd1,ok,-,wl⟩:=Mw ds 12 9 hd ⋯ ⋯ ⋯ ⋯;obtain⟨m,hm,m1⟩:∃m:Nat,atI [PyData.int 7,.int 5,.int 5,.int 4] (i:Int)=some (PyData.int (m:Int))/\m<=7:=by
  have:i=0\/i=1\/i=2\/i=3:=by lia
  rcases this with rfl|rfl|rfl|rfl;·exact⟨7,rfl,by decide⟩
  ·exact⟨5,rfl,by decide⟩
  ·exact⟨5,rfl,by decide⟩
  ·exact⟨4,rfl,by decide⟩
 obtain⟨os,d2,left,t2,hd2,pm,ol⟩:=Ho ok hd1 (most:=(m:Int)) ↥0 ↥0;have ho:∀k∈os,jK W k:=λk hk=>xx (pm.mem_iff.mp (by simp[hk]));obtain⟨T,S,t3,hF⟩:=uK ok ho ↥0;have tn:=l5 ok hF;have ts:=EN (Hk ok hF) ⋯ ⋯;have gq:=λe=>IX (W:=W) (os:=os) e;obtain⟨u7,hr⟩:=Bs ok hF ho ↥0 (v0:=some (.d (.list (ns.map .int)))) (v1:=some (.l (d2.map .int))) (v2:=some (.d (.int (i:Int)))) (v5:=some (.d (.tuple [au W,.tuple (os.map .int)])));refine⟨_,?_,.mk hd2 (v2:=some (.d (.int (i:Int)))) (v3:=some (.d (au W))) (v4:=some (.d (.tuple (os.map .int)))) (v5:=some (.d (.tuple [au W,.tuple (os.map .int)]))) (v6:=some (.d (.tuple (T.map cz)))) (v7:=if (jx os.length).length=0 then v7 else u7)⟩;generalize T.map cz=TD at*;generalize os.map PyData.int=OO at*;generalize au W=WW at*;generalize (i:Int)=ii at*;generalize (m:Int)=mm at*;generalize (jx os.length).length=rl at*;simp?[K8,t1,hm,t2,t3,tn,gq,ts,hr]
theorem CZ(ns:List Int)(hl:ns.length<=63):∃as',rD [.d (.list (ns.map .int))]=some (.d (.bool true),as'):=by
 obtain⟨ds,td,hd⟩:=Hn ns hl;obtain⟨e2,h1,hI⟩:=bC (own:=[]) (g:=ah 2) (f:=K8) (λ_=>IF ns) (bf 0 4) 0 [some (.d (.list (ns.map .int))),some (.l (ds.map .int)),none,none,none,none,none,none,none,none] (λi x e hx hI=>by
  obtain⟨hd⟩:=hI;rename_i ds v2 v3 v4 v5 v6 v7;obtain⟨j,hj,rfl⟩:∃j:Nat,j<4/\x=.int (j:Int):=by obtain⟨a,b⟩:=cX hx;exact⟨i,b,by rw[a];simp⟩
  obtain⟨e',hb,hI'⟩:=C0 (ns:=ns) hd hj (v3:=v3) (v4:=v4) (v5:=v5) (v6:=v6) (v7:=v7);exact⟨_,_,rfl,hb,aQ,hI'⟩) (.mk hd);obtain⟨hd2⟩:=hI;rename_i ds2 v2 v3 v4 v5 v6 v7;have hi:NL [some (.d (.list (ns.map .int))),some (.l (ds.map .int)),none,none,none,none,none,none,none,none]=some (bf 0 4,[],[some (.d (.list (ns.map .int))),some (.l (ds.map .int)),none,none,none,none,none,none,none,none]):=bT (n:=4) rfl ⋯ ⋯;have hfor:=λWl=>bR (W:=Wl) (g:=ah 2) (f:=K8) hi;rw[h1]at hfor;obtain⟨n1,d1,t1,-,-,hd1⟩:=jI hd2;have gm:∀e:En,a' e (.d (.int n1)) (.d (.int 8))=some (.d (.int (n1%8))):=λe=>aO ⋯;have q0:=zu (n:=n1) (k:=8) ⋯;have q1:=zw (n:=n1) (k:=8) ⋯;generalize n1%8=q at*;obtain⟨W,d3,t3,hd3,ok,wl⟩:=KD (n:=9+q) ↥0 ↥0 hd1;obtain⟨fs,d4,t4,hd4,nd,ho,fl⟩:=KB (n:=9+q) ↥0 wl ok hd3;have r1:=uJ (W:=W) (os:=fs) ↥0 ↥0;have l9:(fs.take 9).length=9:=by rw[UY];lia
 have r2:=uJ (W:=W) (os:=fs.take 9) ↥0 ↥0;have ho8:∀k∈fs.take 8,jK W k:=λk hk=>ho k (List.mem_of_mem_take hk);have l8:(fs.take 8).length<=8:=by rw[UY];lia
 obtain⟨T,S,t5,hF⟩:=uK ok ho8 l8;have tn:=l5 ok hF;have c9:∀e:En,Le e (.d (.tuple (fs.map .int))) none (some 9)=some (.d (.tuple ((fs.take 9).map .int))):=λe=>by rw[mX,show(9:Int)=((9:Nat):Int) from rfl,wD,List.map_take]
 have c8:∀e:En,Le e (.d (.tuple (fs.map .int))) none (some 8)=some (.d (.tuple ((fs.take 8).map .int))):=λe=>by rw[mX,show(8:Int)=((8:Nat):Int) from rfl,wD,List.map_take]
 have ta:=λτ=>Af ok (τ:=τ) hF ho8 l8;obtain⟨e3,h2,d5,v2',he,hd5⟩:=bC (own:=[]) (g:=ah 2) (f:=MH) (λ_ e=>∃d5 v2',e=[some (.d (.list (ns.map .int))),some (.l (d5.map .int)),v2',v3,some (.d (.tuple (fs.map .int))),v5,some (.d (.tuple (T.map cz))),v7,some (.d (.int (9+q))),some (.d (au W))]/\je d5) (bf 0 8) 0 [some (.d (.list (ns.map .int))),some (.l (d4.map .int)),v2,v3,some (.d (.tuple (fs.map .int))),v5,some (.d (.tuple (T.map cz))),v7,some (.d (.int (9+q))),some (.d (au W))] (λi x e hx⟨d5,v2',he,hd5⟩=>by subst he;obtain⟨d6,bs,tb,hd6,-⟩:=BC (many:=8) hd5 ⋯ ⋯;have tb2:=ta bs;unfold dB at tb2;refine⟨_,[some (.d (.list (ns.map .int))),some (.l (d6.map .int)),some (.d x),v3,some (.d (.tuple (fs.map .int))),v5,some (.d (.tuple (T.map cz))),v7,some (.d (.int (9+q))),some (.d (au W))],rfl,?_,aQ,d6,_,rfl,hd6⟩;generalize bs.map PyData.bool=BB at*;generalize T.map cz=TD at*;generalize (fs.take 8).map PyData.int=O8 at*;generalize fs.map PyData.int=OO at*;generalize au W=WW at*;generalize (9+q:Int)=nq at*;simp?[MH,c8,tb,tb2]) ⟨d4,v2,rfl,hd4⟩;subst he;have hi2:NK [some (.d (.list (ns.map .int))),some (.l (d4.map .int)),v2,v3,some (.d (.tuple (fs.map .int))),v5,some (.d (.tuple (T.map cz))),v7,some (.d (.int (9+q))),some (.d (au W))]=some (bf 0 8,[],[some (.d (.list (ns.map .int))),some (.l (d4.map .int)),v2,v3,some (.d (.tuple (fs.map .int))),v5,some (.d (.tuple (T.map cz))),v7,some (.d (.int (9+q))),some (.d (au W))]):=bT (n:=8) rfl ⋯ ⋯;have hfor2:=λWl=>bR (W:=Wl) (g:=ah 2) (f:=MH) hi2;rw[h2]at hfor2;have tf:=ta (Rk 8 false);have gr:∀e:En,ja e (.d (.tuple [.bool false])) (.d (.int 8))=some (.d (dB (Rk 8 false))):=λe=>by rw[CH ⋯ ⋯];rfl
 clear h1 h2;generalize dB (Rk 8 false)=FF at*;generalize T.map cz=TD at*;generalize (fs.take 9).map PyData.int=O9 at*;generalize (fs.take 8).map PyData.int=O8 at*;generalize fs.map PyData.int=OO at*;generalize au W=WW at*;generalize hnq:(9+q:Int)=nq at*;have ga:∀e:En,cZ e (.d (.int 9)) (.d (.int q))=some (.d (.int nq)):=λe=>by rw[fD,hnq]
 simp?[rD,HN,td,hfor,t1,gm,hnq,t3,t4,r1,r2,c9,c8,t5,tn,hfor2,gr,tf]
theorem Lw{P:List QP->Prop}(h:∀a0,P [a0]):∀us:List QP,us.length=1->P us:=λus e=>match us,e with|[a0],_=>h a0
theorem xX{P:List QP->Prop}(h:∀a0 a1,P [a0,a1]):∀us:List QP,us.length=2->P us:=λus e=>match us,e with|[a0,a1],_=>h a0 a1
theorem BQ{P:List QP->Prop}(h:∀a0 a1 a2,P [a0,a1,a2]):∀us:List QP,us.length=3->P us:=λus e=>match us,e with|[a0,a1,a2],_=>h a0 a1 a2
theorem Ni{P:List QP->Prop}(h:∀a0 a1 a2 a3,P [a0,a1,a2,a3]):∀us:List QP,us.length=4->P us:=λus e=>match us,e with|[a0,a1,a2,a3],_=>h a0 a1 a2 a3
abbrev hQ(w:QW)(n:Str)(s:Rh)(a c:QQ)(d p:QP):Prop:=(Tj (kK w.params) RN n,Vf a (kK w.params),Vp (kK w.params) (.ref c) n,UW (kK w.params) (.ref a))=(some (some (.ref a)),some (kF n s d p c),true,true)
theorem hm{w:QW}{h:Re}{mg:Str->Option QP}{n:Str}{s:Rh}{a c:QQ}{d p:QP}{ps:List Str}(X:(kK w.params).In h)(G:h.Ns RN mg)(e:hQ w n s a c d p)(b:∀(kV doc pm:QP) (an:Option QQ) (cdv ct:QP) (us:List QP),us.length=ps.length->bindArgs (Tc n n (d_ s) (cn s) (am s) .none kV doc pm an cdv ct) ⟨us,[]⟩=pure (ps.zip us)):fW (kK w.params) mg n s a (Tc n n (d_ s) (cn s) (am s) .none .none d p none (.ref c) .none) ps:=IY X G (congrArg (·.1) e) (congrArg (·.2.1) e) (congrArg (·.2.2.1) e) (congrArg (·.2.2.2) e) b
theorem pG(w:QW):hQ w "refuse_above" bD 82 81 (.none) NM:=by kernel_rfl
theorem vB(w:QW):hQ w "things_of" cY 92 91 (.none) E8:=by kernel_rfl
theorem vA(w:QW):hQ w "many_asks" fV 97 96 (.none) E8:=by kernel_rfl
theorem m5(w:QW):hQ w "bears_one_more" bY 104 103 (.none) E8:=by kernel_rfl
theorem yu(w:QW):hQ w "may_ask" jE 109 108 (.none) E8:=by kernel_rfl
theorem pH(w:QW):hQ w "stand_behind" bZ 116 115 (.none) E8:=by kernel_rfl
theorem yw(w:QW):hQ w "tree_by" gQ 121 120 (.none) NN:=by kernel_rfl
theorem ou(w:QW):hQ w "asks_by_stand" bL 126 125 (.none) ML:=by kernel_rfl
theorem yx(w:QW):hQ w "tree_of" eX 133 132 (.none) ML:=by kernel_rfl
theorem CU(w:QW):hQ w "_law_mixed" nK 140 139 (.none) eR:=by kernel_rfl
theorem CT(w:QW):hQ w "_law_draws" nJ 147 146 (.none) eR:=by kernel_rfl
theorem FQ(w:QW):hQ w "_law_next" iu 154 153 (.none) eR:=by kernel_rfl
theorem Jd(w:QW):hQ w "_law_gcd" xA 161 160 (.none) eR:=by kernel_rfl
theorem Je(w:QW):hQ w "_law_low" xB 168 167 (.none) eR:=by kernel_rfl
theorem FR(w:QW):hQ w "_law_same" oJ 175 174 (.none) eR:=by kernel_rfl
theorem AY(w:QW):hQ w "_law_chance" lg 182 181 (.none) eR:=by kernel_rfl
theorem CW(w:QW):hQ w "_law_worth" nM 189 188 (.none) eR:=by kernel_rfl
theorem FU(w:QW):hQ w "_law_ties" oK 196 195 (.none) eR:=by kernel_rfl
theorem Jg(w:QW):hQ w "_law_web" xC 203 202 (.none) eR:=by kernel_rfl
theorem yp(w:QW):hQ w "_law_asks_of" jz 208 207 (.none) eR:=by kernel_rfl
theorem Jf(w:QW):hQ w "_law_may" ut 215 214 (.none) eR:=by kernel_rfl
theorem AX(w:QW):hQ w "_law_behind" jA 222 221 (.none) eR:=by kernel_rfl
theorem CV(w:QW):hQ w "_law_order" nL 229 228 (.none) eR:=by kernel_rfl
theorem yo(w:QW):hQ w "_law_answers" jy 236 235 (.none) eR:=by kernel_rfl
theorem vz(w:QW):hQ w "_law_run_order" fU 243 242 (.none) eR:=by kernel_rfl
theorem wW(w:QW):hQ w "_law_run_tree" iy 250 249 (.none) eR:=by kernel_rfl
theorem FP(w:QW):hQ w "_law_full" rY 257 256 (.none) eR:=by kernel_rfl
theorem FV(w:QW):hQ w "_law_wide" r6 264 263 (.none) eR:=by kernel_rfl
theorem yt(w:QW):hQ w "_law_rows_of" jD 269 268 (.none) eR:=by kernel_rfl
theorem A6(w:QW):hQ w "_law_spread" lm 276 275 (.none) eR:=by kernel_rfl
theorem yq(w:QW):hQ w "_law_is_many" jB 283 282 (.none) eR:=by kernel_rfl
theorem AZ(w:QW):hQ w "_law_is_int" lh 290 289 (.none) eR:=by kernel_rfl
theorem rj(w:QW):hQ w "_law_nodes_right" dC 297 296 (.none) eR:=by kernel_rfl
theorem yr(w:QW):hQ w "_law_refused" jC 304 303 (.none) eR:=by kernel_rfl
theorem sV(w:QW):hQ w "_law_asks_alike" er 311 310 (.none) eR:=by kernel_rfl
theorem Jh(w:QW):hQ w "law" r9 318 317 (.none) eR:=by kernel_rfl
theorem all_mk{l:W.OpenLaw}{w:QW}{h:Re}{mg:Str->Option QP}{fa:QQ}(X:(kK w.params).In h)(G:h.Ns RN mg)(hfa:mg "law"=some (.ref fa)):∃fd:RJ,(∀(s:QS) (v:QP),BindsTo s fd ⟨[v],[]⟩ [("_law_script",v)])/\∀base:Re,(kK w.params).In base->base.Ns RN mg->bg l.prog w (kK w.params) mg base gy 8 fa fd ["_law_script"] (iB (kK w.params) 1 rD):=by
 have e:=hfa.symm.trans (TM X G (show Tj (kK w.params) RN "law"=some (some (.ref 318)) by kernel_rfl));cases e;have nn:∀{n:Str},Tj (kK w.params) RN n=some none->mg n=none:=λe=>W.mg_none_of X G e;have T:cg mg:=⟨nn ↥6,nn ↥6,nn ↥6,nn ↥6,nn ↥6,nn ↥6,nn ↥6,nn ↥6,nn ↥6,nn ↥6,nn ↥6,nn ↥6,nn ↥6,nn ↥6,nn ↥6,nn ↥6⟩;have N9:=hm (ps:=["many","most"]) X G (pG w) λ_ _ _ _ _ _=>xX λ_ _=>rfl;have Oc:=hm (ps:=["web","tie"]) X G (vB w) λ_ _ _ _ _ _=>xX λ_ _=>rfl;have On:=hm (ps:=["web","asked","thing"]) X G (vA w) λ_ _ _ _ _ _=>BQ λ_ _ _=>rfl;have Oe:=hm (ps:=["web","stand","thing"]) X G (m5 w) λ_ _ _ _ _ _=>BQ λ_ _ _=>rfl;have Ox:=hm (ps:=["web","stand","tie"]) X G (yu w) λ_ _ _ _ _ _=>BQ λ_ _ _=>rfl;have Ob:=hm (ps:=["web","stand","tie","truth"]) X G (pH w) λ_ _ _ _ _ _=>Ni λ_ _ _ _=>rfl;have Oq:=hm (ps:=["web","asks"]) X G (yw w) λ_ _ _ _ _ _=>xX λ_ _=>rfl;have Od:=hm (ps:=["web","order"]) X G (ou w) λ_ _ _ _ _ _=>xX λ_ _=>rfl;have Oa:=hm (ps:=["web","order"]) X G (yx w) λ_ _ _ _ _ _=>xX λ_ _=>rfl;have OK:=hm (ps:=["_law_cell","_law_k"]) X G (CU w) λ_ _ _ _ _ _=>xX λ_ _=>rfl;have OZ:=hm (ps:=["_law_script"]) X G (CT w) λ_ _ _ _ _ _=>Lw λ_=>rfl;have N_:=hm (ps:=["_law_drawn"]) X G (FQ w) λ_ _ _ _ _ _=>Lw λ_=>rfl;have Pu:=hm (ps:=["_law_one","_law_other"]) X G (Jd w) λ_ _ _ _ _ _=>xX λ_ _=>rfl;have Pn:=hm (ps:=["_law_top","_law_bottom"]) X G (Je w) λ_ _ _ _ _ _=>xX λ_ _=>rfl;have OW:=hm (ps:=["_law_found","_law_due"]) X G (FR w) λ_ _ _ _ _ _=>xX λ_ _=>rfl;have OE:=hm (ps:=["_law_number","_law_kind"]) X G (AY w) λ_ _ _ _ _ _=>xX λ_ _=>rfl;have OX:=hm (ps:=["_law_number","_law_kind"]) X G (CW w) λ_ _ _ _ _ _=>xX λ_ _=>rfl;have OV:=hm (ps:=["_law_drawn","_law_things","_law_many"]) X G (FU w) λ_ _ _ _ _ _=>BQ λ_ _ _=>rfl;have Pz:=hm (ps:=["_law_drawn","_law_most","_law_ties_here"]) X G (Jg w) λ_ _ _ _ _ _=>BQ λ_ _ _=>rfl;have Oy:=hm (ps:=["_law_web_here","_law_asked","_law_thing"]) X G (yp w) λ_ _ _ _ _ _=>BQ λ_ _ _=>rfl;have Pe:=hm (ps:=["_law_web_here","_law_stand","_law_tie"]) X G (Jf w) λ_ _ _ _ _ _=>BQ λ_ _ _=>rfl;have Ov:=hm (ps:=["_law_web_here","_law_stand","_law_tie","_law_truth"]) X G (AX w) λ_ _ _ _ _ _=>Ni λ_ _ _ _=>rfl;have O0:=hm (ps:=["_law_drawn","_law_web_here","_law_most"]) X G (CV w) λ_ _ _ _ _ _=>BQ λ_ _ _=>rfl;have OC:=hm (ps:=["_law_drawn","_law_many"]) X G (yo w) λ_ _ _ _ _ _=>xX λ_ _=>rfl;have Oo:=hm (ps:=["_law_web_here","_law_order_here","_law_answers_here"]) X G (vz w) λ_ _ _ _ _ _=>BQ λ_ _ _=>rfl;have Ow:=hm (ps:=["_law_tree","_law_answers_here"]) X G (wW w) λ_ _ _ _ _ _=>xX λ_ _=>rfl;have Pd:=hm (ps:=["_law_drawn","_law_web_here","_law_most"]) X G (FP w) λ_ _ _ _ _ _=>BQ λ_ _ _=>rfl;have Pc:=hm (ps:=["_law_drawn","_law_many"]) X G (FV w) λ_ _ _ _ _ _=>xX λ_ _=>rfl;have OA:=hm (ps:=["_law_many"]) X G (yt w) λ_ _ _ _ _ _=>Lw λ_=>rfl;have OF:=hm (ps:=["_law_web_here","_law_order_here","_law_truths"]) X G (A6 w) λ_ _ _ _ _ _=>BQ λ_ _ _=>rfl;have Om:=hm (ps:=["_law_error"]) X G (yq w) λ_ _ _ _ _ _=>Lw λ_=>rfl;have Oz:=hm (ps:=["_law_thing","_law_low_here","_law_high"]) X G (AZ w) λ_ _ _ _ _ _=>BQ λ_ _ _=>rfl;have Og:=hm (ps:=["_law_web_here","_law_tree"]) X G (rj w) λ_ _ _ _ _ _=>xX λ_ _=>rfl;have Ou:=hm (ps:=["_law_web_here","_law_order_here"]) X G (yr w) λ_ _ _ _ _ _=>xX λ_ _=>rfl;have Of:=hm (ps:=["_law_web_here","_law_order_here","_law_tree","_law_truths"]) X G (sV w) λ_ _ _ _ _ _=>Ni λ_ _ _ _=>rfl;have Qw:=hm (ps:=["_law_script"]) X G (Jh w) λ_ _ _ _ _ _=>Lw λ_=>rfl;have lG_85:Vf 85 (kK w.params)=some (kT [.ref 83,.ref 84] 0):=by kernel_rfl
 have lG_83:Vf 83 (kK w.params)=some (kT [] 0):=by kernel_rfl
 have lG_84:Vf 84 (kK w.params)=some (kT [] 0):=by kernel_rfl
 have m_FIRST_STAND:=TM X G (show Tj (kK w.params) RN "FIRST_STAND"=some (some (.ref 85)) by kernel_rfl);have c_FIRST_STAND:∀F,DA (kK w.params) F (.tuple [.tuple [],.tuple []]) (.ref 85):=λF=>by simp only[DA,aI];exact⟨85,[V.ref 83,V.ref 84],rfl,.inr ⟨_,_,_,lG_85,rfl,rfl,rfl,(by show 2<=Rm;decide),(.cons rfl (.cons rfl .nil))⟩,⟨_,_,rfl,⟨83,[],rfl,.inr ⟨_,_,_,lG_83,rfl,rfl,rfl,(by show 0<=Rm;decide),.nil⟩,rfl⟩,⟨_,_,rfl,⟨84,[],rfl,.inr ⟨_,_,_,lG_84,rfl,rfl,rfl,(by show 0<=Rm;decide),.nil⟩,rfl⟩,rfl⟩⟩⟩
 have m_END:=TM X G (show Tj (kK w.params) RN "END"=some (some (.int (-1) 328)) by kernel_rfl);have m_MOST_TIES_OF_ORDER:=TM X G (show Tj (kK w.params) RN "MOST_TIES_OF_ORDER"=some (some (.int (8) 338)) by kernel_rfl);have m_NoRise:=TM X G (show Tj (kK w.params) RN "NoRise"=some (some (.ref 49)) by kernel_rfl);have m_NoText:=TM X G (show Tj (kK w.params) RN "NoText"=some (some (.ref 73)) by kernel_rfl);have m_NotTwoSided:=TM X G (show Tj (kK w.params) RN "NotTwoSided"=some (some (.ref 61)) by kernel_rfl);have m_PairsError:=TM X G (show Tj (kK w.params) RN "PairsError"=some (some (.ref 24)) by kernel_rfl);have m_TooMany:=TM X G (show Tj (kK w.params) RN "TooMany"=some (some (.ref 37)) by kernel_rfl);have x_TooMany:Vj (kK w.params) 37 BK "ValueError.__new__"=true:=by kernel_rfl
 have Z_TooMany:sP (kK w.params) 37:=⟨by kernel_rfl,by kernel_rfl,by kernel_rfl,by kernel_rfl,by kernel_rfl,by kernel_rfl⟩;have k_t:W.kitAny (kK w.params) (.ref 37) [.ref 49,.ref 73,.ref 61]=some false:=by kernel_rfl
 have k_TooMany:TX (kK w.params) (.ref 37) (.ref 37)=some true:=by kernel_rfl
 have k_PairsError:TX (kK w.params) (.ref 37) (.ref 24)=some true:=by kernel_rfl
 have k_ValueError:TX (kK w.params) (.ref 37) (.type "ValueError")=some true:=by kernel_rfl
 have x2_PairsError:W.exmOne (kK w.params) (.ref 37) (.ref 24)=some true:=by kernel_rfl
 refine⟨Tc "law" "law" (d_ r9) (cn r9) (am r9) .none .none (.none) eR none (.ref 317) .none,λs v=>.of_eq rfl,λbase _ _=>?_⟩;have cl:∀{f:QQ}{fd:RJ}{n:Str}{s:Rh}{ps:List Str}{lv k:Nat}{m:FM},fW (kK w.params) mg n s f fd ps->bg l.prog w (kK w.params) mg base gy lv f fd ps (iB (kK w.params) k m)->Cl l.prog w (kK w.params) mg base n s ps lv k m:=λh g=>⟨_,_,h,g⟩;have z_refuse_above:=cl N9 (pI N9 T);have R_refuse_above:=oC (P:=l.prog) (w:=w) (base:=base) N9 T m_TooMany x_TooMany;have z_things_of:=cl Oc (vK Oc T);have z_many_asks:=cl On (vJ On T z_things_of);have z_bears_one_more:=cl Oe (nj Oe T z_many_asks);have z_may_ask:=cl Ox (yH Ox T z_bears_one_more z_things_of);have z_stand_behind:=cl Ob (pJ Ob T z_things_of);have z_tree_by:=cl Oq (yI Oq T z_stand_behind m_FIRST_STAND c_FIRST_STAND m_END);have z_asks_by_stand:=cl Od (oA Od T z_may_ask z_stand_behind m_FIRST_STAND c_FIRST_STAND);have z_tree_of:=cl Oa (yJ Oa T z_refuse_above z_tree_by z_asks_by_stand m_MOST_TIES_OF_ORDER);have R_tree_of:=xj (P:=l.prog) (w:=w) (base:=base) Oa T z_tree_by z_asks_by_stand m_MOST_TIES_OF_ORDER N9 R_refuse_above;have zLmixed:=cl OK (Dc OK T);have zLdraws:=cl OZ (Da OZ T zLmixed);have zLnext:=cl N_ (Ge N_ T);have zLgcd:=cl Pu (Jr Pu T);have zLlow:=cl Pn (Js Pn T zLgcd);have zLsame:=cl OW (Gf OW T);have zLchance:=cl OE (Bg OE T zLlow);have zLworth:=cl OX (De OX T);have zLties:=cl OV (Gg OV T zLnext zLchance zLworth);have zLweb:=cl Pz (Ju Pz T zLties zLnext);have zLasks_of:=cl Oy (yD Oy T);have zLmay:=cl Pe (Jt Pe T zLasks_of);have zLbehind:=cl Ov (Bf Ov T);have zLorder:=cl O0 (Dd O0 T zLnext);have zLanswers:=cl OC (yC OC T zLnext);have zLrun_order:=cl Oo (vI Oo T zLmay zLbehind);have zLrun_tree:=cl Ow (xi Ow T);have zLfull:=cl Pd (Gd Pd T zLnext);have zLwide:=cl Pc (Gh Pc T zLties zLnext);have zLrows_of:=cl OA (yG OA T);have zLspread:=cl OF (Bi OF T);have ON:=yE (P:=l.prog) (w:=w) (base:=base) Om T Z_TooMany m_TooMany m_NoRise m_NoText m_NotTwoSided m_PairsError k_t k_TooMany k_PairsError k_ValueError;have zLis_int:=cl Oz (Bh Oz T);have zLnodes_right:=cl Og (rK Og T zLis_int zLmay zLbehind);have zLrefused:=cl Ou (yF Ou T Oa R_tree_of Om ON m_PairsError x2_PairsError);have zLasks_alike:=cl Of (sW Of T zLspread zLsame zLrun_tree zLrun_order);have Qx:=Jv (P:=l.prog) (w:=w) (base:=base) Qw T zLdraws zLwide zLfull z_tree_of zLasks_alike zLweb zLorder zLrows_of zLnodes_right zLnext zLrefused zLsame zLanswers;exact Qx
def Mg(K:QU):Sp:=λvs H Q _=>∃(a:QQ) (ns:List Int),vs=[.ref a]/\i6 K H a (ns.map V.int)/\ns.length<=63/\∀H',Q (.bl true) H'
theorem Jj{K:QU}{vs:List V}{H:Hp}{Q:VK}{E:XK}(h:Mg K vs H Q E):iB K 1 rD vs H Q E:=by obtain⟨a,ns,rfl,hS,hl,q⟩:=h;obtain⟨as',hm⟩:=CZ ns hl;exact yX hS hm q
theorem walk{l:W.OpenLaw}{q:QZ}{loose:List Str}{XP:(Str->Option QP)->Re->Prop}{YP:QW->Re->Prop}{d:DefRec}{K:Params->QU}(hn:l.most=some 63)(hdf:d.params.defaults=[])(hY:∀(w:QW) (h:Re),YP w h->(K w.params).In h)(F:∀(w:QW) (mg:Str->Option QP) (fa:QQ) (h:Re),(K w.params).In h->h.Ns RN mg->mg d.name=some (.ref fa)->∃fd:RJ,(∀(s:QS) (u:QP),BindsTo s fd ⟨[u],[]⟩ [("_law_script",u)])/\∀base:Re,(K w.params).In base->base.Ns RN mg->bg l.prog w (K w.params) mg base gy 8 fa fd ["_law_script"] (iB (K w.params) 1 rD)):W.WalkO q loose XP YP l.row.toRowW d [] (λf vs=>PySem.call f vs):=L2.walk_of (n:=63) (k:=8) (x:="_law_script") (CX:=λ_=>gy) (sp:=λw=>iB (K w.params) 1 rD) hn ⋯ hdf ⟨rfl,by decide,by decide,rfl⟩ hY F (λ_ _ a ns hl _ hS=>Jj ⟨a,ns,rfl,hS,hl,λ_=>rfl⟩) λ_ _ _ _ _ z=>z
end V28
open PySem PySem.W PyProof.Rows
set_option maxRecDepth 100000 in
set_option maxHeartbeats 0 in
theorem PySem.Challenge.cw_askedpairs_k28_trees_of_orders_holds : PySem.Challenge.rw_askedpairs_k28_trees_of_orders.Holds := by
  w_on;o_law
  refine holds_open (q:=V28.kq) (loose:=[]) (Xt:=fun s=>xlAt V28.kq [] s&&recOk (RowW.records (OpenRow.toRowW (OpenLaw.row Wp))) s) (XP:=XL V28.kq []) (Yf:=Hook.obs V28.kH) (Ya:=Hook.val V28.kH) (YP:=Hook.says V28.kH) (N:=4646) V28.left (Hook.of V28.kH) (Hook.keeps V28.kH) (fun s e=>xl_of s (Bool.and_eq_true_iff.mp e).1) XL.keeps ∅ ∅ ∅ (fun s e=>recFacts_of (Bool.and_eq_true_iff.mp e).2) ∅ (by assumption) ↥2 ⟨rfl,rfl,rfl,rfl,rfl,by decide+kernel⟩ ?hw ?hc
  case hw=>w_witness2
  case hc=>exact V28.walk (l:=Wp) rfl rfl (fun w h Y=>kIn_of Y) (fun w mg fa h KX G hmg=>V28.all_mk KX G hmg)
