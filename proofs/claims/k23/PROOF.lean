import PyProof.Rows.All
import KE.KRevSl
import KE.KItem
import KE.KFromBytes
import KE.KIntText
import KE.KIsAll
import KE.KRevIter
import PySem.Challenge.RW_askedpairs_k23_whole_one_worth_of_a_tree
open PySem renaming Value->TL,Addr->TM,PyData->TN,Shared->TQ,Expr->TU,wpAny_bind->TV,World->TX,wpAny->TY,model->TZ,Heap->Ua,Stmt->Ub,Program->Uc,Around->Ud,starEach->Ue,wpAny_pure->Uh,eval->Ui,sizeLine->Uj,Scope->Us,backTo->UD,wpAny_mono->UE,cellsFrom->UF,FuncData->UM,IsPair->UP,mainGlobals->UV,rawInt->UZ,foldedSetIterable->Va,wpAny_field->Vb,binaryOp->Vg,Keyword->Vn,NameKind->Vo,assign->Vr,bootBuiltins->Vu,assignEach->Vv,compareOp->VC,sizeLine_eq->VD,codeAny->VE,pyNext->VM,holding->VR,wpAny_newObj_type->VY,Builtin->Wb,wpAny_loadPart'->Wd,standAt->Wh,wpAny_standAt->Wi,call_meets->Wn,wpAny_of_eq->Wp,swapsWith->Ws,wpAny_call_entry->Wu,wpAny_rule->WC,behindInMarks->WD,wpAny_seqItems->WG,Fin->WH,wpAny_holding->WL,wpAny_passesOwn->WM,letOwnedTupleGo->WN,wpAny_callSpecial?_slot->WR,sliceBounds->WT,attributeBase->WU,keywordEach->WV,swapsWithSole->Xg,swappedStores->Xh,wpAny_setField_rec->Xn,wpAny_truthy_bool->Xz,wpAny_pyIter_tuple->XA,mem_of_lookup->XC,typeIs_int->XF,importedModules->Yd,wpAny_execs_nil->Ye,wpAny_Call_Name_kw->Yg,wpAny_pyIter_rangeiter->YG,ofString_length->YM,wpAny_updateSeq_pair->YO
open List renaming replicate->Ug,getElem?_eq_getElem->Um,map_cons->Uo,length_map->Uq,getD_eq_getElem?_getD->Ur,getElem?_map->Ut,range->Uu,map_nil->Uv,nil_append->Ux,mem_cons->Uy,size_toArray->Uz,getElem?_set_ne->UA,Nodup->UB,map_map->UJ,not_mem_nil->UK,mem_append_right->UR,getElem?_set_self->UW,getElem?_append_left->UX,sum_cons->UY,length_cons->Vc,all_eq_true->Vd,mem_append->Vq,append_nil->Vs,sum_nil->Vt,length_set->VG,nodup_cons->VN,length_append->VO,cons_append->VQ,ext_getElem?->VT,filter_eq_self->VU,mem_cons_of_mem->VW,lookup_cons->Wa,getElem?_of_mem->We,mem_filter->Wg,getElem?_replicate->Wj,replicate_succ->Wm,map_append->Wq,mem_cons_self->Wr,mem_map->Wz,mem_range->WA,append_assoc->WX,getElem_mem->Xd,getElem?_eq_none->Xf,foldl->Xk,nodup_append->Xo,getElem?_modify->Xq,getElem?_set->Xr,mem_append_left->Xy,getElem?_append_right->XD,flatten_cons->XG,lookup->XJ,all_nil->XN,map_congr_left->XO,ext_getElem->XT,range_zero->XW,lookup_append->XY,length_eq_zero_iff->Yl,drop_eq_getElem_cons->Yq,drop_eq_nil_of_le->Yr,findIdx?_eq_none_iff->Ys,nodup_nil->Yu,filter_map->Yv,set_cons_succ->Yz,set_cons_zero->YA,mem_filterMap->YD,filterMap_cons->YE,length_replicate->YH,mem_singleton->YN,getElem?_cons_succ->YV,perm_cons_erase->YW,findIdx?_eq_some_iff_getElem->Ze
open Int renaming gcd->Uk,mul_assoc->UG,mul_pos->UO,mul_comm->Vp,toNat_natCast->VP,le_of_lt->Wf,zero_lt_one->Wx,natAbs_mul->WY,mul_nonneg->Xu,mul_le_mul_of_nonneg_right->Xv,add_mul->Xw,dvd_refl->Xx,one_dvd->XQ,ne_of_gt->XR,le_refl->XS,emod_nonneg->Yb,emod_lt_of_pos->Yc,fdiv_mul_cancel->Yk,eq_of_mul_eq_mul_right->Yw,natAbs_dvd_natAbs->Yx,dvd_trans->Yy,lt_of_lt_of_le->YX
open Option renaming bind_some->Ul,map_some->VB,getD_some->VS
open PySem.Heap renaming lt_size->Up,get?_push_of_some->UC,get?_push_size->UT,size_push->VI,SameBut->WB
open Bool renaming and_eq_true->Uw,false_ne_true->Vw,and_self->Wc,false_eq_true->WZ,eq_iff_iff->Xm,not_eq_true'->Yt
open Option.some renaming inj->UH,injEq->WJ
open Or renaming inr->UI
open PySem.PassesOwn renaming never->UL
open Nat renaming le_trans->UN,lt_of_lt_of_le->UU,ne_of_lt->Vf,zero_add->Vz,le_refl->VA,lt_irrefl->VV,zero_le->Wv,le_of_lt->WK,Coprime->Xs,pow_le_pow_right->XH,le_add_right->XZ,lt_of_le_of_lt->YK,le_mul_of_pos_right->YL
open Ne renaming symm->UQ
open PySem.PyData renaming depth->US,canLay0->Vi,eqv->Vk,strOk->Vm,canLayAll0->Vy,depthAll->VH,shownAll->VZ,showableAll->Ww,eqvAll->Xp,showable->XI
open PySem.Builtin.Range renaming rangeFitsLong->Ve,rangeSize->WO,rangeFields->Zd
open PySem.Str renaming ofString->Vh
open PySem.SeqAt renaming shaped->Vj,canLay_of_shaped->Yp
open PySem.NameKind renaming free->Vx,cell->Xc
open PyProof.Rows renaming kindOf->VF,slot_tuple_getitem->WS,callWith_type1->Xi
open PySem.W renaming fnOf->VJ,keepIn->WQ,kia_one->Xe,isStarred->Xl,findIn->XB,codeIn->XE,methodObj->YC
open Sum renaming inl->VL
open False renaming elim->VX
open PySem.Obj renaming mapSeq->Wk
open PySem.Builtin.SmallTypes renaming nextOf->Wo,ownedTupleIsFree->Yn,ownedTupleHandOut->Zc
open PySem.Challenge renaming pw_askedpairs_k23_whole_one_worth_of_a_tree->Wy,rw_askedpairs_k23_whole_one_worth_of_a_tree->YB
open ForInStep renaming yield->WE
open PySem.Builtin.Tuple renaming tupleExact->Xj,tupleTooMany->YS,tupleItemsOf->Za
open PySem.F renaming slot_tuple_mul->XM,slot_int_rmul->Yj,slot_tuple_iterator_next->Ym,slot_zip_next->Yo,slot_list_append->YJ,slot_enumerate_next->YQ,slot_range_reversed->YT,plainAttrs_list->YU
open Rat renaming intCast_mul->XU
open Function renaming comp->XX
open PySem.Builtin.Slice renaming slicePlaces->Yh,sliceAdjust->YI,sliceApplied->YZ
open PySem.Builtin.List renaming listTooLong->Yi,listExtendWith->Zb
open Array renaming length_toList->YF
open PySem.AutoSeq1 renaming idx_int->YR
open PySem.PyData.tuple renaming inj->YY
set_option Elab.async false
set_option linter.all false
set_option maxRecDepth 100000
noncomputable section
local macro_rules|`(∅)=>`(by rfl)
local macro_rules|`(⋯)=>`(by decide)
local macro_rules|`(↥0)=>`(by lia)|`(↥1)=>`(by simp)|`(↥2)=>`(by decide+kernel)|`(↥3)=>`(Or.inl rfl)|`(↥4)=>`(λ_ _=>rfl)|`(↥5)=>`(by intro _;rfl)|`(↥6)=>`(by kernel_rfl)|`(↥7)=>`(by simp;lia)|`(↥8)=>`(VA _)
local macro_rules|`(⇑0)=>`(PySem.W.Frag)
local macro_rules|`(↑$x)=>`(($x).heap.objs.size)
namespace L2
open PySem PySem.Spec PyProof.Rows
def gc(s:Ub):Arguments:=match s with|.FunctionDef _ a _ _ _ _ _ _ _ _=>a|_=>{posonlyargs:=[],args:=[],vararg:=none,kwonlyargs:=[],kw_defaults:=[],kwarg:=none,defaults:=[]}
def dZ(s:Ub):List Ub:=match s with|.FunctionDef _ _ b _ _ _ _ _ _ _=>b|_=>[]
def ao(s:Ub):Us:=match s with|.FunctionDef _ _ _ _ _ _ sc _ _ _=>sc|_=>{kind:=.function,names:=[],isGenerator:=false,isCoroutine:=false}
end L2
namespace V23
open PySem PySem.Spec PyProof.Rows L2
def top(i:Nat):Ub:=Wy.main.body.getD i (.Pass ⟨0,0,0,0⟩)
abbrev cQ:Ub:=top 3
abbrev iR:Ub:=top 4
abbrev oP:Ub:=top 5
abbrev jh:Ub:=top 6
abbrev e_:Ub:=top 7
abbrev p7:Ub:=top 8
abbrev iQ:Ub:=top 10
abbrev fN:Ub:=top 11
abbrev eL:Ub:=top 12
abbrev bQ:Ub:=top 13
abbrev jL:Ub:=top 16
abbrev iN:Ub:=top 18
abbrev gQ:Ub:=top 19
abbrev eh:Ub:=top 20
abbrev jq:Ub:=top 21
abbrev eM:Ub:=top 22
abbrev dW:Ub:=top 23
abbrev fP:Ub:=top 25
abbrev jM:Ub:=top 26
abbrev ek:Ub:=top 27
abbrev dU:Ub:=top 28
abbrev dX:Ub:=top 32
abbrev lh:Ub:=top 34
abbrev gR:Ub:=top 35
abbrev iO:Ub:=top 38
abbrev iP:Ub:=top 39
abbrev eK:Ub:=top 40
abbrev gN:Ub:=top 41
abbrev p5:Ub:=top 43
abbrev pY:Ub:=top 44
abbrev jJ:Ub:=top 45
abbrev Ac:Ub:=top 46
abbrev uG:Ub:=top 47
abbrev qU:Ub:=top 48
abbrev lM:Ub:=top 49
abbrev uH:Ub:=top 50
abbrev uI:Ub:=top 51
abbrev lg:Ub:=top 52
abbrev p6:Ub:=top 53
abbrev qV:Ub:=top 54
abbrev Af:Ub:=top 55
abbrev lc:Ub:=top 56
abbrev Ad:Ub:=top 57
abbrev mN:Ub:=top 58
abbrev lb:Ub:=top 59
abbrev pZ:Ub:=top 60
abbrev eJ:Ub:=top 61
abbrev iM:Ub:=top 62
abbrev jK:Ub:=top 63
abbrev uF:Ub:=top 64
abbrev gM:Ub:=top 65
abbrev ef:Ub:=top 66
abbrev uJ:Ub:=top 67
abbrev Ae:Ub:=top 68
abbrev gL:Ub:=top 69
abbrev uK:Ub:=top 70
def kE(P:Params)(k:Str)(t:Tok)(v:TL):DictEntry:=⟨PyData.keyHash P k,.str k t,v⟩
def kF(n:Str)(s:Ub)(doc pm:TL)(c:TM):Obj:=⟨.type "function",none,.func (VJ n n (gc s) (dZ s) (ao s) .none .none doc pm none (.ref c) .none),#[]⟩
def kI(n:Int):TL:=.int n 0
def kC(n:Str)(a:Nat)(l:List TL)(z:Nat):Obj:=⟨.type "code",none,.fields (Value.str n a::Value.str n (a+1)::Value.str "/claim/cut.py" (a+2)::l++[Value.str "/claim/cut.py" z]).toArray,#[]⟩
def kT(l:List TL)(n:Nat):Obj:=⟨.type "tuple",none,.seq l.toArray n,#[]⟩
def DV:TL:=.str "askedpairs.fractions" 187
def JL:TL:=.str "askedpairs.forms" 244
def OD:TL:=.str "askedpairs.trees" 276
def DX:TL:=.str "askedpairs.worthpaper" 295
def JM:TL:=.str "askedpairs.worths" 346
def OE:TL:=.str "askedpairs.errors" 374
def NG:TL:=.str "askedpairs.runs" 418
def JN:TL:=.str "askedpairs.answering" 432
def gW:TL:=.str "law_askedpairs_k23_whole_one_worth_of_a_tree" 465
def kK(P:Params):W.Frag:=[(3,⟨.type "dict",none,.dict (List.toArray [kE P "__name__" 165 (.str "law_askedpairs_k23_whole_one_worth_of_a_tree" 465),kE P "__doc__" 166 (.none),kE P "__package__" 167 (.none),kE P "__loader__" 168 (.builtin "__main__.__loader__#opaque"),kE P "__spec__" 169 (.none),kE P "__annotations__" 170 (.ref 6),kE P "__builtins__" 171 (.ref 4),kE P "__file__" 173 (.str "/claim/cut.py" 172),kE P "__cached__" 174 (.none),kE P "ZERO" 191 (.ref 15),kE P "ONE" 194 (.ref 16),kE P "common_divisor" 202 (.ref 23),kE P "lowest" 211 (.ref 30),kE P "plus" 219 (.ref 37),kE P "times" 227 (.ref 44),kE P "one_less" 234 (.ref 51),kE P "total" 243 (.ref 58),kE P "is_number" 252 (.ref 65),kE P "is_row_of" 260 (.ref 72),kE P "is_fraction" 269 (.ref 79),kE P "is_fraction_row" 275 (.ref 84),kE P "END" 280 (.int (-1) 279),kE P "run_tree" 294 (.ref 91),kE P "ask_worth" 307 (.ref 98),kE P "link_worth" 315 (.ref 105),kE P "node_worth" 327 (.ref 112),kE P "ways_on" 333 (.ref 117),kE P "worths_hold" 339 (.ref 122),kE P "reaches_hold" 345 (.ref 127),kE P "worths_of" 353 (.ref 132),kE P "worth_of" 361 (.ref 139),kE P "reaches_of" 367 (.ref 144),kE P "asked_shares" 373 (.ref 149),kE P "PairsError" 393 (.ref 159),kE P "TooMany" 409 (.ref 172),kE P "refuse_above" 417 (.ref 181),kE P "kept_of" 425 (.ref 186),kE P "worth_kept" 431 (.ref 191),kE P "MOST_TIES_BY_ANSWERS" 435 (.int (10) 434),kE P "chance_by" 446 (.ref 198),kE P "chance_of" 452 (.ref 203),kE P "all_answers" 458 (.ref 208),kE P "by_answers" 464 (.ref 213),kE P "_law_mixed" 475 (.ref 220),kE P "_law_draws" 486 (.ref 227),kE P "_law_next" 493 (.ref 234),kE P "_law_gcd" 501 (.ref 241),kE P "_law_low" 510 (.ref 248),kE P "_law_plus" 518 (.ref 255),kE P "_law_times" 526 (.ref 262),kE P "_law_rest" 533 (.ref 269),kE P "_law_same" 541 (.ref 276),kE P "_law_chance" 550 (.ref 283),kE P "_law_worth" 558 (.ref 290),kE P "_law_ties" 577 (.ref 297),kE P "_law_web" 593 (.ref 304),kE P "_law_asks_of" 599 (.ref 309),kE P "_law_may" 611 (.ref 316),kE P "_law_behind" 624 (.ref 323),kE P "_law_askable" 630 (.ref 328),kE P "_law_grown" 636 (.ref 333),kE P "_law_all_answers" 642 (.ref 338),kE P "_law_chance_of" 653 (.ref 345),kE P "_law_run_tree" 666 (.ref 352),kE P "_law_kept" 672 (.ref 357),kE P "_law_tree_worth" 683 (.ref 364),kE P "_law_renumbered" 689 (.ref 369),kE P "_law_tree" 699 (.ref 376),kE P "_law_ten" 705 (.ref 381),kE P "_law_by_reaches" 719 (.ref 388),kE P "law" 735 (.ref 395)]) 71,#[]⟩),(23,kF "common_divisor" cQ (.none) DV 22),(22,kC "common_divisor" 195 [kI 4,kI 2,kI 0,kI 0,kI 3,.ref 17,.bool true,kI 181,.ref 18,.none,.ref 19,.ref 20,.ref 21,kI 200,kI 4] 201),(30,kF "lowest" iR (.none) DV 29),(29,kC "lowest" 203 [kI 8,kI 2,kI 0,kI 0,kI 3,.ref 24,.bool true,kI 181,.ref 25,.none,.ref 26,.ref 27,.ref 28,kI 209,kI 8] 210),(37,kF "plus" oP (.none) DV 36),(36,kC "plus" 212 [kI 13,kI 2,kI 0,kI 0,kI 3,.ref 31,.bool true,kI 181,.ref 32,.none,.ref 33,.ref 34,.ref 35,kI 217,kI 13] 218),(44,kF "times" jh (.none) DV 43),(43,kC "times" 220 [kI 15,kI 2,kI 0,kI 0,kI 3,.ref 38,.bool true,kI 181,.ref 39,.none,.ref 40,.ref 41,.ref 42,kI 225,kI 15] 226),(51,kF "one_less" e_ (.none) DV 50),(50,kC "one_less" 228 [kI 17,kI 1,kI 0,kI 0,kI 3,.ref 45,.bool true,kI 181,.ref 46,.none,.ref 47,.ref 48,.ref 49,kI 232,kI 17] 233),(58,kF "total" p7 (.none) DV 57),(57,kC "total" 235 [kI 19,kI 1,kI 0,kI 0,kI 3,.ref 52,.bool true,kI 181,.ref 53,.none,.ref 54,.ref 55,.ref 56,kI 241,kI 19] 242),(65,kF "is_number" iQ (.none) JL 64),(64,kC "is_number" 246 [kI 25,kI 1,kI 0,kI 0,kI 3,.ref 59,.bool true,kI 181,.ref 60,.none,.ref 61,.ref 62,.ref 63,kI 250,kI 25] 251),(72,kF "is_row_of" fN (.none) JL 71),(71,kC "is_row_of" 253 [kI 27,kI 2,kI 0,kI 0,kI 3,.ref 66,.bool true,kI 181,.ref 67,.none,.ref 68,.ref 69,.ref 70,kI 258,kI 27] 259),(79,kF "is_fraction" eL (.none) JL 78),(78,kC "is_fraction" 261 [kI 29,kI 1,kI 0,kI 0,kI 3,.ref 73,.bool true,kI 181,.ref 74,.none,.ref 75,.ref 76,.ref 77,kI 267,kI 29] 268),(84,kF "is_fraction_row" bQ (.none) JL 83),(83,kC "is_fraction_row" 270 [kI 36,kI 2,kI 0,kI 0,kI 3,.ref 80,.bool true,kI 181,.ref 81,.none,.none,.none,.ref 82,kI 273,kI 36] 274),(91,kF "run_tree" jL (.none) OD 90),(90,kC "run_tree" 281 [kI 40,kI 3,kI 0,kI 0,kI 3,.ref 85,.bool true,kI 181,.ref 86,.none,.ref 87,.ref 88,.ref 89,kI 292,kI 40] 293),(98,kF "ask_worth" iN (.none) DX 97),(97,kC "ask_worth" 297 [kI 49,kI 3,kI 0,kI 0,kI 3,.ref 92,.bool true,kI 181,.ref 93,.none,.ref 94,.ref 95,.ref 96,kI 305,kI 49] 306),(105,kF "link_worth" gQ (.none) DX 104),(104,kC "link_worth" 308 [kI 52,kI 2,kI 0,kI 0,kI 3,.ref 99,.bool true,kI 181,.ref 100,.none,.ref 101,.ref 102,.ref 103,kI 313,kI 52] 314),(112,kF "node_worth" eh (.none) DX 111),(111,kC "node_worth" 316 [kI 54,kI 3,kI 0,kI 0,kI 3,.ref 106,.bool true,kI 181,.ref 107,.none,.ref 108,.ref 109,.ref 110,kI 325,kI 54] 326),(117,kF "ways_on" jq (.none) DX 116),(116,kC "ways_on" 328 [kI 57,kI 2,kI 0,kI 0,kI 3,.ref 113,.bool true,kI 181,.ref 114,.none,.none,.none,.ref 115,kI 331,kI 57] 332),(122,kF "worths_hold" eM (.none) DX 121),(121,kC "worths_hold" 334 [kI 61,kI 3,kI 0,kI 0,kI 3,.ref 118,.bool true,kI 181,.ref 119,.none,.none,.none,.ref 120,kI 337,kI 61] 338),(127,kF "reaches_hold" dW (.none) DX 126),(126,kC "reaches_hold" 340 [kI 65,kI 3,kI 0,kI 0,kI 3,.ref 123,.bool true,kI 181,.ref 124,.none,.none,.none,.ref 125,kI 343,kI 65] 344),(132,kF "worths_of" fP (.none) JM 131),(131,kC "worths_of" 348 [kI 72,kI 2,kI 0,kI 0,kI 3,.ref 128,.bool true,kI 181,.ref 129,.none,.none,.none,.ref 130,kI 351,kI 72] 352),(139,kF "worth_of" jM (.none) JM 138),(138,kC "worth_of" 354 [kI 77,kI 2,kI 0,kI 0,kI 3,.ref 133,.bool true,kI 181,.ref 134,.none,.ref 135,.ref 136,.ref 137,kI 359,kI 77] 360),(144,kF "reaches_of" ek (.none) JM 143),(143,kC "reaches_of" 362 [kI 79,kI 2,kI 0,kI 0,kI 3,.ref 140,.bool true,kI 181,.ref 141,.none,.none,.none,.ref 142,kI 365,kI 79] 366),(149,kF "asked_shares" dU (.none) JM 148),(148,kC "asked_shares" 368 [kI 85,kI 2,kI 0,kI 0,kI 3,.ref 145,.bool true,kI 181,.ref 146,.none,.none,.none,.ref 147,kI 371,kI 85] 372),(181,kF "refuse_above" dX (.none) OE 180),(180,kC "refuse_above" 410 [kI 95,kI 2,kI 0,kI 0,kI 3,.ref 175,.bool true,kI 181,.ref 176,.none,.ref 177,.ref 178,.ref 179,kI 415,kI 95] 416),(186,kF "kept_of" lh (.none) NG 185),(185,kC "kept_of" 420 [kI 99,kI 1,kI 0,kI 0,kI 3,.ref 182,.bool true,kI 181,.ref 183,.none,.none,.none,.ref 184,kI 423,kI 99] 424),(191,kF "worth_kept" gR (.none) NG 190),(190,kC "worth_kept" 426 [kI 101,kI 2,kI 0,kI 0,kI 3,.ref 187,.bool true,kI 181,.ref 188,.none,.none,.none,.ref 189,kI 429,kI 101] 430),(198,kF "chance_by" iO (.none) JN 197),(197,kC "chance_by" 436 [kI 105,kI 2,kI 0,kI 0,kI 3,.ref 192,.bool true,kI 181,.ref 193,.none,.ref 194,.ref 195,.ref 196,kI 444,kI 105] 445),(203,kF "chance_of" iP (.none) JN 202),(202,kC "chance_of" 447 [kI 110,kI 2,kI 0,kI 0,kI 3,.ref 199,.bool true,kI 181,.ref 200,.none,.none,.none,.ref 201,kI 450,kI 110] 451),(208,kF "all_answers" eK (.none) JN 207),(207,kC "all_answers" 453 [kI 112,kI 1,kI 0,kI 0,kI 3,.ref 204,.bool true,kI 181,.ref 205,.none,.none,.none,.ref 206,kI 456,kI 112] 457),(213,kF "by_answers" gN (.none) JN 212),(212,kC "by_answers" 459 [kI 117,kI 2,kI 0,kI 0,kI 3,.ref 209,.bool true,kI 181,.ref 210,.none,.none,.none,.ref 211,kI 462,kI 117] 463),(220,kF "_law_mixed" p5 (.none) gW 219),(219,kC "_law_mixed" 467 [kI 121,kI 2,kI 0,kI 0,kI 3,.ref 214,.bool true,kI 181,.ref 215,.none,.ref 216,.ref 217,.ref 218,kI 473,kI 121] 474),(227,kF "_law_draws" pY (.none) gW 226),(226,kC "_law_draws" 476 [kI 124,kI 1,kI 0,kI 0,kI 3,.ref 221,.bool true,kI 181,.ref 222,.none,.ref 223,.ref 224,.ref 225,kI 484,kI 124] 485),(234,kF "_law_next" jJ (.none) gW 233),(233,kC "_law_next" 487 [kI 137,kI 1,kI 0,kI 0,kI 3,.ref 228,.bool true,kI 181,.ref 229,.none,.ref 230,.ref 231,.ref 232,kI 491,kI 137] 492),(241,kF "_law_gcd" Ac (.none) gW 240),(240,kC "_law_gcd" 494 [kI 141,kI 2,kI 0,kI 0,kI 3,.ref 235,.bool true,kI 181,.ref 236,.none,.ref 237,.ref 238,.ref 239,kI 499,kI 141] 500),(248,kF "_law_low" uG (.none) gW 247),(247,kC "_law_low" 502 [kI 145,kI 2,kI 0,kI 0,kI 3,.ref 242,.bool true,kI 181,.ref 243,.none,.ref 244,.ref 245,.ref 246,kI 508,kI 145] 509),(255,kF "_law_plus" qU (.none) gW 254),(254,kC "_law_plus" 511 [kI 148,kI 2,kI 0,kI 0,kI 3,.ref 249,.bool true,kI 181,.ref 250,.none,.ref 251,.ref 252,.ref 253,kI 516,kI 148] 517),(262,kF "_law_times" lM (.none) gW 261),(261,kC "_law_times" 519 [kI 150,kI 2,kI 0,kI 0,kI 3,.ref 256,.bool true,kI 181,.ref 257,.none,.ref 258,.ref 259,.ref 260,kI 524,kI 150] 525),(269,kF "_law_rest" uH (.none) gW 268),(268,kC "_law_rest" 527 [kI 152,kI 1,kI 0,kI 0,kI 3,.ref 263,.bool true,kI 181,.ref 264,.none,.ref 265,.ref 266,.ref 267,kI 531,kI 152] 532),(276,kF "_law_same" uI (.none) gW 275),(275,kC "_law_same" 534 [kI 154,kI 2,kI 0,kI 0,kI 3,.ref 270,.bool true,kI 181,.ref 271,.none,.ref 272,.ref 273,.ref 274,kI 539,kI 154] 540),(283,kF "_law_chance" lg (.none) gW 282),(282,kC "_law_chance" 542 [kI 156,kI 2,kI 0,kI 0,kI 3,.ref 277,.bool true,kI 181,.ref 278,.none,.ref 279,.ref 280,.ref 281,kI 548,kI 156] 549),(290,kF "_law_worth" p6 (.none) gW 289),(289,kC "_law_worth" 551 [kI 166,kI 2,kI 0,kI 0,kI 3,.ref 284,.bool true,kI 181,.ref 285,.none,.ref 286,.ref 287,.ref 288,kI 556,kI 166] 557),(297,kF "_law_ties" qV (.none) gW 296),(296,kC "_law_ties" 559 [kI 168,kI 3,kI 0,kI 0,kI 3,.ref 291,.bool true,kI 181,.ref 292,.none,.ref 293,.ref 294,.ref 295,kI 575,kI 168] 576),(304,kF "_law_web" Af (.none) gW 303),(303,kC "_law_web" 578 [kI 183,kI 3,kI 0,kI 0,kI 3,.ref 298,.bool true,kI 181,.ref 299,.none,.ref 300,.ref 301,.ref 302,kI 591,kI 183] 592),(309,kF "_law_asks_of" lc (.none) gW 308),(308,kC "_law_asks_of" 594 [kI 193,kI 3,kI 0,kI 0,kI 3,.ref 305,.bool true,kI 181,.ref 306,.none,.none,.none,.ref 307,kI 597,kI 193] 598),(316,kF "_law_may" Ad (.none) gW 315),(315,kC "_law_may" 600 [kI 195,kI 3,kI 0,kI 0,kI 3,.ref 310,.bool true,kI 181,.ref 311,.none,.ref 312,.ref 313,.ref 314,kI 609,kI 195] 610),(323,kF "_law_behind" mN (.none) gW 322),(322,kC "_law_behind" 612 [kI 203,kI 4,kI 0,kI 0,kI 3,.ref 317,.bool true,kI 181,.ref 318,.none,.ref 319,.ref 320,.ref 321,kI 622,kI 203] 623),(328,kF "_law_askable" lb (.none) gW 327),(327,kC "_law_askable" 625 [kI 209,kI 2,kI 0,kI 0,kI 3,.ref 324,.bool true,kI 181,.ref 325,.none,.none,.none,.ref 326,kI 628,kI 209] 629),(333,kF "_law_grown" pZ (.none) gW 332),(332,kC "_law_grown" 631 [kI 211,kI 3,kI 0,kI 0,kI 3,.ref 329,.bool true,kI 181,.ref 330,.none,.none,.none,.ref 331,kI 634,kI 211] 635),(338,kF "_law_all_answers" eJ (.none) gW 337),(337,kC "_law_all_answers" 637 [kI 226,kI 1,kI 0,kI 0,kI 3,.ref 334,.bool true,kI 181,.ref 335,.none,.none,.none,.ref 336,kI 640,kI 226] 641),(345,kF "_law_chance_of" iM (.none) gW 344),(344,kC "_law_chance_of" 643 [kI 231,kI 2,kI 0,kI 0,kI 3,.ref 339,.bool true,kI 181,.ref 340,.none,.ref 341,.ref 342,.ref 343,kI 651,kI 231] 652),(352,kF "_law_run_tree" jK (.none) gW 351),(351,kC "_law_run_tree" 654 [kI 236,kI 2,kI 0,kI 0,kI 3,.ref 346,.bool true,kI 181,.ref 347,.none,.ref 348,.ref 349,.ref 350,kI 664,kI 236] 665),(357,kF "_law_kept" uF (.none) gW 356),(356,kC "_law_kept" 667 [kI 244,kI 2,kI 0,kI 0,kI 3,.ref 353,.bool true,kI 181,.ref 354,.none,.none,.none,.ref 355,kI 670,kI 244] 671),(364,kF "_law_tree_worth" gM (.none) gW 363),(363,kC "_law_tree_worth" 673 [kI 246,kI 2,kI 0,kI 0,kI 3,.ref 358,.bool true,kI 181,.ref 359,.none,.ref 360,.ref 361,.ref 362,kI 681,kI 246] 682),(369,kF "_law_renumbered" ef (.none) gW 368),(368,kC "_law_renumbered" 684 [kI 252,kI 2,kI 0,kI 0,kI 3,.ref 365,.bool true,kI 181,.ref 366,.none,.none,.none,.ref 367,kI 687,kI 252] 688),(376,kF "_law_tree" uJ (.none) gW 375),(375,kC "_law_tree" 690 [kI 262,kI 3,kI 0,kI 0,kI 3,.ref 370,.bool true,kI 181,.ref 371,.none,.ref 372,.ref 373,.ref 374,kI 697,kI 262] 698),(381,kF "_law_ten" Ae (.none) gW 380),(380,kC "_law_ten" 700 [kI 265,kI 1,kI 0,kI 0,kI 3,.ref 377,.bool true,kI 181,.ref 378,.none,.none,.none,.ref 379,kI 703,kI 265] 704),(388,kF "_law_by_reaches" gL (.none) gW 387),(387,kC "_law_by_reaches" 706 [kI 268,kI 3,kI 0,kI 0,kI 3,.ref 382,.bool true,kI 181,.ref 383,.none,.ref 384,.ref 385,.ref 386,kI 717,kI 268] 718),(395,kF "law" uK (.none) gW 394),(394,kC "law" 720 [kI 274,kI 1,kI 0,kI 0,kI 3,.ref 389,.bool true,kI 181,.ref 390,.none,.ref 391,.ref 392,.ref 393,kI 733,kI 274] 734),(15,kT [.int (0) 189,.int (1) 190] 0),(16,kT [.int (1) 192,.int (1) 193] 0)]
def kA:List TM:=[3,23,22,30,29,37,36,44,43,51,50,58,57,65,64,72,71,79,78,84,83,91,90,98,97,105,104,112,111,117,116,122,121,127,126,132,131,139,138,144,143,149,148,181,180,186,185,191,190,198,197,203,202,208,207,213,212,220,219,227,226,234,233,241,240,248,247,255,254,262,261,269,268,276,275,283,282,290,289,297,296,304,303,309,308,316,315,323,322,328,327,333,332,338,337,345,344,352,351,357,356,364,363,369,368,376,375,381,380,388,387,395,394,15,16]
def kq:Uc:={Wy with main:={Wy.main with body:=[top 1,top 2,top 3,top 4,top 5,top 6,top 7,top 8,top 10,top 11,top 12,top 13,top 15,top 16,top 18,top 19,top 20,top 21,top 22,top 23,top 25,top 26,top 27,top 28,top 30,top 31,top 32,top 34,top 35,top 37,top 38,top 39,top 40,top 41,top 43,top 44,top 45,top 46,top 47,top 48,top 49,top 50,top 51,top 52,top 53,top 54,top 55,top 56,top 57,top 58,top 59,top 60,top 61,top 62,top 63,top 64,top 65,top 66,top 67,top 68,top 69,top 70]}}
def kH:W.Hook:=W.kHook kK kA (λ_=>by kernel_rfl)
abbrev lX(s:TQ):Bool:=W.xlAt kq [] s&&W.recOk (W.RowW.records (W.OpenRow.toRowW (W.OpenLaw.row YB))) s
def l1(p q:Uc)(Xt:TQ->Bool)(N:Nat):Prop:=∀w,(W.openEnds treeTable p w N).map (λs=>(W.openSeen q [] (Yd p.main.body) Xt true s).1)=some (W.openGood q []).1
def l0(p q:Uc)(Xt:TQ->Bool)(N:Nat):Prop:=∀w,(W.openEnds treeTable p w N).map (λs=>((W.openSeen q [] (Yd p.main.body) Xt true s).2.1,(W.openSeen q [] (Yd p.main.body) Xt true s).2.2.1))=some ((W.openGood q []).2.1,(W.openGood q []).2.2.1)
def l2(p q:Uc)(Xt:TQ->Bool)(N:Nat):Prop:=∀w,(W.openEnds treeTable p w N).map (λs=>(W.openSeen q [] (Yd p.main.body) Xt true s).2.2.2)=some (W.openGood q []).2.2.2
def l3{α:Type}(p:Uc)(Yf:TQ->α)(Ya:TX->α)(N:Nat):Prop:=∀w,(W.openEnds treeTable p w N).map Yf=some (Ya w)
theorem HK{p q:Uc}{Xt:TQ->Bool}{α:Type}{Yf:TQ->α}{Ya:TX->α}{N:Nat}(h1:l1 p q Xt N)(h0:l0 p q Xt N)(h2:l2 p q Xt N)(h3:l3 p Yf Ya N):W.LeftO p q [] Xt Yf Ya N:=λw=>by have a:=h1 w;have d:=h0 w;have b:=h2 w;have c:=h3 w;cases o:W.openEnds treeTable p w N with|none=>rw[o]at a;cases a|some s=>rw[o]at a b c d;simp only[VB,WJ,Prod.mk.injEq]at a b c d;exact congrArg some (Prod.ext (Prod.ext a (Prod.ext d.1 (Prod.ext d.2 b))) c)
theorem MA:l1 Wy kq lX 4540:=λw=>by kernel_rfl
theorem Mz:l0 Wy kq lX 4540:=λw=>by kernel_rfl
theorem MB:l2 Wy kq lX 4540:=λw=>by kernel_rfl
theorem MC:l3 Wy (W.Hook.obs kH) (W.Hook.val kH) 4540:=λw=>by kernel_rfl
theorem left:W.LeftO Wy kq [] lX (W.Hook.obs kH) (W.Hook.val kH) 4540:=HK MA Mz MB MC
end V23
namespace L2
open PySem PySem.Spec PyProof.Rows
theorem Tz{α:Type _}{β:Type _}{o:Option α}{f:α->Option β}{b:β}(h:o.bind f=some b):∃a,o=some a/\f a=some b:=Option.bind_eq_some_iff.mp h
theorem TB{α:Type _}{β:Type _}{o:Option α}{f:α->β}{b:β}(h:o.map f=some b):∃a,o=some a/\f a=b:=Option.map_eq_some_iff.mp h
theorem TC{α:Type _}{l:List α}{i:Nat}{a:α}(h:l[i]?=some a):∃w:i<l.length,l[i]=a:=List.getElem?_eq_some_iff.mp h
theorem TF{α:Type _}{a:α}{s t:List α}(h:a∈s++t):a∈s\/a∈t:=Vq.mp h
theorem TH{α:Type _}{β:Type _}{b:β}{f:α->β}{l:List α}(h:b∈l.map f):∃a,a∈l/\f a=b:=Wz.mp h
theorem TJ{α:Type _}{a b:α}{l:List α}(h:a∈b::l):a=b\/a∈l:=Uy.mp h
theorem TK{α:Type _}{l:List α}{i:Nat}{a:α}(h:l[i]?=some a):a∈l:=List.mem_of_getElem? h
abbrev nY:=Sum Int Str
def EQ:nY->TL->Bool|.inl k,v=>Value.isInt k v|.inr x,v=>Value.isStrOf x v
def Ob(w:TX):nY->Int|.inl k=>hashInt k|.inr x=>hashStr w x
theorem ck:∀{k:nY}{v:TL},EQ k v=true->(∃i t,k=VL i/\v=Value.int i t)\/(∃x t,k=Sum.inr x/\v=Value.str x t)|.inl i,v,h=>by obtain⟨t,e⟩:=Value.isInt_shape (k:=i) (v:=v) h;exact .inl ⟨i,t,rfl,e⟩|.inr x,v,h=>by obtain⟨t,e⟩:=Value.isStrOf_shape (x:=x) (v:=v) h;exact .inr ⟨x,t,rfl,e⟩
theorem KF(a b:Int):decide ((VL a:nY)=VL b)=(a==b):=by
 by_cases e:a=b;·subst e;simp
 ·have h:¬(VL a:nY)=VL b:=λq=>e (Sum.inl.inj q);rw[decide_eq_false h];exact(beq_eq_false_iff_ne.mpr e).symm
theorem KI(a b:Str):decide ((Sum.inr a:nY)=Sum.inr b)=decide (a=b):=by
 by_cases e:a=b;·subst e;simp
 ·have h:¬(Sum.inr a:nY)=Sum.inr b:=λq=>e (Sum.inr.inj q);rw[decide_eq_false h,decide_eq_false e]
theorem KG(a:Int)(b:Str):decide ((VL a:nY)=Sum.inr b)=false:=decide_eq_false (λq=>nomatch q)
theorem KH(a:Str)(b:Int):decide ((Sum.inr a:nY)=VL b)=false:=decide_eq_false (λq=>nomatch q)
def yj(prog:Uc)(w:TX):PySem.KeyKind prog w nY where
 is:=EQ;hash:=Ob w;inj:=λv a b ha hb=>by
  rcases ck ha with⟨i,t,rfl,rfl⟩|⟨x,t,rfl,rfl⟩
  ·rcases ck hb with⟨j,u,rfl,e⟩|⟨y,u,rfl,e⟩;·injection e with e1 _;rw[e1]
   ·exact nomatch e
  ·rcases ck hb with⟨j,u,rfl,e⟩|⟨y,u,rfl,e⟩;·exact nomatch e
   ·injection e with e1 _;rw[e1]
 byValue:=λk v h=>by rcases ck h with⟨i,t,rfl,rfl⟩|⟨x,t,rfl,rfl⟩<;>rfl
 pyHash:=λhv h=>by
  rcases ck hv with⟨i,t,rfl,rfl⟩|⟨x,t,rfl,rfl⟩;·exact wpAny_pyHash_int h
  ·exact wpAny_pyHash_str h
 eqBool:=λhu hv h=>by
  rcases ck hu with⟨i,t,rfl,rfl⟩|⟨x,t,rfl,rfl⟩
  ·rcases ck hv with⟨j,u,rfl,rfl⟩|⟨y,u,rfl,rfl⟩;·rw[KF]at h;exact wpAny_eqBool_int h
   ·rw[KG]at h;exact SeqAt.EqAt.int_str i t y u _ _ _ _ h
  ·rcases ck hv with⟨j,u,rfl,rfl⟩|⟨y,u,rfl,rfl⟩;·rw[KH]at h;exact SeqAt.EqAt.str_int x t j u _ _ _ _ h
   ·rw[KI]at h;exact wpAny_eqBool_str h
 «strs»:=λk x t v h=>by
  rcases ck h with⟨i,u,rfl,e⟩|⟨y,u,rfl,e⟩;·exact nomatch e
  ·injection e with e1 _;subst e1;cases v<;>rfl
inductive V where|non|bl (b:Bool)|int (i:Int)|str (x:Str)|byt (b:Array UInt8)|flt (b:UInt64)|ref (a:TM)|ty (n:String)deriving DecidableEq
def bY:V->TL->Prop|.non,u=>u=Value.none|.bl b,u=>u=Value.bool b|.int i,u=>∃t,u=Value.int i t|.str x,u=>∃t,u=Value.str x t|.byt b,u=>∃t,u=Value.bytes b t|.flt b,u=>∃t,u=Value.float b t|.ref a,u=>u=Value.ref a|.ty n,u=>u=Value.type n
abbrev bc:List V->List TL->Prop:=Paired bY
theorem bc.length{xs:List V}{us:List TL}(r:bc xs us):xs.length=us.length:=Paired.length r
theorem bc.get:∀{xs:List V}{us:List TL}{i:Nat}{x:V},bc xs us->xs[i]?=some x->∃u,us[i]?=some u/\bY x u|_,_,_,_,.nil,e=>by simp at e|_,_,0,_,.cons r _,e=>by simp at e;subst e;exact⟨_,rfl,r⟩|_,_,i+1,x,.cons _ t,e=>by obtain⟨u,h1,h2⟩:=bc.get (i:=i) (x:=x) t (by simpa using e);exact⟨u,by simpa using h1,h2⟩
theorem bc.set{x:V}{u:TL}(r:bY x u):∀{xs:List V}{us:List TL}(i:Nat),bc xs us->bc (xs.set i x) (us.set i u)|_,_,_,.nil=>.nil|_,_,0,.cons _ t=>.cons r t|_,_,i+1,.cons q t=>.cons q (bc.set r i t)
theorem bc.append:∀{xs ys:List V}{us ws:List TL},bc xs us->bc ys ws->bc (xs++ys) (us++ws)|_,_,_,_,.nil,s=>s|_,_,_,_,.cons r t,s=>.cons r (bc.append t s)
theorem bc.take:∀{xs:List V}{us:List TL}(n:Nat),bc xs us->bc (xs.take n) (us.take n)|_,_,0,_=>.nil|_,_,_+1,.nil=>.nil|_,_,n+1,.cons r t=>.cons r (bc.take n t)
theorem bc.drop:∀{xs:List V}{us:List TL}(n:Nat),bc xs us->bc (xs.drop n) (us.drop n)|_,_,0,r=>r|_,_,_+1,.nil=>.nil|_,_,n+1,.cons _ t=>bc.drop n t
def Md:Option V->Option TL->Prop|some v,some u=>bY v u|none,none=>True|_,_=>False
def KV{κ:Type}:List (κ×V)->List (κ×TL)->Prop:=Paired fun(p:κ×V) (q:κ×TL)=>p.1=q.1/\bY p.2 q.2
def kV:nY->V|.inl i=>.int i|.inr x=>.str x
inductive HO where/--a list -/|lst (xs:List V)/--a tuple (never changes) -/|tup (xs:List V)/--a dict whose keys are ints and texts; one whose keys are tuples of ints and texts (the empty one is both) -/|dK (kvs:List (nY×V))|dT (kvs:List (List nY×V))/--a set of ints: its members, its size -/|set (S:Int->Bool) (n:Nat)/--an instance of the class at C, its dict at dx, its attributes -/|ins (C dx:TM) (fs:List (Str×V))/--the dict of the instance at x -/|own (x:TM)/--the dict of an exception -/|xd (fs:List (Str×V))/--a bound method, f of x -/|met (f x:TM)/--a range object lo, lo + 1, .. below hi -/|rng (lo hi:Int)/--a thing that is known to the object (the script; a dict while a loop walks it): read, never written while it is so -/|frz (o:Obj) (u:HO)/--a code object's table -/|tbl (ps:Array TL)/--any other thing, by what is true of its one object (a def of one's own: SetO a S n := HO.ext fun h => ..) -/|ext (φ:Ua->Prop)
abbrev Hp:=TM->Option HO
def cg(H:Hp)(a:TM)(o:HO):Hp:=λb=>if b=a then some o else H b
theorem aH{H:Hp}{a:TM}{o:HO}:cg H a o a=some o:=by unfold cg;rw[if_pos rfl]
theorem aJ{H:Hp}{a b:TM}{o:HO}(h:b≠a):cg H a o b=H b:=by unfold cg;rw[if_neg h]
theorem ii{H:Hp}{a b:TM}{o:HO}(h:H a=some o)(h':H b=none):a≠b:=by intro e;subst e;rw[h]at h';cases h'
def tI(h:Ua)(a:TM)(items:Array TL):Prop:=∃o,h.get? a=some o/\o.cls=.type "tuple"/\∃n,o.data=.seq items n/\o.dict=none
theorem tI.tup{h:Ua}{a:TM}{items:Array TL}(x:tI h a items):IsTup h a items:=let⟨o,ho,hc,n,hd,_⟩:=x;⟨o,ho,hc,n,hd⟩
theorem tI.new(h:Ua)(items:Array TL):tI (h.push {cls:=.type "tuple",data:=.seq items}) h.objs.size items:=⟨_,UT _ rfl,rfl,_,rfl,rfl⟩
section
variable(P:Uc)(w:TX)
def jr(H:Hp)(h:Ua)(a:TM):HO->Prop|.lst xs=>xs.length<=Uj/\∃(its:List TL) (n:Nat),bc xs its/\h.get? a=some {cls:=.type "list",data:=.seq its.toArray n}|.tup xs=>xs.length<=Uj/\∃its:List TL,bc xs its/\tI h a its.toArray|.dK kvs=>kvs.length<=Uj/\(a==sysModules)=false/\∃vs,KV kvs vs/\h.DictOf (yj P w) a vs|.dT kvs=>kvs.length<=Uj/\(a==sysModules)=false/\∃xs:List (List nY×TM×TL),Paired (fun(p:List nY×V) (q:List nY×TM×TL)=>p.1=q.1/\H q.2.1=some (.tup (p.1.map kV))/\bY p.2 q.2.2) kvs xs/\∃o es ep,h.get? a=some o/\o.ExactDict/\o.data=.dict es ep/\es.toList=xs.map (entryOfKey (tupleKind (yj P w)))/\(xs.map (·.1)).Nodup|.set S n=>h.SetOf (intKind P w) a S n|.ins C dx fs=>H dx=some (.own a)/\fs.length<=1000/\dx≠a/\h.get? a=some (PySem.W.instObj C dx)/\∃mA,h.Ns1 dx mA/\(∀f,Md (fs.lookup f) (mA f))/\PySem.Within mA (fs.map (·.1))|.own _=>∃o,h.get? a=some o|.xd fs=>∃mA,h.Ns1 a mA/\∀f,Md (fs.lookup f) (mA f)|.rng lo hi=>∃t u v,h.get? a=some {cls:=.type "range",data:=.fields #[.int lo t,.int hi u,.int 1 v]}|.frz o u=>h.get? a=some o/\jr H h a u|.tbl ps=>h.get? a=some {cls:=.none,data:=.fields ps}|.met f x=>h.get? a=some (YC (.ref f) (.ref x))|.ext φ=>φ h/\(∃o,h.get? a=some o)/\∀h1 h2:Ua,φ h1->(∀o,h1.get? a=some o->h2.get? a=some o)->φ h2
def sG(H:Hp)(h:Ua):Prop:=∀a o,H a=some o->jr P w H h a o
end
section
variable{P:Uc}{w:TX}{H H':Hp}{h h':Ua}{a:TM}{o:HO}
theorem jr.lt(x:jr P w H h a o):a<h.objs.size:=by cases o with|lst xs=>obtain⟨_,_,_,_,e⟩:=x;exact Up e|tup xs=>obtain⟨_,_,_,p⟩:=x;exact p.tup.lt|dK kvs=>obtain⟨_,_,_,_,o,_,_,e,_⟩:=x;exact Up e|dT kvs=>obtain⟨_,_,_,_,o,_,_,e,_⟩:=x;exact Up e|set S n=>obtain⟨o,_,_,_,e,_⟩:=x;exact Up e|ins C dx fs=>obtain⟨_,_,_,e,_⟩:=x;exact Up e|own y=>obtain⟨_,e⟩:=x;exact Up e|xd fs=>obtain⟨_,⟨_,_,_,e,_⟩,_⟩:=x;exact Up e|rng lo hi=>obtain⟨_,_,_,e⟩:=x;exact Up e|frz ob u=>obtain⟨e,_⟩:=x;exact Up e|tbl ps=>exact Up (show h.get? a=some _ from x)|met f y=>exact Up (show h.get? a=some _ from x)|ext φ=>obtain⟨_,⟨_,e⟩,_⟩:=x;exact Up e
theorem Paired.mapP{α β:Type}{F G:α->β->Prop}:∀{l₁:List α}{l₂:List β},Paired F l₁ l₂->(∀a b,F a b->G a b)->Paired G l₁ l₂|_,_,.nil,_=>.nil|_,_,.cons r t,f=>.cons (f _ _ r) (Paired.mapP t f)
theorem jr.stay(x:jr P w H h a o)(k:∀b u,(b=a\/H b=some (.own a))->h.get? b=some u->h'.get? b=some u)(ho:∀b,H b=some (.own a)->H' b=some (.own a))(ht:∀b xs,H b=some (.tup xs)->H' b=some (.tup xs)):jr P w H' h' a o:=by induction o with|lst xs=>obtain⟨z,its,n,r,e⟩:=x;exact⟨z,its,n,r,k _ _ (.inl rfl) e⟩|tup xs=>obtain⟨z,its,r,ob,e,c⟩:=x;exact⟨z,its,r,ob,k _ _ (.inl rfl) e,c⟩|dK kvs=>obtain⟨z,y,vs,r,ob,es,ep,e,c⟩:=x;exact⟨z,y,vs,r,ob,es,ep,k _ _ (.inl rfl) e,c⟩|dT kvs=>obtain⟨z,y,xs,r,ob,es,ep,e,c⟩:=x;exact⟨z,y,xs,Paired.mapP r λp q z=>⟨z.1,ht _ _ z.2.1,z.2.2⟩,ob,es,ep,k _ _ (.inl rfl) e,c⟩|set S n=>obtain⟨ob,es,ep,t,e,c⟩:=x;exact⟨ob,es,ep,t,k _ _ (.inl rfl) e,c⟩|ins C dx fs=>obtain⟨d,z,ne,e,mA,⟨od,es,ep,e2,c⟩,r⟩:=x;exact⟨ho _ d,z,ne,k _ _ (.inl rfl) e,mA,⟨od,es,ep,k _ _ (.inr d) e2,c⟩,r⟩|own y=>obtain⟨ob,e⟩:=x;exact⟨ob,k _ _ (.inl rfl) e⟩|xd fs=>obtain⟨mA,⟨od,es,ep,e,c⟩,r⟩:=x;exact⟨mA,⟨od,es,ep,k _ _ (.inl rfl) e,c⟩,r⟩|rng lo hi=>obtain⟨t,u,v,e⟩:=x;exact⟨t,u,v,k _ _ (.inl rfl) e⟩|frz ob u ih=>obtain⟨e,q⟩:=x;exact⟨k _ _ (.inl rfl) e,ih q⟩|tbl ps=>have e:h.get? a=some {cls:=.none,data:=.fields ps}:=x;show h'.get? a=some {cls:=.none,data:=.fields ps};exact k a _ (.inl rfl) e|met f y=>have e:h.get? a=some (YC (.ref f) (.ref y)):=x;show h'.get? a=some (YC (.ref f) (.ref y));exact k a _ (.inl rfl) e|ext φ=>obtain⟨p,⟨o,e⟩,st⟩:=x;exact⟨st _ _ p λo q=>k _ _ (.inl rfl) q,⟨o,k _ _ (.inl rfl) e⟩,st⟩
theorem sG.lt(x:sG P w H h)(e:H a=some o):a<h.objs.size:=(x a o e).lt
theorem sG.fresh(x:sG P w H h)(e:h.objs.size<=a):H a=none:=by cases q:H a with|none=>rfl|some u=>exact absurd (UU (x.lt q) e) (VV _)
theorem sG.kept(x:sG P w H h)(k:∀b u,h.get? b=some u->h'.get? b=some u):sG P w H h':=λa o e=>(x a o e).stay (λb u _ q=>k b u q) (λ_ q=>q) λ_ _ q=>q
theorem sG.laid(x:sG P w H h)(k:∀b u,h.get? b=some u->h'.get? b=some u)(hp:h.objs.size<=a)(new:jr P w (cg H a o) h' a o):sG P w (cg H a o) h':=λb u e=>by
 have hn:=x.fresh hp;by_cases hb:b=a;·subst hb;rw[aH]at e;cases e;exact new
 ·rw[aJ hb]at e;exact(x b u e).stay (λc v _ q=>k c v q) (λc q=>by rw[aJ (ii q hn)];exact q) λc xs q=>by rw[aJ (ii q hn)];exact q
end
def Rd(H:Hp)(a:TM)(u:HO):Prop:=H a=some u\/∃o,H a=some (.frz o u)
theorem Rd.ok{P:Uc}{w:TX}{H:Hp}{h:Ua}{a:TM}{u:HO}(r:Rd H a u)(x:sG P w H h):jr P w H h a u:=by
 rcases r with r|⟨o,r⟩;·exact x a u r
 ·obtain⟨_,q⟩:=x a _ r;exact q
def Nz:Option HO->Prop|some (.lst _)=>True|some (.dK _)=>True|some (.dT _)=>True|some (.set _ _)=>True|some (.ins _ _ _)=>True|some (.ext _)=>True|_=>False
section
variable{P:Uc}{w:TX}{H:Hp}{h h':Ua}{x e:TM}{o':HO}
theorem sG.write(ok:sG P w H h)(mu:Nz (H x))(he:e=x\/H e=some (.own x))(k:∀b u,b≠e->h.get? b=some u->h'.get? b=some u)(heo:∃u,h'.get? e=some u)(new:jr P w (cg H x o') h' x o'):sG P w (cg H x o') h':=λb u q=>by
 have nown:∀c y,H c=some (.own y)->c≠x:=λc y r z=>by subst z;rw[r]at mu;exact mu
 have ntup:∀c xs,H c=some (.tup xs)->c≠x:=λc xs r z=>by subst z;rw[r]at mu;exact mu
 by_cases hb:b=x;·subst hb;rw[aH]at q;cases q;exact new
 ·rw[aJ hb]at q;by_cases hbe:b=e
  ·have q':H b=some (.own x):=by
    rcases he with z|z;·exact absurd (hbe.trans z) hb
    ·rw[hbe];exact z
   rw[q]at q';cases q';obtain⟨v,hv⟩:=heo;exact⟨v,by rw[hbe];exact hv⟩
  ·refine(ok b u q).stay (λc v hc r=>k c v ?_ r) (λc r=>by rw[aJ (nown c b r)];exact r) λc xs r=>by rw[aJ (ntup c xs r)];exact r
   rcases hc with rfl|hc;·exact hbe
   ·rintro rfl;rcases he with z|z;·exact nown c b hc z
    ·rw[hc]at z;cases z;exact hb rfl
end
structure Un (fs ex:List TM) (H H':Hp) (h h':Ua):Prop where
 keep:∀b o,h.get? b=some o->H b=none->b∉fs->b∉ex->h'.get? b=some o
 slot:∀b o,h.get? b=some o->H b=none->b∈fs->b∉ex->∃sl,h'.get? b=some {o with slots:=sl}free:∀b o,h.get? b=some o->H b=none->b∉ex->H' b=none
 there:∀b o,h.get? b=some o->b∉ex->∃o',h'.get? b=some o'
 tups:∀b xs,H b=some (.tup xs)->H' b=some (.tup xs)frzs:∀b o u,H b=some (.frz o u)->H' b=some (.frz o u)tbls:∀b ps,H b=some (.tbl ps)->∃more,H' b=some (.tbl (ps++more))
section
variable{fs fs' ex ex':List TM}{H H1 H2:Hp}{h h1 h2 h':Ua}{a x e:TM}{o:HO}
theorem Un.any(u:Un fs ex H H1 h h1){b:TM}{ob:Obj}(q:h.get? b=some ob)(n:H b=none)(hx:b∉ex):∃sl,h1.get? b=some {ob with slots:=sl}:=by
 by_cases hb:b∈fs;·exact u.slot b ob q n hb hx
 ·exact⟨ob.slots,u.keep b ob q n hb hx⟩
theorem Un.kept(k:∀b u,h.get? b=some u->h'.get? b=some u):Un fs ex H H h h':=⟨λb ob q _ _ _=>k b ob q,λb ob q _ _ _=>⟨ob.slots,k b ob q⟩,λ_ _ _ n _=>n,λb ob q _=>⟨ob,k b ob q⟩,λ_ _ q=>q,λ_ _ _ q=>q,λ_ ps q=>⟨#[],by rw[q];simp⟩⟩
theorem Un.refl:Un fs ex H H h h:=Un.kept λ_ _ q=>q
theorem Un.laid(k:∀b u,h.get? b=some u->h'.get? b=some u)(hp:h.objs.size<=a)(hn:H a=none):Un fs ex H (cg H a o) h h' where
 keep:=λb u q _ _ _=>k b u q;slot:=λb u q _ _ _=>⟨u.slots,k b u q⟩;free:=λb u q n _=>by rw[aJ (Vf (UU (Up q) hp))];exact n
 there:=λb u q _=>⟨u,k b u q⟩;tups:=λb xs q=>by rw[aJ (ii q hn)];exact q
 frzs:=λb u xs q=>by rw[aJ (ii q hn)];exact q
 tbls:=λb ps q=>⟨#[],by rw[aJ (ii q hn),q];simp⟩
theorem Un.write(mu:Nz (H x))(he:e=x\/H e=some (.own x))(k:∀b u,b≠e->h.get? b=some u->h'.get? b=some u)(heo:∃u,h'.get? e=some u):Un fs ex H (cg H x o) h h':=by
 have hx:∀b,H b=none->b≠x:=λb n z=>by subst z;rw[n]at mu;exact mu
 have hb:∀b,H b=none->b≠e:=λb n z=>by
  subst z;rcases he with r|r;·exact hx b n r
  ·rw[n]at r;cases r
 have hm:∀b u,H b=some u->¬Nz (some u)->b≠x:=λb u q nm z=>by subst z;rw[q]at mu;exact nm mu
 refine⟨λb u q n _ _=>k b u (hb b n) q,λb u q n _ _=>⟨u.slots,k b u (hb b n) q⟩,λb u q n _=>by rw[aJ (hx b n)];exact n,λb u q _=>?_,λb xs q=>by rw[aJ (hm b _ q λz=>z)];exact q,λb u xs q=>by rw[aJ (hm b _ q λz=>z)];exact q,λb ps q=>⟨#[],by rw[aJ (hm b _ q λz=>z),q];simp⟩⟩;by_cases hbe:b=e;·subst hbe;exact heo
 ·exact⟨u,k b u hbe q⟩
end
def NJ(h:Ua)(H:Hp):List TM:=(Uu h.objs.size).filter λa=>(H a).isSome
def xS(h:Ua)(H:Hp):Ua:=PySem.W.hideAll h (NJ h H)
theorem C2(h:Ua)(H:Hp):(xS h H).objs.size=h.objs.size:=PySem.W.hideAll_size _ _
theorem EH{h:Ua}{H:Hp}{b:TM}{o:Obj}(e:h.get? b=some o)(n:H b=none):(xS h H).get? b=some o:=PySem.W.hideAll_get _ e λhm=>by have q:(H b).isSome=true:=(Wg.mp hm).2;rw[n]at q;simp at q
theorem HR{h:Ua}{H:Hp}{b:TM}{o:Obj}(e:(xS h H).get? b=some o):h.get? b=some o/\H b=none:=by have e':h.get? b=some o:=PySem.W.of_hideAll (NJ h H) e;refine⟨e',?_⟩;cases q:H b with|none=>rfl|some x=>have hm:b∈NJ h H:=Wg.mpr ⟨WA.mpr (Up e'),by simp[q]⟩;have z:(xS h H).get? b=none:=PySem.W.hideAll_none (NJ h H) hm;rw[z]at e;cases e
def xA(g h:Ua)(L:TM):List (TM×Obj):=(Uu h.objs.size).filterMap λa=>if a=L\/(g.get? a).isSome=true then none else(h.get? a).map λo=>(a,o)
theorem uk{g h:Ua}{L:TM}{p:TM×Obj}(hp:p∈xA g h L):p.1≠L/\g.get? p.1=none/\h.get? p.1=some p.2:=by
 obtain⟨b,_,e⟩:=YD.mp hp;split at e;·cases e
 ·rename_i hn;cases q:h.get? b with|none=>rw[q]at e;simp at e|some u=>rw[q]at e;simp only[VB,WJ]at e;subst e;refine⟨λz=>hn (.inl z),?_,q⟩;show g.get? b=none;cases r:g.get? b with|none=>rfl|some v=>exact(hn (.inr (by simp[r]))).elim
def iL(g h:Ua)(L d:TM):List (TM×Obj):=(xA g h L).filter λp=>decide (p.1≠d)
theorem E_{g h:Ua}{L:TM}:News g L h (xA g h L):=λp hp=>let⟨a,b,c⟩:=uk hp;⟨c,a,b⟩
structure Mod (K:⇑0) (mg:Str->Option TL) (base:Ua):Prop where
 kin:K.In base
 glob:base.Ns UV mg
 blt:∃mb,base.Ns builtinsNs mb/\∀x:Str,x≠"__name__"->mb x=Vu x
 nolimit:base.NoLimit
structure Cx where
 prog:Uc
 w:TX
 K:⇑0
 mg:Str->Option TL
 base:Ua
 A:Ud
 N:List Str
 s₀:TQ
 H₀:Hp
 env:Env
 outer:List Env
 stack:List Env
 ex:List TM
 fn:Str->Bool
 calm:Bool
 pn:List (TM×Obj)xe:TL->TQ->Prop
def EB(l:List Env):List TM:=l.filterMap (·.frame)
abbrev Cx.fs(X:Cx):List TM:=EB X.outer
def G6(sc:Us)(x:Str):Prop:=sc.names.lookup x=some .local\/sc.names.lookup x=some .cell\/sc.names.lookup x=some .free
def Kg(sc:Us)(x:Str):Prop:=sc.names.lookup x=some .local\/sc.names.lookup x=some .cell
def NQ(env:Env)(h:Ua)(m:Str->Option TL)(x:Str)(u:TL):Prop:=(env.kindOf x=some .local/\m x=some u)\/((env.kindOf x=some .cell\/env.kindOf x=some .free)/\∃c,env.cells.lookup x=some c/\h.IsCell c (some u))
structure Cx.Ok (X:Cx):Prop where
 mod:Mod X.K X.mg X.base
 kind:X.env.scope.kind=.function
 glob:X.env.globals=UV
 blt:X.env.builtins=builtinsNs
 above:X.s₀.heap.objs.size<=X.env.locals
 inj:∀x y c,X.env.cells.lookup x=some c->X.env.cells.lookup y=some c->x=y
 has:∀x,(X.env.kindOf x=some .cell\/X.env.kindOf x=some .free)->∃c,X.env.cells.lookup x=some c
 cab:∀x c,X.fn x=true->X.env.cells.lookup x=some c->X.s₀.heap.objs.size<=c
 hd:X.calm=true->X.A.handled=none
 frames:X.A.frames=some X.stack
 stk:X.stack=X.outer\/(X.stack=X.env::X.outer/\X.env.frame=some X.env.locals)exf:∀b∈X.ex,b≠X.env.locals/\∀x c,X.env.cells.lookup x=some c->c≠b
 bs:∀b o,X.base.get? b=some o->X.s₀.heap.get? b=some o/\X.H₀ b=none
 bsz:X.base.objs.size<=X.s₀.heap.objs.size
 noex:∀b o,X.base.get? b=some o->b∉X.ex
 exfs:∀b∈X.ex,b∉X.fs
 funs:X.s₀.heap.FunFrames X.base X.outer
 frf:∀b∈X.fs,X.H₀ b=none
structure aM (X:Cx) (pins:List (TM×Obj)) (σ:List (Option V)) (H:Hp) (s:TQ):Prop where
 ok:X.Ok
 os:s.os=X.s₀.os
 bare:AllBare s.gens
 base:Un X.fs X.ex X.H₀ H X.s₀.heap s.heap
 loc:∃m,s.heap.Ns X.env.locals m/\∀(i:Nat) (x:Str) (v:V),X.N[i]?=some x->σ[i]?=some (some v)->G6 X.env.scope x->∃u,bY v u/\NQ X.env s.heap m x u
 cell:∀x c,X.env.cells.lookup x=some c->∃v,s.heap.IsCell c v
 free:H X.env.locals=none
 freeC:∀x c,X.env.cells.lookup x=some c->H c=none
 pin:∀p∈X.pn++pins,s.heap.get? p.1=some p.2/\H p.1=none/\p.1≠X.env.locals/\p.1∉X.fs/\∀v,p.2.data≠.cell v
 hok:sG X.prog X.w H s.heap
 len:σ.length=X.N.length
section
variable{X:Cx}{pins:List (TM×Obj)}{σ:List (Option V)}{H H':Hp}{s:TQ}{h':Ua}
theorem Cx.Ok.nofr(ok:X.Ok){b:TM}{o:Obj}(e:X.base.get? b=some o):b∉X.fs:=λhb=>by have:=(ok.funs.mem hb).1;rw[e]at this;cases this
theorem aM.bs(I:aM X pins σ H s):∀b o,X.base.get? b=some o->s.heap.get? b=some o/\H b=none:=λb o e=>⟨I.base.keep b o (I.ok.bs b o e).1 (I.ok.bs b o e).2 (I.ok.nofr e) (I.ok.noex b o e),I.base.free b o (I.ok.bs b o e).1 (I.ok.bs b o e).2 (I.ok.noex b o e)⟩
theorem aM.bk(I:aM X pins σ H s):∀b o,X.base.get? b=some o->s.heap.get? b=some o:=λb o e=>(I.bs b o e).1
theorem aM.mod(I:aM X pins σ H s):Mod X.K X.mg X.base:=I.ok.mod
theorem aM.kIn(I:aM X pins σ H s):X.K.In s.heap:=I.ok.mod.kin.keeps I.bk
theorem aM.fr(I:aM X pins σ H s):∃m,Fr X.base X.env.locals s.heap m:=let⟨m,hn,_⟩:=I.loc;⟨m,hn,I.bk,UN I.ok.bsz I.ok.above⟩
theorem aM.lt(I:aM X pins σ H s):X.env.locals<↑s:=let⟨_,hn,_⟩:=I.loc;hn.lt
theorem aM.sz(I:aM X pins σ H s):X.s₀.heap.objs.size<=↑s:=UN I.ok.above (WK I.lt)
theorem aM.nofs(I:aM X pins σ H s){a:TM}(h:↑s<=a):a∉X.fs:=λhb=>by obtain⟨_,o,ho,_⟩:=I.ok.funs.mem hb;exact absurd (UU (Up ho) (UN I.sz h)) (VV _)
theorem aM.cne(I:aM X pins σ H s):∀x c,X.env.cells.lookup x=some c->c≠X.env.locals:=λx c e z=>by obtain⟨v,o,ho,hd⟩:=I.cell x c e;obtain⟨m,⟨o',es,ep,ho',hd',_⟩,_⟩:=I.loc;rw[z,ho']at ho;cases ho;rw[hd']at hd;cases hd
theorem aM.funs(I:aM X pins σ H s):s.heap.FunFrames X.base X.outer:=by
 have all:∀(l:List Env),(∀b∈EB l,b∈X.fs)->X.s₀.heap.FunFrames X.base l->s.heap.FunFrames X.base l:=by intro l;induction l with|nil=>intro _ _;trivial|cons env r ih=>intro hs hl;obtain⟨hk,⟨L,o,hf,hn,ho,hd⟩,hr⟩:=hl;have hL:L∈X.fs:=hs L (by unfold EB;rw[YE,hf];exact Wr);obtain⟨sl,e⟩:=I.base.slot L o ho (I.ok.frf L hL) hL λz=>I.ok.exfs L z hL;exact⟨hk,⟨L,_,hf,hn,e,hd⟩,ih (λb hb=>hs b (by unfold EB;rw[YE,hf];exact VW _ hb)) hr⟩
 exact all X.outer (λ_ hb=>hb) I.ok.funs
theorem aM.stack(I:aM X pins σ H s):s.heap.FunFrames X.base X.stack:=by
 rcases I.ok.stk with e|⟨e,hf⟩;·rw[e];exact I.funs
 ·rw[e];obtain⟨m,hn,_⟩:=I.loc;refine .cons (by rw[I.ok.kind];decide) hf hn ?_ I.funs;exact Heap.get?_none_of_le (UN I.ok.bsz I.ok.above)
theorem aM.stkSub(I:aM X pins σ H s):∀b∈EB X.stack,b∈X.env.locals::X.fs:=λb hb=>by
 rcases I.ok.stk with e|⟨e,hf⟩;·rw[e]at hb;exact VW _ hb
 ·rw[e]at hb;unfold EB at hb;rw[YE,hf]at hb;exact hb
theorem aM.stkFree(I:aM X pins σ H s):∀b∈EB X.stack,H b=none:=λb hb=>by
 rcases TJ (I.stkSub b hb) with e|hb;·rw[e];exact I.free
 ·obtain⟨_,o,ho,_⟩:=I.ok.funs.mem hb;exact I.base.free b o ho (I.ok.frf b hb) λz=>I.ok.exfs b z hb
theorem aM.step{g':Array GenState}{t':Nat}{d':Drawn}{ch:List TM}(I:aM X pins σ H s)(hch:∀b∈ch,(b∈X.ex\/X.s₀.heap.objs.size<=b)/\b≠X.env.locals/\(∀x c,X.env.cells.lookup x=some c->c≠b)/\∀p∈X.pn++pins,p.1≠b)(keep:∀b o,b≠X.env.locals->b∉X.fs->b∉ch->s.heap.get? b=some o->H b=none->h'.get? b=some o)(slot:∀b o,b≠X.env.locals->b∈X.fs->b∉ch->s.heap.get? b=some o->H b=none->∃sl,h'.get? b=some {o with slots:=sl})(free:∀b o,b∉ch->s.heap.get? b=some o->H b=none->H' b=none)(there:∀b o,b∉ch->s.heap.get? b=some o->∃o',h'.get? b=some o')(tups:∀b xs,H b=some (.tup xs)->H' b=some (.tup xs))(frzs:∀b o u,H b=some (.frz o u)->H' b=some (.frz o u))(tbls:∀b ps,H b=some (.tbl ps)->∃more,H' b=some (.tbl (ps++more)))(ns:∀m,s.heap.Ns X.env.locals m->h'.Ns X.env.locals m)(hok:sG X.prog X.w H' h')(hg:AllBare g'):aM X pins σ H' {s with heap:=h',gens:=g',drawn:=d',toks:=t'}:=by
 have neL:∀b o,X.s₀.heap.get? b=some o->b≠X.env.locals:=λb o e=>Vf (UU (Up e) I.ok.above);have neC:∀b o,X.s₀.heap.get? b=some o->b∉X.ex->b∉ch:=λb o e hx hb=>by
  rcases(hch b hb).1 with z|z;·exact hx z
  ·exact absurd (UU (Up e) z) (VV _)
 have cellK:∀x c,X.env.cells.lookup x=some c->∀v,s.heap.IsCell c v->h'.IsCell c v:=λx c e v⟨o,ho,hd⟩=>by
  have nch:c∉ch:=λz=>(hch c z).2.2.1 x c e rfl;by_cases hc:c∈X.fs;·obtain⟨sl,q⟩:=slot c o (I.cne x c e) hc nch ho (I.freeC x c e);exact⟨_,q,hd⟩
  ·exact⟨o,keep c o (I.cne x c e) hc nch ho (I.freeC x c e),hd⟩
 refine⟨I.ok,I.os,hg,⟨λb o e n hb hx=>?_,λb o e n hb hx=>?_,λb o e n hx=>?_,λb o e hx=>?_,λb xs e=>tups b xs (I.base.tups b xs e),λb o xs e=>frzs b o xs (I.base.frzs b o xs e),λb ps e=>?_⟩,?_,λx c e=>?_,?_,λx c e=>?_,λp hp=>?_,hok,I.len⟩;·exact keep b o (neL b o e) hb (neC b o e hx) (I.base.keep b o e n hb hx) (I.base.free b o e n hx)
 ·obtain⟨sl,e1⟩:=I.base.slot b o e n hb hx;obtain⟨sl',e2⟩:=slot b _ (neL b o e) hb (neC b o e hx) e1 (I.base.free b o e n hx);exact⟨sl',e2⟩
 ·obtain⟨o',e1⟩:=I.base.there b o e hx;exact free b o' (neC b o e hx) e1 (I.base.free b o e n hx)
 ·obtain⟨o',e1⟩:=I.base.there b o e hx;exact there b o' (neC b o e hx) e1
 ·obtain⟨m1,e1⟩:=I.base.tbls b ps e;obtain⟨m2,e2⟩:=tbls b _ e1;exact⟨m1++m2,by rw[e2,Array.append_assoc]⟩
 ·obtain⟨m,hn,hl⟩:=I.loc;refine⟨m,ns m hn,λi x v e1 e2 e3=>?_⟩;obtain⟨u,r,l⟩:=hl i x v e1 e2 e3;refine⟨u,r,?_⟩;rcases l with l|⟨k,c,e,z⟩;·exact .inl l
  ·exact .inr ⟨k,c,e,cellK x c e _ z⟩
 ·obtain⟨v,z⟩:=I.cell x c e;exact⟨v,cellK x c e v z⟩
 ·obtain⟨m,⟨o,_,_,ho,_⟩,_⟩:=I.loc;exact free _ o (λz=>(hch _ z).2.1 rfl) ho I.free
 ·obtain⟨v,o,ho,hd⟩:=I.cell x c e;exact free c o (λz=>(hch c z).2.2.1 x c e rfl) ho (I.freeC x c e)
 ·obtain⟨e,n,ne,nf,d⟩:=I.pin p hp;have nch:p.1∉ch:=λz=>(hch p.1 z).2.2.2 p hp rfl;exact⟨keep p.1 p.2 ne nf nch e n,free p.1 p.2 nch e n,ne,nf,d⟩
theorem aM.un{t':Nat}(I:aM X pins σ H s)(u:Un X.fs [] H H' s.heap h')(hok:sG X.prog X.w H' h'):aM X pins σ H' {s with heap:=h',toks:=t'}:=by obtain⟨m,⟨o,es,ep,ho,r⟩,_⟩:=id I.loc;obtain⟨sl,hL⟩:=u.any ho I.free ↥1;exact I.step (g':=s.gens) (d':=s.drawn) (ch:=[]) (λ_ z=>nomatch z) (λb o _ hb _ e n=>u.keep b o e n hb ↥1) (λb o _ hb _ e n=>u.slot b o e n hb ↥1) (λb o _ e n=>u.free b o e n ↥1) (λb o _ e=>u.there b o e ↥1) u.tups u.frzs u.tbls (λm' hm=>by obtain⟨o',es',ep',ho',r'⟩:=hm;rw[ho]at ho';cases ho';exact⟨_,es',ep',hL,r'⟩) hok I.bare
theorem aM.call{g':Array GenState}{t':Nat}{d':Drawn}{ch:List TM}(I:aM X pins σ H s)(u:Un (EB X.stack) ch H H' s.heap h')(hok:sG X.prog X.w H' h')(hg:AllBare g')(hch:∀b∈ch,(b∈X.ex\/X.s₀.heap.objs.size<=b)/\b≠X.env.locals/\(∀x c,X.env.cells.lookup x=some c->c≠b)/\∀p∈X.pn++pins,p.1≠b):aM X pins σ H' {s with heap:=h',gens:=g',drawn:=d',toks:=t'}:=by obtain⟨m,⟨o,es,ep,ho,r⟩,_⟩:=id I.loc;obtain⟨sl,hL⟩:=u.any ho I.free λz=>(hch _ z).2.1 rfl;exact I.step (ch:=ch) hch (λb o hL hb hc e n=>u.keep b o e n (λz=>(TJ (I.stkSub b z)).elim hL hb) hc) (λb o _ _ hc e n=>u.any e n hc) (λb o hc e n=>u.free b o e n hc) (λb o hc e=>u.there b o e hc) u.tups u.frzs u.tbls (λm' hm=>by obtain⟨o',es',ep',ho',r'⟩:=hm;rw[ho]at ho';cases ho';exact⟨_,es',ep',hL,r'⟩) hok hg
theorem aM.turned{t':Nat}{it:TM}(I:aM X pins σ H s)(k:∀b o,b≠it->s.heap.get? b=some o->h'.get? b=some o)(hn:H it=none)(hL:it≠X.env.locals)(h1:it∈X.ex\/X.s₀.heap.objs.size<=it)(h2:∀x c,X.env.cells.lookup x=some c->c≠it)(h3:∀p∈X.pn++pins,p.1≠it):aM X pins σ H {s with heap:=h',toks:=t'}:=by
 have nit:∀b u,H b=some u->b≠it:=λb u e z=>by rw[z,hn]at e;cases e
 refine I.step (g':=s.gens) (d':=s.drawn) (ch:=[it]) (λb hb=>?_) (λb o _ _ hc e _=>k b o (λz=>hc (by simp[z])) e) (λb o _ _ hc e _=>⟨o.slots,k b o (λz=>hc (by simp[z])) e⟩) (λ_ _ _ _ n=>n) (λb o hc e=>⟨o,k b o (λz=>hc (by simp[z])) e⟩) (λ_ _ e=>e) (λ_ _ _ e=>e) (λb ps e=>⟨#[],by rw[e];simp⟩) (λm hm=>?_) (λb u e=>?_) I.bare
 ·have e:b=it:=by simpa using hb
  subst e;exact⟨h1,hL,h2,h3⟩
 ·obtain⟨o,es,ep,ho,r⟩:=hm;exact⟨o,es,ep,k _ o (UQ hL) ho,r⟩
 ·refine(I.hok b u e).stay (λc v hc q=>k c v ?_ q) (λ_ q=>q) λ_ _ q=>q;rcases hc with z|z;·rw[z];exact nit b u e
  ·exact nit c _ z
theorem aM.tok(I:aM X pins σ H s)(t:Nat):aM X pins σ H {s with toks:=t}:=I.un (h':=s.heap) (t':=t) Un.refl I.hok
theorem aM.kept{t':Nat}(I:aM X pins σ H s)(k:∀b u,s.heap.get? b=some u->h'.get? b=some u):aM X pins σ H {s with heap:=h',toks:=t'}:=I.un (Un.kept k) (I.hok.kept k)
theorem aM.laid{a:TM}{o:HO}{t':Nat}(I:aM X pins σ H s)(k:∀b u,s.heap.get? b=some u->h'.get? b=some u)(hp:↑s<=a)(new:jr X.prog X.w (cg H a o) h' a o):aM X pins σ (cg H a o) {s with heap:=h',toks:=t'}:=I.un (Un.laid k hp (I.hok.fresh hp)) (I.hok.laid k hp new)
theorem aM.write{x e:TM}{o:HO}{t':Nat}(I:aM X pins σ H s)(mu:Nz (H x))(he:e=x\/H e=some (.own x))(k:∀b u,b≠e->s.heap.get? b=some u->h'.get? b=some u)(heo:∃u,h'.get? e=some u)(new:jr X.prog X.w (cg H x o) h' x o):aM X pins σ (cg H x o) {s with heap:=h',toks:=t'}:=I.un (Un.write mu he k heo) (I.hok.write mu he k heo new)
theorem aM.pins_of{pins':List (TM×Obj)}(I:aM X pins σ H s)(h:∀p∈pins',s.heap.get? p.1=some p.2/\H p.1=none/\p.1≠X.env.locals/\p.1∉X.fs/\∀v,p.2.data≠.cell v):aM X pins' σ H s:=⟨I.ok,I.os,I.bare,I.base,I.loc,I.cell,I.free,I.freeC,λp hp=>(TF hp).elim (λz=>I.pin p (Xy _ z)) (h p),I.hok,I.len⟩
theorem zP{N:List Str}(hN:N.Nodup){i j:Nat}{x:Str}(a:N[i]?=some x)(b:N[j]?=some x):i=j:=by obtain⟨h1,e1⟩:=TC a;obtain⟨h2,e2⟩:=TC b;exact(List.getElem_inj hN).mp (e1.trans e2.symm)
theorem xi{M:Model}{A:Ud}{E:TL->TQ->Prop}{i:Nat}{x:Str}{v:V}{u:TL}{Q:Unit->TQ->Prop}(I:aM X pins σ H s)(hN:X.N.Nodup)(hi:X.N[i]?=some x)(hx:Kg X.env.scope x)(r:bY v u)(h:∀s',aM X pins (σ.set i (some v)) H s'->(∃a,WB a s.heap s'.heap/\(a=X.env.locals\/X.env.cells.lookup x=some a))->Q () s')(hf:X.fn x=true\/X.env.scope.names.lookup x=some .local:=by first|exact .inl rfl|exact .inr rfl|assumption):TY M A (storeName X.env x u) Q E s:=by
 obtain⟨m,hn,hl⟩:=id I.loc;have hcls:(X.env.scope.kind==.class||(X.env.scope.kind==.module&&X.env.locals !=X.env.globals))=false:=by rw[I.ok.kind];rfl
 have hiσ:i<σ.length:=by rw[I.len];exact(TC hi).1
 have cne:=I.cne;have tracked:∀{a:TM}{h':Ua},(∃o,s.heap.get? a=some o/\H a=none)->WB a s.heap h'->sG X.prog X.w H h':=fun{a h'}ha hs b ob e=>by
  obtain⟨_,_,hfree⟩:=ha;refine(I.hok b ob e).stay (λc w' hc q=>(hs.2 c ?_).trans q) (λ_ q=>q) λ_ _ q=>q;rintro rfl;rcases hc with rfl|hc;·rw[hfree]at e;cases e
  ·rw[hfree]at hc;cases hc
 rcases hx with hk|hk
 ·refine wpAny_storeName_local hk hn (λh' hn' hs=>?_) hcls;obtain⟨oL,_,_,hoL,_⟩:=id hn;refine h _ ⟨I.ok,I.os,I.bare,⟨λb o e n hb hx=>?_,λb o e n hb hx=>?_,I.base.free,λb o e hx=>?_,I.base.tups,I.base.frzs,I.base.tbls⟩,⟨_,hn',λj y v' e1 e2 e3=>?_⟩,λy c e=>?_,I.free,I.freeC,λp hp=>?_,tracked ⟨oL,hoL,I.free⟩ hs,by simpa using I.len⟩ ⟨_,hs,.inl rfl⟩;·exact(hs.2 b (Vf (UU (Up e) I.ok.above))).trans (I.base.keep b o e n hb hx)
  ·obtain⟨sl,e1⟩:=I.base.slot b o e n hb hx;exact⟨sl,(hs.2 b (Vf (UU (Up e) I.ok.above))).trans e1⟩
  ·obtain⟨o',e1⟩:=I.base.there b o e hx;exact⟨o',(hs.2 b (Vf (UU (Up e) I.ok.above))).trans e1⟩
  ·by_cases hj:j=i;·subst hj;rw[hi]at e1;cases e1;rw[UW hiσ]at e2;cases e2;exact⟨u,r,.inl ⟨hk,by simp⟩⟩
   ·rw[UA (UQ hj)]at e2;obtain⟨u',r',q⟩:=hl j y v' e1 e2 e3;refine⟨u',r',?_⟩;rcases q with⟨k,e⟩|⟨k,c,e,z⟩;·refine .inl ⟨k,?_⟩;have:y≠x:=λe=>hj (zP hN e1 (e▸hi));simp[this,e]
    ·exact .inr ⟨k,c,e,z.sameBut hs (cne y c e)⟩
  ·obtain⟨w',z⟩:=I.cell y c e;exact⟨w',z.sameBut hs (cne y c e)⟩
  ·obtain⟨e,n,ne,nf,d⟩:=I.pin p hp;exact⟨(hs.2 p.1 ne).trans e,n,ne,nf,d⟩
 ·have hfn:X.fn x=true:=by
   rcases hf with z|z;·exact z
   ·rw[z]at hk;cases hk
  obtain⟨c,hc⟩:=I.ok.has x (.inl hk);obtain⟨w',z⟩:=I.cell x c hc;refine wpAny_storeName_cell I.ok.kind hk hc z (λh' hc' hs=>?_);obtain⟨oc,hoc,hocd⟩:=id z;refine h {s with heap:=h'} ⟨I.ok,I.os,I.bare,⟨λb o e n hb hx=>?_,λb o e n hb hx=>?_,I.base.free,λb o e hx=>?_,I.base.tups,I.base.frzs,I.base.tbls⟩,⟨m,hn.sameBut hs (UQ (cne x c hc)),λj y v' e1 e2 e3=>?_⟩,λy c' e=>?_,I.free,I.freeC,λp hp=>?_,tracked ⟨oc,hoc,I.freeC x c hc⟩ hs,by simpa using I.len⟩ ⟨c,hs,.inr hc⟩;·exact(hs.2 b (Vf (UU (Up e) (I.ok.cab x c hfn hc)))).trans (I.base.keep b o e n hb hx)
  ·obtain⟨sl,e1⟩:=I.base.slot b o e n hb hx;exact⟨sl,(hs.2 b (Vf (UU (Up e) (I.ok.cab x c hfn hc)))).trans e1⟩
  ·obtain⟨o',e1⟩:=I.base.there b o e hx;exact⟨o',(hs.2 b (Vf (UU (Up e) (I.ok.cab x c hfn hc)))).trans e1⟩
  ·by_cases hj:j=i;·subst hj;rw[hi]at e1;cases e1;rw[UW hiσ]at e2;cases e2;exact⟨u,r,.inr ⟨.inl hk,c,hc,hc'⟩⟩
   ·rw[UA (UQ hj)]at e2;obtain⟨u',r',q⟩:=hl j y v' e1 e2 e3;refine⟨u',r',?_⟩;rcases q with q|⟨k,c',e,z'⟩;·exact .inl q
    ·refine .inr ⟨k,c',e,z'.sameBut hs ?_⟩;rintro rfl;exact hj (zP hN e1 (I.ok.inj _ _ _ e hc▸hi))
  ·by_cases hcc:c'=c;·subst hcc;exact⟨_,hc'⟩
   ·obtain⟨w2,z2⟩:=I.cell y c' e;exact⟨w2,z2.sameBut hs hcc⟩
  ·obtain⟨e,n,ne,nf,d⟩:=I.pin p hp;refine⟨(hs.2 p.1 ?_).trans e,n,ne,nf,d⟩;intro q;rw[q,hoc]at e;have q':oc=p.2:=UH e;exact d w' (by rw[<-q'];exact hocd)
theorem qh{M:Model}{A:Ud}{E:TL->TQ->Prop}{i:Nat}{x:Str}{v:V}{u:TL}{Q:Unit->TQ->Prop}(I:aM X pins σ H s)(hN:X.N.Nodup)(hi:X.N[i]?=some x)(hx:Kg X.env.scope x)(r:bY v u)(h:∀s',aM X pins (σ.set i (some v)) H s'->Q () s')(hf:X.fn x=true\/X.env.scope.names.lookup x=some .local:=by first|exact .inl rfl|exact .inr rfl|assumption):TY M A (storeName X.env x u) Q E s:=xi I hN hi hx r (λs' I' _=>h s' I') hf
theorem aM.call'{s':TQ}{ch:List TM}(I:aM X pins σ H s)(ho:s'.os=s.os)(u:Un (EB X.stack) ch H H' s.heap s'.heap)(hok:sG X.prog X.w H' s'.heap)(hg:AllBare s'.gens)(hch:∀b∈ch,(b∈X.ex\/X.s₀.heap.objs.size<=b)/\b≠X.env.locals/\(∀x c,X.env.cells.lookup x=some c->c≠b)/\∀p∈X.pn++pins,p.1≠b):aM X pins σ H' s':=by obtain⟨h',g',d',t',o'⟩:=s';have e:o'=s.os:=ho;subst e;exact I.call (g':=g') (t':=t') (d':=d') u hok hg hch
end
abbrev XK:=TL->Option TM->Hp->Prop
abbrev St:=List (Option V)
abbrev VK:=V->Hp->Prop
abbrev TE:=St->Hp->VK->Prop
abbrev TT:=St->Hp->(Bool->Hp->Prop)->Prop
abbrev TA:=St->Hp->(List V->Hp->Prop)->Prop
structure yY where
 nx:St->Hp->Prop
 rt:VK
 bk:St->Hp->Prop:=λ_ _=>False
 ct:St->Hp->Prop:=λ_ _=>False
abbrev TS:=yY->St->Hp->Prop
def EP(X:Cx)(pins:List (TM×Obj))(σ:St)(Q:VK)(u:TL)(s':TQ):Prop:=∃v H',aM X pins σ H' s'/\bY v u/\Q v H'
def TP(X:Cx)(pins:List (TM×Obj))(σ:St)(Q:Bool->Hp->Prop)(b:Bool)(s':TQ):Prop:=∃H',aM X pins σ H' s'/\Q b H'
def AP(X:Cx)(pins:List (TM×Obj))(σ:St)(Q:List V->Hp->Prop)(us:List TL)(s':TQ):Prop:=∃vs H',aM X pins σ H' s'/\bc vs us/\Q vs H'
def SP(X:Cx)(pins:List (TM×Obj))(D:yY)(f:Flow)(s':TQ):Prop:=match f with|.next=>∃σ' H',aM X pins σ' H' s'/\D.nx σ' H'|.brk=>∃σ' H',aM X pins σ' H' s'/\D.bk σ' H'|.cont=>∃σ' H',aM X pins σ' H' s'/\D.ct σ' H'|.ret u=>∃v σ' H',aM X pins σ' H' s'/\bY v u/\D.rt v H'
def PE(X:Cx)(e:TU)(t:TE):Prop:=∀(pins:List (TM×Obj)) (s:TQ) (σ:St) (H:Hp) (Q:VK),aM X pins σ H s->t σ H Q->TY (TZ X.prog X.w) X.A (Ui e X.env) (EP X pins σ Q) X.xe s
def PT(X:Cx)(e:TU)(t:TT):Prop:=∀(pins:List (TM×Obj)) (s:TQ) (σ:St) (H:Hp) (Q:Bool->Hp->Prop),aM X pins σ H s->t σ H Q->TY (TZ X.prog X.w) X.A (isTrue e X.env (Ui e X.env)) (TP X pins σ Q) X.xe s
def PW(X:Cx)(e:TU)(t:TT):Prop:=∀(whole:Sem TL) (pins:List (TM×Obj)) (s:TQ) (σ:St) (H:Hp) (Q:Bool->Hp->Prop),aM X pins σ H s->t σ H Q->TY (TZ X.prog X.w) X.A (isTrue e X.env whole) (TP X pins σ Q) X.xe s
theorem PW.pt{X:Cx}{e:TU}{t:TT}(h:PW X e t):PT X e t:=h _
def PA(X:Cx)(es:List TU)(t:TA):Prop:=∀(pos:Pos) (pins:List (TM×Obj)) (s:TQ) (σ:St) (H:Hp) (Q:List V->Hp->Prop),aM X pins σ H s->t σ H Q->TY (TZ X.prog X.w) X.A (spliced (UD pos (Ue es X.env))) (AP X pins σ Q) X.xe s
def PS(X:Cx)(st:Ub)(t:TS):Prop:=∀(pins:List (TM×Obj)) (s:TQ) (σ:St) (H:Hp) (D:yY),aM X pins σ H s->t D σ H->TY (TZ X.prog X.w) X.A (exec st X.env) (SP X pins D) X.xe s
def sk(X:Cx)(st:List Ub)(t:TS):Prop:=∀(pins:List (TM×Obj)) (s:TQ) (σ:St) (H:Hp) (D:yY),aM X pins σ H s->t D σ H->TY (TZ X.prog X.w) X.A (execs st X.env) (SP X pins D) X.xe s
theorem dn{α:Type}{t:Sem α}{Q Q':α->TQ->Prop}{M:Model}{A:Ud}{E:TL->TQ->Prop}{s:TQ}(h:TY M A t Q E s)(hQ:∀a s,Q a s->Q' a s):TY M A t Q' E s:=UE h hQ λ_ _ x=>x
section
variable{X:Cx}
def Nn(i:Nat):TE:=λσ H Q=>∃v,σ[i]?=some (some v)/\Q v H
def tC(v:V):TE:=λ_ H Q=>Q v H
theorem qM{i:Nat}{x:Str}{pos:Pos}(hN:X.N[i]?=some x)(hv:G6 X.env.scope x)(hd:(x==("__debug__":Str))=false:=by decide)(hcd:(x==("__classdict__":Str))=false:=by decide):PE X (.Name x pos) (Nn i):=by
 intro pins s σ H Q I h;obtain⟨v,e,h⟩:=h;obtain⟨m,hn,hl⟩:=I.loc;obtain⟨u,r,l⟩:=hl i x v hN e hv;have fin:EP X pins σ Q u s:=⟨v,H,I,r,h⟩;rcases l with⟨hk,hm⟩|⟨hk,c,hc,hcell⟩;·exact wpAny_Name (wpAny_loadName_local I.ok.kind hk hn hm fin) hd
 ·rcases hk with hk|hk;·exact wpAny_Name (wpAny_loadName_cell I.ok.kind hk hc hcell fin) hd
  ·exact wpAny_Name (wpAny_loadName_free I.ok.kind hk hc hcell fin hcd) hd
theorem Fu{i j pos}:PE X (.Constant (.int i) j pos) (tC (.int i)):=λ_ _ _ H _ I h=>wpAny_Constant_int ⟨.int i,H,I.tok _,⟨_,rfl⟩,h⟩
theorem MQ{b j pos}:PE X (.Constant (.bool b) j pos) (tC (.bl b)):=λ_ _ _ H _ I h=>Constant_bool ⟨.bl b,H,I,rfl,h⟩
def Gl(X:Cx)(x:Str):Prop:=X.env.kindOf x=some .globalImplicit
theorem Cc{E:TL->TQ->Prop}{pins:List (TM×Obj)}{s:TQ}{σ:St}{H:Hp}{x:Str}{u:TL}{pos:Pos}{Q:TL->TQ->Prop}(I:aM X pins σ H s)(hg:Gl X x)(hm:X.mg x=some u)(h:Q u s)(hd:(x==("__debug__":Str))=false:=by decide):TY (TZ X.prog X.w) X.A (Ui (.Name x pos) X.env) Q E s:=Calls.Name_function_global I.ok.kind hg (Calls.loadGlobal_global (by rw[I.ok.glob];exact I.mod.glob.keeps I.bk) hm h) hd
theorem mI{E:TL->TQ->Prop}{pins:List (TM×Obj)}{s:TQ}{σ:St}{H:Hp}{x:Str}{u:TL}{pos:Pos}{Q:TL->TQ->Prop}(I:aM X pins σ H s)(hg:Gl X x)(hm:X.mg x=none)(hv:Vu x=some u)(h:Q u s)(hn:x≠"__name__":=by decide)(hd:(x==("__debug__":Str))=false:=by decide):TY (TZ X.prog X.w) X.A (Ui (.Name x pos) X.env) Q E s:=by obtain⟨mb,h1,h2⟩:=I.mod.blt;exact Calls.Name_function_global I.ok.kind hg (Calls.loadGlobal_builtin (by rw[I.ok.glob];exact I.mod.glob.keeps I.bk) hm (by rw[I.ok.blt];exact h1.keeps I.bk) ((h2 x hn).trans hv) h) hd
theorem Iq{x:Str}{v:V}{u:TL}{pos:Pos}(hg:Gl X x)(hm:X.mg x=some u)(r:bY v u)(hd:(x==("__debug__":Str))=false:=by decide):PE X (.Name x pos) (tC v):=λ_ _ _ H _ I h=>Cc I hg hm ⟨v,H,I,r,h⟩ hd
variable{a b:TU}{ta tb:TE}{pos:Pos}
def tB(t:TE):TT:=λσ H Q=>t σ H λx H1=>∃c,x=.bl c/\Q c H1
theorem Lr{e:TU}{t:TE}(h:PE X e t)(he:∀whole,isTrue e X.env whole=(do let v<-whole;Wh e.pos;VR [v] (truthy v)):=by intro _;rfl):PT X e (tB t):=by intro pins s σ H Q I hw;refine isTrue_plain (dn (h pins s σ H _ I hw) λv s1⟨x,H1,I1,r1,q1⟩=>?_) (he _);obtain⟨d,rfl,q⟩:=q1;cases r1;exact Xz ⟨H1,I1,q⟩
variable{tA tB':TT}{iL:List TU}
def Na(t u:TT):TT:=λσ H Q=>t σ H λc H1=>if c=true then u σ H1 Q else Q false H1
def OG(t u:TT):TT:=λσ H Q=>t σ H λc H1=>if c=true then Q true H1 else u σ H1 Q
def Nh(t:TT):TT:=λσ H Q=>t σ H λc H1=>Q (!c) H1
theorem IL(ha:PT X a tA):PW X (.BoolOp .And [a] pos) tA:=by intro wh pins s σ H Q I h;refine isTrue_and (dn (ha pins s σ H Q I h) λc s1 e=>?_);cases c with|true=>exact isTrue_and_nil e|false=>exact e
theorem Lu(ha:PT X a tA):PW X (.BoolOp .Or [a] pos) tA:=by intro wh pins s σ H Q I h;refine isTrue_or (dn (ha pins s σ H Q I h) λc s1 e=>?_);cases c with|false=>exact isTrue_or_nil e|true=>exact e
theorem Ls(ha:PT X a tA)(hb:PW X (.BoolOp .And (b::iL) pos) tB'):PW X (.BoolOp .And (a::b::iL) pos) (Na tA tB'):=by intro wh pins s σ H Q I h;refine isTrue_and (dn (ha pins s σ H _ I h) λc s1⟨H1,I1,q1⟩=>?_);cases c with|true=>exact hb wh pins s1 σ H1 Q I1 q1|false=>exact⟨H1,I1,q1⟩
theorem MV(ha:PT X a tA)(hb:PW X (.BoolOp .Or (b::iL) pos) tB'):PW X (.BoolOp .Or (a::b::iL) pos) (OG tA tB'):=by intro wh pins s σ H Q I h;refine isTrue_or (dn (ha pins s σ H _ I h) λc s1⟨H1,I1,q1⟩=>?_);cases c with|true=>exact⟨H1,I1,q1⟩|false=>exact hb wh pins s1 σ H1 Q I1 q1
theorem Lq(ha:PT X a tA):PT X (.UnaryOp .Not a pos) (Nh tA):=by intro pins s σ H Q I h;exact isTrue_not (ha pins s σ H (λc H1=>Q (!c) H1) I h)
def Nb(ta tb:TE):TE:=λσ H Q=>ta σ H λx H1=>∃c,x=.bl c/\if c=true then tb σ H1 Q else Q (.bl false) H1
def Ni(ta:TE):TE:=λσ H Q=>ta σ H λx H1=>∃c,x=.bl c/\Q (.bl (!c)) H1
theorem Li{op}{t:TE}(h:PE X a t):PE X (.BoolOp op [a] pos) t:=λpins s σ H Q I hw=>BoolOp_one (h pins s σ H Q I hw)
theorem Lg(ha:PE X a ta)(hb:PE X (.BoolOp .And (b::iL) pos) tb):PE X (.BoolOp .And (a::b::iL) pos) (Nb ta tb):=by intro pins s σ H Q I h;refine BoolOp_and (dn (ha pins s σ H _ I h) λv s1⟨x,H1,I1,r1,q1⟩=>?_);obtain⟨c,rfl,q1⟩:=q1;cases r1;refine Xz ?_;cases c with|true=>exact hb pins s1 σ H1 Q I1 q1|false=>exact⟨.bl false,H1,I1,rfl,q1⟩
theorem Lh(ha:PE X a ta):PE X (.UnaryOp .Not a pos) (Ni ta):=by intro pins s σ H Q I h;refine UnaryOp_ (dn (ha pins s σ H _ I h) λv s1⟨x,H1,I1,r1,q1⟩=>?_);obtain⟨c,rfl,q1⟩:=q1;cases r1;exact not_of (Xz ⟨.bl (!c),H1,I1,rfl,q1⟩)
def O1(t:TT)(ta tb:TE):TE:=λσ H Q=>t σ H λc H1=>if c=true then ta σ H1 Q else tb σ H1 Q
theorem Ft{c:TU}(hc:PT X c tA)(ha:PE X a ta)(hb:PE X b tb):PE X (.IfExp c a b pos) (O1 tA ta tb):=by intro pins s σ H Q I h;refine wpAny_IfExp (dn (hc pins s σ H _ I h) λd s1⟨H1,I1,q1⟩=>?_);cases d with|true=>exact ha pins s1 σ H1 Q I1 q1|false=>exact hb pins s1 σ H1 Q I1 q1
end
def jU(K:⇑0)(H:Hp)(a:TM)(xs:List V):Prop:=Rd H a (.lst xs)\/∃(o:Obj) (its:Array TL) (n:Nat),K.lookup a=some o/\o.cls=.type "list"/\o.dict=none/\o.data=.seq its n/\its.size<=Uj/\bc xs its.toList
def fj(K:⇑0)(H:Hp)(a:TM)(xs:List V):Prop:=Rd H a (.tup xs)\/∃(o:Obj) (its:Array TL) (n:Nat),K.lookup a=some o/\o.cls=.type "tuple"/\o.dict=none/\o.data=.seq its n/\its.size<=Uj/\bc xs its.toList
def NX:TL->Option V|.none=>some .non|.bool b=>some (.bl b)|.int i _=>some (.int i)|.str x _=>some (.str x)|.bytes b _=>some (.byt b)|.float b _=>some (.flt b)|.ref a=>some (.ref a)|.type n=>some (.ty n)|_=>none
theorem bY.abs{x:V}{u:TL}(r:bY x u):NX u=some x:=by cases x with|non=>cases r;rfl|bl _=>cases r;rfl|int _=>obtain⟨t,rfl⟩:=r;rfl|str _=>obtain⟨t,rfl⟩:=r;rfl|byt _=>obtain⟨t,rfl⟩:=r;rfl|flt _=>obtain⟨t,rfl⟩:=r;rfl|ref _=>cases r;rfl|ty _=>cases r;rfl
theorem bY.inj{x y:V}{u:TL}(r:bY x u)(q:bY y u):x=y:=UH (r.abs.symm.trans q.abs)
theorem bc.inj:∀{xs ys:List V}{us:List TL},bc xs us->bc ys us->xs=ys|_,_,_,.nil,.nil=>rfl|_,_,_,.cons r t,.cons r' t'=>by rw[r.inj r',bc.inj t t']
section
variable{X:Cx}{pins:List (TM×Obj)}{σ:St}{H:Hp}{s:TQ}{a:TM}{xs ys:List V}
theorem jU.of{K:⇑0}(h:H a=some (.lst xs)):jU K H a xs:=.inl (.inl h)
theorem fj.of{K:⇑0}(h:H a=some (.tup xs)):fj K H a xs:=.inl (.inl h)
theorem aM.list(I:aM X pins σ H s)(h:jU X.K H a xs):∃its:List TL,bc xs its/\PlainL s.heap a its.toArray/\xs.length<=Uj:=by
 rcases h with h|⟨o,its,n,hk,hc,hd,hs,hz,r⟩;·obtain⟨z,its,n,r,e⟩:=h.ok I.hok;exact⟨its,r,⟨_,n,e,rfl,rfl,rfl⟩,z⟩
 ·refine⟨its.toList,r,⟨o,n,I.kIn a o hk,hc,hd,by simpa using hs⟩,?_⟩;have e:=r.length;simp only[YF]at e;lia
theorem aM.tuple(I:aM X pins σ H s)(h:fj X.K H a xs):∃its:List TL,bc xs its/\IsTup s.heap a its.toArray/\xs.length<=Uj:=by
 rcases h with h|⟨o,its,n,hk,hc,_,hs,hz,r⟩;·obtain⟨z,its,r,p⟩:=h.ok I.hok;exact⟨its,r,p.tup,z⟩
 ·refine⟨its.toList,r,⟨o,I.kIn a o hk,hc,n,by simpa using hs⟩,?_⟩;have e:=r.length;simp only[YF]at e;lia
theorem aM.list_inj(I:aM X pins σ H s)(h:jU X.K H a xs)(h':jU X.K H a ys):xs=ys:=by
 obtain⟨its,r,⟨o,n,e,_,_,d⟩,_⟩:=I.list h;obtain⟨its',r',⟨o',n',e',_,_,d'⟩,_⟩:=I.list h';rw[e]at e';cases e';rw[d]at d';injection d' with d1 _;have:its=its':=by simpa using congrArg Array.toList d1
 subst this;exact r.inj r'
theorem aM.tuple_inj(I:aM X pins σ H s)(h:fj X.K H a xs)(h':fj X.K H a ys):xs=ys:=by
 obtain⟨its,r,⟨o,e,_,n,d⟩,_⟩:=I.tuple h;obtain⟨its',r',⟨o',e',_,n',d'⟩,_⟩:=I.tuple h';rw[e]at e';cases e';rw[d]at d';injection d' with d1 _;have:its=its':=by simpa using congrArg Array.toList d1
 subst this;exact r.inj r'
end
abbrev Cx.wish(X:Cx)(E:TL->TQ->Prop):Cx:={X with xe:=E}
abbrev Cx.nox(X:Cx):Cx:=X.wish λ_ _=>False
theorem Cx.Ok.wish{X:Cx}(ok:X.Ok)(E:TL->TQ->Prop):(X.wish E).Ok:=⟨ok.mod,ok.kind,ok.glob,ok.blt,ok.above,ok.inj,ok.has,ok.cab,ok.hd,ok.frames,ok.stk,ok.exf,ok.bs,ok.bsz,ok.noex,ok.exfs,ok.funs,ok.frf⟩
theorem Cx.Ok.unwish{X:Cx}{E:TL->TQ->Prop}(ok:(X.wish E).Ok):X.Ok:=⟨ok.mod,ok.kind,ok.glob,ok.blt,ok.above,ok.inj,ok.has,ok.cab,ok.hd,ok.frames,ok.stk,ok.exf,ok.bs,ok.bsz,ok.noex,ok.exfs,ok.funs,ok.frf⟩
section
variable{X:Cx}{pins:List (TM×Obj)}{σ:St}{H:Hp}{s:TQ}{E:TL->TQ->Prop}
theorem aM.wish(I:aM X pins σ H s)(E:TL->TQ->Prop):aM (X.wish E) pins σ H s:=⟨I.ok.wish E,I.os,I.bare,I.base,I.loc,I.cell,I.free,I.freeC,I.pin,I.hok,I.len⟩
theorem aM.unwish(I:aM (X.wish E) pins σ H s):aM X pins σ H s:=⟨I.ok.unwish,I.os,I.bare,I.base,I.loc,I.cell,I.free,I.freeC,I.pin,I.hok,I.len⟩
theorem SP.unwish{D:yY}{f:Flow}{s':TQ}(h:SP (X.wish E) pins D f s'):SP X pins D f s':=by cases f with|next=>obtain⟨σ',H',I,q⟩:=h;exact⟨σ',H',I.unwish,q⟩|brk=>obtain⟨σ',H',I,q⟩:=h;exact⟨σ',H',I.unwish,q⟩|cont=>obtain⟨σ',H',I,q⟩:=h;exact⟨σ',H',I.unwish,q⟩|ret u=>obtain⟨v,σ',H',I,r,q⟩:=h;exact⟨v,σ',H',I.unwish,r,q⟩
theorem sk.nox{st:List Ub}{t:TS}(h:sk X.nox st t):sk X st t:=λpins s σ H D I hw=>UE (h pins s σ H D (I.wish _) hw) (λ_ _ q=>q.unwish) λ_ _ z=>VX z
end
section
variable{X:Cx}{st:Ub}{iL:List Ub}{t u:TS}{e:TU}{te:TE}{pos:Pos}
def Ng:TS:=λD σ H=>D.nx σ H
def Ou(t u:TS):TS:=λD σ H=>t {D with nx:=u D} σ H
theorem IG:sk X [] Ng:=λ_ _ σ H _ I h=>Ye ⟨σ,H,I,h⟩
theorem FN(h1:PS X st t)(h2:sk X iL u):sk X (st::iL) (Ou t u):=by intro pins s σ H D I h;refine wpAny_execs_cons (dn (h1 pins s σ H {D with nx:=u D} I h) λf s1 q=>?_);cases f with|next=>obtain⟨σ',H',I',q⟩:=q;exact h2 pins s1 σ' H' D I' q|ret v=>exact q|brk=>exact q|cont=>exact q
theorem IH(h1:PS X st t):sk X [st] t:=by intro pins s σ H D I h;refine wpAny_execs_cons (dn (h1 pins s σ H D I h) λf s1 q=>?_);cases f with|next=>exact Ye q|ret v=>exact q|brk=>exact q|cont=>exact q
theorem aM.quiet{pins:List (TM×Obj)}{σ:St}{H:Hp}{s:TQ}(I:aM X pins σ H s):interactive X.env=false:=by simp[interactive,I.ok.kind]
def Nc(te:TE):TS:=λD σ H=>te σ H λ_ H1=>D.nx σ H1
theorem IF(he:PE X e te)(hs:Ws e none pos.line X.env=pure false:=by rfl):PS X (.Expr e pos) (Nc te):=by intro pins s σ H D I h;exact wpAny_Expr_any (dn (he pins s σ H _ I h) λv s1⟨x,H1,I1,r1,q1⟩=>⟨σ,H1,I1,q1⟩) I.quiet hs
def Ot(te:TE):TS:=λD σ H=>te σ H D.rt
theorem Lp(he:PE X e te):PS X (.Return (some e) pos) (Ot te):=by intro pins s σ H D I h;exact wpAny_Return_some (dn (he pins s σ H _ I h) λv s1⟨x,H1,I1,r1,q1⟩=>⟨x,σ,H1,I1,r1,q1⟩)
def On(c:TT)(t u:TS):TS:=λD σ H=>c σ H λb H1=>if b=true then t D σ H1 else u D σ H1
theorem MT{c:TU}{a b:List Ub}{tc:TT}(hc:PT X c tc)(ha:sk X a t)(hb:sk X b u):PS X (.If c a b pos) (On tc t u):=by intro pins s σ H D I h;refine wpAny_If (dn (hc pins s σ H _ I h) λd s1⟨H1,I1,q1⟩=>?_);cases d with|true=>exact ha pins s1 σ H1 D I1 q1|false=>exact hb pins s1 σ H1 D I1 q1
end
abbrev TG:=V->St->Hp->(St->Hp->Prop)->Prop
abbrev G5:=List V->St->Hp->(St->Hp->Prop)->Prop
def PG(X:Cx)(target:TU)(t:TG):Prop:=∀(pins:List (TM×Obj)) (s:TQ) (σ:St) (H:Hp) (v:V) (u:TL) (Q:St->Hp->Prop),aM X pins σ H s->bY v u->t v σ H Q->TY (TZ X.prog X.w) X.A (Vr target X.env u) (λ_ s'=>∃σ' H',aM X pins σ' H' s'/\Q σ' H') X.xe s
def DR(X:Cx)(ts:List TU)(t:G5):Prop:=∀(pins:List (TM×Obj)) (s:TQ) (σ:St) (H:Hp) (vs:List V) (us:List TL) (Q:St->Hp->Prop),aM X pins σ H s->bc vs us->t vs σ H Q->TY (TZ X.prog X.w) X.A (assignInOrder ((Vv ts X.env).map (·.2)) us) (λ_ s'=>∃σ' H',aM X pins σ' H' s'/\Q σ' H') X.xe s
abbrev Kj:=V->V->V->Hp->(Hp->Prop)->Prop
def Mb(X:Cx)(t:Kj):Prop:=∀(pins:List (TM×Obj)) (s:TQ) (σ:St) (H:Hp) (o i v:V) (ov iv u:TL) (Q:Hp->Prop),aM X pins σ H s->bY o ov->bY i iv->bY v u->t o i v H Q->TY (TZ X.prog X.w) X.A (setItem ov iv u) (λ_ s'=>∃H',aM X pins σ H' s'/\Q H') X.xe s
section
variable{X:Cx}{pos:Pos}
def BZ(i:Nat):TG:=λv σ H Q=>Q (σ.set i (some v)) H
theorem Iu{i:Nat}{x:Str}(hN:X.N.Nodup)(hi:X.N[i]?=some x)(hx:Kg X.env.scope x)(hf:X.fn x=true\/X.env.scope.names.lookup x=some .local:=by first|exact .inl rfl|exact .inr rfl|assumption):PG X (.Name x pos) (BZ i):=by intro pins s σ H v u Q I r h;exact wpAny_assign_Name (qh I hN hi hx r (λs' I'=>⟨_,H,I',h⟩) hf)
def N1:G5:=λvs σ H Q=>vs=[]/\Q σ H
def Mn(t:TG)(u:G5):G5:=λvs σ H Q=>∃v r,vs=v::r/\t v σ H λσ' H'=>u r σ' H' Q
theorem Iy:DR X [] N1:=by intro pins s σ H vs us Q I r h;obtain⟨e,h⟩:=h;subst e;cases r;exact assignInOrder_nil ⟨σ,H,I,h⟩
theorem Fz{e:TU}{es:List TU}{t:TG}{u:G5}(h1:PG X e t)(h2:DR X es u)(hs:(Vv (e::es) X.env).map (·.2)=Vr e X.env::(Vv es X.env).map (·.2):=by rfl):DR X (e::es) (Mn t u):=by intro pins s σ H vs us Q I r h;obtain⟨v,vr,e1,h⟩:=h;subst e1;cases r with|cons r rr=>rw[hs];refine assignInOrder_cons (dn (h1 pins s σ H _ _ _ I r h) λ_ s1⟨σ1,H1,I1,q1⟩=>?_);exact h2 pins s1 σ1 H1 _ _ Q I1 rr q1
def Hw(K:⇑0)(n:Nat)(t:G5):TG:=λv σ H Q=>∃a xs,v=.ref a/\fj K H a xs/\xs.length=n/\t xs σ H Q
theorem Lk{es:List TU}{k:Nat}{t:G5}{n:Nat}(hc:X.calm=true)(h:DR X es t)(hn:(Vv es X.env).length=n:=by rfl)(hst:(Vv es X.env).findIdx? (·.1)=none:=by rfl):PG X (.Tuple es k pos) (Hw X.K n t):=by intro pins s σ H v u Q I r hw;obtain⟨a,xs,e1,hq,hl,hw⟩:=hw;subst e1;cases r;obtain⟨its,rv,ht,hz⟩:=I.tuple hq;refine assign_Tuple_tuple (I.ok.hd hc) ht (by simp[hn,<-hl,rv.length]) hst λh' hx=>?_;have I1:aM X pins σ H {s with heap:=h'}:=I.kept (t':=s.toks) λb o e=>hx b o (Vf (Up e)) e;exact h pins _ σ H xs _ Q I1 (by simpa using rv) hw
def N3(to ti:TE)(t:Kj):TG:=λv σ H Q=>to σ H λo H1=>ti σ H1 λi H2=>t o i v H2 λH3=>Q σ H3
theorem Fy{o i:TU}{to ti:TE}{t:Kj}(ho:PE X o to)(hi:PE X i ti)(hs:Mb X t)(ha:∀v,Vr (.Subscript o i pos) X.env v=(do
 let ov<-VR [v] (Ui o X.env)let iv<-VR [v,ov] (Ui i X.env)Wh pos
 VR [v,ov,iv] (setItem ov iv v)release [v,ov,iv] []):=by intro _;rfl):PG X (.Subscript o i pos) (N3 to ti t):=by intro pins s σ H v u Q I r h;rw[ha];refine TV (WL (dn (ho pins s σ H _ I h) λov s1⟨x,H1,I1,r1,q1⟩=>?_));refine TV (WL (dn (hi pins s1 σ H1 _ I1 q1) λiv s2⟨y,H2,I2,r2,q2⟩=>?_));refine TV (Wi (TV (WL (dn (hs pins s2 σ H2 x y v ov iv u _ I2 r1 r2 r q2) λ_ s3⟨H3,I3,q3⟩=>?_))));exact wpAny_release ⟨σ,H3,I3,q3⟩
def Jb(te:TE)(g:TG):TS:=λD σ H=>te σ H λx H1=>g x σ H1 D.nx
theorem Bm{tg e:TU}{te:TE}{g:TG}(he:PE X e te)(hg:PG X tg g)(hs:Xg [tg] e pos.line X.env=pure false:=by rfl)(hw:Xh [tg] e X.env=pure none:=by rfl)(h1:(Vv [tg] X.env).map (·.2)=[Vr tg X.env]:=by rfl):PS X (.Assign [tg] e pos) (Jb te g):=by intro pins s σ H D I h;refine wpAny_Assign_stores (dn (he pins s σ H _ I h) λv s1⟨x,H1,I1,r1,q1⟩=>?_) hs hw;rw[h1];exact dn (hg pins s1 σ H1 x v _ I1 r1 q1) λ_ s2 q=>q
theorem FK{i:Nat}{x:Str}{e:TU}{te:TE}{pos':Pos}(hN:X.N.Nodup)(hi:X.N[i]?=some x)(hx:Kg X.env.scope x)(he:PE X e te)(hs:Ws e (some (.Name x pos')) pos.line X.env=pure false:=by rfl)(hf:X.fn x=true\/X.env.scope.names.lookup x=some .local:=by first|exact .inl rfl|exact .inr rfl|assumption):PS X (.Assign [.Name x pos'] e pos) (Jb te (BZ i)):=by intro pins s σ H D I h;refine wpAny_Assign_Name (dn (he pins s σ H _ I h) λv s1⟨y,H1,I1,r1,q1⟩=>?_) hs;exact qh I1 hN hi hx r1 (λs2 I2=>⟨_,H1,I2,q1⟩) hf
def Os(i j:Nat)(ta:TA):TS:=λD σ H=>ta σ H λvs H1=>∃v w,vs=[v,w]/\D.nx ((σ.set i (some v)).set j (some w)) H1
theorem Lo{i j:Nat}{x y:Str}{a b:TU}{ta:TA}{px py pt:Pos}{kt k2 pt2}(hc:X.calm=true)(hN:X.N.Nodup)(hi:X.N[i]?=some x)(hj:X.N[j]?=some y)(hij:i≠j)(hx:X.env.scope.names.lookup x=some .local)(hy:X.env.scope.names.lookup y=some .local)(ha:PA X [a,b] ta)(hw:Xh [.Tuple [.Name x px,.Name y py] kt pt] (.Tuple [a,b] k2 pt2) X.env=pure (some [x,y]))(hs:Xg [.Tuple [.Name x px,.Name y py] kt pt] (.Tuple [a,b] k2 pt2) pos.line X.env=pure false:=by rfl):PS X (.Assign [.Tuple [.Name x px,.Name y py] kt pt] (.Tuple [a,b] k2 pt2) pos) (Os i j ta):=by
 intro pins s σ H D I h;rw[exec_Assign_arm];refine TV (Wi ?_);rw[hs];refine TV (Uh ?_);rw[if_neg ⋯];refine TV (Tuple_ (dn (ha _ pins s σ H _ I h) λus s1⟨vs,H1,I1,r1,q1⟩=>?_));obtain⟨v,w,e1,q1⟩:=q1;subst e1;obtain⟨u1,u2,rfl,rv,rw'⟩:∃u1 u2,us=[u1,u2]/\bY v u1/\bY w u2:=by cases r1 with|cons p q=>cases q with|cons p' q'=>cases q';exact⟨_,_,rfl,p,p'⟩
 refine VY ?_ (by show 2<=Uj;decide);have I2:aM X pins σ H1 {s1 with heap:=s1.heap.push {cls:=.type "tuple",data:=.seq [u1,u2].toArray}}:=I1.kept (t':=s1.toks) λb o e=>UC _ e;rw[hw];refine TV (Uh ?_);show TY (TZ X.prog X.w) X.A (do rule "assign.swapped-stores";let items<-unpackItems (.ref ↑s1) 2 none;assignInOrder [λv=>bindName X.env y v,λv=>bindName X.env x v] items.reverse;pure Flow.next) _ _ _;refine TV (WC (TV (unpackItems_tuple (items:=#[u1,u2]) (I.ok.hd hc) (IsTup.new s1.heap _) λh' hx'=>?_)));have I3:=I2.kept (h':=h') (t':=s1.toks) λb o e=>hx' b o (Vf (Up e)) e;show TY _ _ (assignInOrder [λv=>bindName X.env y v,λv=>bindName X.env x v] [u2,u1]>>=λ_=>pure Flow.next) _ _ _;refine TV (assignInOrder_cons (wpAny_bindName (qh I3 hN hj (.inl hy) rw' (λs2 I4=>?_) (.inr hy))));refine assignInOrder_cons (wpAny_bindName (qh I4 hN hi (.inl hx) rv (λs3 I5=>assignInOrder_nil (Uh ?_)) (.inr hx)));rw[List.set_comm _ _ (UQ hij)]at I5;exact⟨_,H1,I5,q1⟩
end
section
variable{X:Cx}{pos:Pos}
def LS(c:TT)(tb:TS):TS:=λD σ H=>∃W:Nat->St->Hp->Prop,(∃m,W m σ H)/\∀m σ H,W m σ H->c σ H λb H1=>if b=true then∃N:St->Hp->Prop,(∀σ' H',N σ' H'->∃m',m'<m/\W m' σ' H')/\tb {D with nx:=N,ct:=N,bk:=D.nx} σ H1 else D.nx σ H1
theorem FL{c:TU}{body:List Ub}{tc:TT}{tb:TS}(hp:PassesOwn (TZ X.prog X.w) X.A X.env X.xe)(hc:PT X c tc)(hb:sk X body tb):PS X (.While c body [] pos) (LS tc tb):=by intro pins s σ H D I h;obtain⟨W,⟨m0,w0⟩,turn⟩:=h;refine wpAny_While (codeAny_whileLoop (λn s'=>∃σ' H',aM X pins σ' H' s'/\W n σ' H') ?_ m0 ⟨σ,H,I,w0⟩);rintro n s1⟨σ1,H1,I1,w1⟩;refine WM hp (dn (hc pins s1 σ1 H1 _ I1 (turn n σ1 H1 w1)) λb s2⟨H2,I2,q2⟩=>?_);cases b with
 |true=>obtain⟨N,hN,q2⟩:=q2;rw[if_pos rfl];refine WM hp (dn (hb pins s2 σ1 H2 _ I2 q2) λf s3 q3=>?_);cases f with|next=>obtain⟨σ3,H3,I3,n3⟩:=q3;obtain⟨m',hm,w3⟩:=hN σ3 H3 n3;exact⟨m',hm,σ3,H3,I3,w3⟩|cont=>obtain⟨σ3,H3,I3,n3⟩:=q3;obtain⟨m',hm,w3⟩:=hN σ3 H3 n3;exact⟨m',hm,σ3,H3,I3,w3⟩|brk=>exact q3|ret v=>exact q3
 |false=>rw[if_neg Vw];exact Ye ⟨σ1,H2,I2,q2⟩
end
structure It where
 go:Nat->Hp->Prop
 yld:Nat->Hp->V->Hp->Prop
 stop:Nat->Hp->Prop
def jS(X:Cx)(pins:List (TM×Obj))(H:Hp)(b:TM):Prop:=H b=none/\b≠X.env.locals/\b∉X.fs/\(b∈X.ex\/X.s₀.heap.objs.size<=b)/\(∀x c,X.env.cells.lookup x=some c->c≠b)/\∀p∈X.pn++pins,p.1≠b
theorem aM.fpOk{X:Cx}{pins:List (TM×Obj)}{σ:St}{H H':Hp}{s:TQ}{b:TM}(I:aM X pins σ H s)(hb:↑s<=b)(hn:H' b=none):jS X pins H' b:=by
 refine⟨hn,Nat.ne_of_gt (UU I.lt hb),I.nofs hb,.inr (UN I.sz hb),λx c e z=>?_,λp hp z=>?_⟩;·obtain⟨v,q⟩:=I.cell x c e;exact absurd (UU q.lt (by rw[z];exact hb)) (VV _)
 ·exact absurd (UU (Up (I.pin p hp).1) (by rw[z];exact hb)) (VV _)
structure AL (P:Uc) (w:TX) (K:⇑0) (tg:TU) (J:It) (fp:List TM) (it:TM) (tn:Nat->Ua->Prop):Prop where
 mem:it∈fp
 obj:∀i h,tn i h->∀b∈fp,∃o,h.get? b=some o/\∀v,o.data≠.cell v
 keep:∀i h h',tn i h->(∀b∈fp,∀o,h.get? b=some o->h'.get? b=some o)->tn i h'
 item:∀(X:Cx),X.prog=P->X.w=w->X.K=K->X.calm=true->∀(i:Nat) (pins:List (TM×Obj)) (s:TQ) (σ:St) (H:Hp) (E:TL->TQ->Prop),aM X pins σ H s->(∀b∈fp,jS X pins H b)->tn i s.heap->J.go i H->TY (TZ P w) X.A (VM (.ref it)) (λr s1=>∃u,r=some u/\TY (TZ P w) X.A (WN tg (.ref it) u) (λ_ s2=>∃x H',aM X pins σ H' s2/\bY x u/\J.yld i H x H'/\tn (i+1) s2.heap/\∀b∈fp,H' b=none) E s1) E s
 done:∀(X:Cx),X.prog=P->X.w=w->X.K=K->X.calm=true->∀(i:Nat) (pins:List (TM×Obj)) (s:TQ) (σ:St) (H:Hp) (E:TL->TQ->Prop),aM X pins σ H s->(∀b∈fp,jS X pins H b)->tn i s.heap->J.stop i H->TY (TZ P w) X.A (VM (.ref it)) (λr s1=>r=none/\aM X pins σ H s1) E s
 self:∀(A:Ud) (i:Nat) (s:TQ) (Q:TL->TQ->Prop) (E:TL->TQ->Prop),tn i s.heap->Q (.ref it) s->TY (TZ P w) A (pyIter (.ref it)) Q E s
abbrev TI:=St->Hp->(It->Hp->Prop)->Prop
def Oy(X:Cx)(pins:List (TM×Obj))(σ:St)(tg:TU)(R:It->Hp->Prop)(itv:TL)(s2:TQ):Prop:=∃(it:TM) (fp:List TM) (tn:Nat->Ua->Prop) (J:It) (H':Hp),itv=.ref it/\aM X pins σ H' s2/\AL X.prog X.w X.K tg J fp it tn/\tn 0 s2.heap/\(∀b∈fp,jS X pins H' b)/\R J H'
def PI(X:Cx)(tg iter:TU)(wi:TI):Prop:=∀(pins:List (TM×Obj)) (s:TQ) (σ:St) (H:Hp) (R:It->Hp->Prop),aM X pins σ H s->wi σ H R->TY (TZ X.prog X.w) X.A (Ui iter X.env) (λv s1=>TY (TZ X.prog X.w) X.A (pyIter v) (Oy X pins σ tg R) X.xe s1) X.xe s
theorem B0{M:Model}{A:Ud}{E:TL->TQ->Prop}{s:TQ}{tg:TU}{it:TM}{u:TL}{o:Obj}{n:String}{vs:Array TL}{Q:Unit->TQ->Prop}(ho:s.heap.get? it=some o)(hc:o.cls=.type n)(hd:o.data=.fields vs)(hn:["enumerate","zip","dict_itemiterator","dict_reverseitemiterator","odict_iterator","itertools.zip_longest","itertools.pairwise"].contains n=false)(hQ:Q () s):TY M A (WN tg (.ref it) u) Q E s:=by unfold WN;cases tg<;>first|exact Uh hQ|(cases u<;>first|exact Uh hQ| (refine TV (wpAny_load ho ?_);rw[hc,hd];show TY M A (if (["enumerate","zip","dict_itemiterator","dict_reverseitemiterator","odict_iterator","itertools.zip_longest","itertools.pairwise"].contains n&&vs[0]?==some (UZ _))=true then _ else _) Q E s;rw[if_neg (by intro h;rw[hn,Bool.false_and]at h;cases h)];exact Uh hQ))
def NN(K:⇑0)(a:TM):It:=⟨λi H=>∃xs x,jU K H a xs/\xs[i]?=some x,λi H x H'=>H'=H/\∀xs,jU K H a xs->xs[i]?=some x,λi H=>∃xs,jU K H a xs/\xs.length<=i⟩
def NO(K:⇑0)(a:TM):It:=⟨λi H=>∃xs x,fj K H a xs/\xs[i]?=some x,λi H x H'=>H'=H/\∀xs,fj K H a xs->xs[i]?=some x,λi H=>∃xs,fj K H a xs/\xs.length<=i⟩
def Ny(lo:Int)(n:Nat):It:=⟨λi _=>i<n,λi H x H'=>H'=H/\x=.int (lo+i),λi _=>n<=i⟩
theorem DK{P:Uc}{w:TX}{K:⇑0}{tg:TU}(a it:TM):AL P w K tg (NN K a) [it] it (λi h=>h.IsListIter it a i) where
 mem:=by simp
 obj:=λi h st b hb=>by
  have e:b=it:=by simpa using hb
  subst e;obtain⟨o,e,c,d⟩:=st;exact⟨o,e,λv z=>by rw[d]at z;cases z⟩
 keep:=λi h h' st k=>st.at λo e=>k it ↥1 o e;item:=by intro X hP hw hK hc i pins s σ H E I hf st hg;subst hP hw hK;obtain⟨xs,x,hq,hx⟩:=hg;obtain⟨its,rv,p,hz⟩:=I.list hq;obtain⟨u,hu,ru⟩:=rv.get hx;obtain⟨f0,f1,f2,f3,f4,f5⟩:=hf it ↥1;refine wpAny_pyNext_list_item st p.isList (x:=u) (by simpa using hu) λh' st' sb=>?_;have I1:aM X pins σ H {s with heap:=h'}:=I.turned (t':=s.toks) (λb o hb e=>(sb.2 b hb).trans e) f0 f1 f3 f4 f5;obtain⟨o,e,c,d⟩:=id st';exact⟨u,rfl,B0 (s:={s with heap:=h'}) e c d ⋯ ⟨x,H,I1,ru,⟨rfl,λys hy=>by rw[I.list_inj hy hq];exact hx⟩,st',λb hb=>(hf b hb).1⟩⟩
 done:=by intro X hP hw hK hc i pins s σ H E I hf st hg;subst hP hw hK;obtain⟨xs,hq,hx⟩:=hg;obtain⟨its,rv,p,hz⟩:=I.list hq;obtain⟨f0,f1,f2,f3,f4,f5⟩:=hf it ↥1;have hl:=rv.length;exact wpAny_pyNext_list_end (I.ok.hd hc) st p.isList ↥7 λh' eb=>⟨rfl,I.turned (t':=s.toks) (λb o hb e=>eb b o hb e) f0 f1 f3 f4 f5⟩
 self:=λ_ _ _ _ _ st h=>wpAny_pyIter_listiter st h
theorem BC{P:Uc}{w:TX}{K:⇑0}{tg:TU}(a it:TM):AL P w K tg (NO K a) [it] it (λi h=>h.IsTupleIter it a i) where
 mem:=by simp
 obj:=λi h st b hb=>by
  have e:b=it:=by simpa using hb
  subst e;obtain⟨o,e,c,d⟩:=st;exact⟨o,e,λv z=>by rw[d]at z;cases z⟩
 keep:=λi h h' st k=>st.at λo e=>k it ↥1 o e;item:=by intro X hP hw hK hc i pins s σ H E I hf st hg;subst hP hw hK;obtain⟨xs,x,hq,hx⟩:=hg;obtain⟨its,rv,p,hz⟩:=I.tuple hq;obtain⟨u,hu,ru⟩:=rv.get hx;obtain⟨f0,f1,f2,f3,f4,f5⟩:=hf it ↥1;refine wpAny_pyNext_tuple_item st (show s.heap.IsTuple a its.toArray from p) (x:=u) (by simpa using hu) λh' st' sb=>?_;have I1:aM X pins σ H {s with heap:=h'}:=I.turned (t':=s.toks) (λb o hb e=>(sb.2 b hb).trans e) f0 f1 f3 f4 f5;obtain⟨o,e,c,d⟩:=id st';exact⟨u,rfl,B0 (s:={s with heap:=h'}) e c d ⋯ ⟨x,H,I1,ru,⟨rfl,λys hy=>by rw[I.tuple_inj hy hq];exact hx⟩,st',λb hb=>(hf b hb).1⟩⟩
 done:=by intro X hP hw hK hc i pins s σ H E I hf st hg;subst hP hw hK;obtain⟨xs,hq,hx⟩:=hg;obtain⟨its,rv,p,hz⟩:=I.tuple hq;obtain⟨f0,f1,f2,f3,f4,f5⟩:=hf it ↥1;have hl:=rv.length;exact wpAny_pyNext_tuple_end (I.ok.hd hc) st (show s.heap.IsTuple a its.toArray from p) ↥7 λh' eb=>⟨rfl,I.turned (t':=s.toks) (λb o hb e=>eb b o hb e) f0 f1 f3 f4 f5⟩
 self:=λ_ _ _ _ _ st h=>wpAny_pyIter_tupleiter st h
theorem BB{P:Uc}{w:TX}{K:⇑0}{tg:TU}(it:TM)(lo:Int)(n:Nat):AL P w K tg (Ny lo n) [it] it (λi h=>IsRangeIter h it (lo+(i:Nat)*1) ((n:Int)-(i:Nat)) 1) where
 mem:=by simp
 obj:=λi h st b hb=>by
  have e:b=it:=by simpa using hb
  subst e;exact⟨_,st,λv z=>by have z':Data.fields _=Data.cell v:=z;cases z'⟩
 keep:=λi h h' st k=>k it ↥1 _ st;item:=by intro X hP hw hK hc i pins s σ H E I hf st hg;subst hP hw hK;obtain⟨f0,f1,f2,f3,f4,f5⟩:=hf it ↥1;have W:=Walks.range (prog:=X.prog) (w:=X.w) (I.ok.hd hc) it lo 1 n;refine W.item i s _ _ hg st λv h' tk hv st' kk=>?_;obtain⟨t,rfl⟩:=hv;have I1:aM X pins σ H {s with heap:=h',toks:=tk}:=I.turned (λb o hb e=>kk b o (by simpa using hb) e) f0 f1 f3 f4 f5;refine⟨_,rfl,B0 (s:={s with heap:=h',toks:=tk}) (n:="range_iterator") st' rfl rfl ⋯ ⟨.int (lo+i),H,I1,⟨t,?_⟩,⟨rfl,rfl⟩,st',λb hb=>(hf b hb).1⟩⟩;rw[Int.mul_one]
 done:=by intro X hP hw hK hc i pins s σ H E I hf st hg;subst hP hw hK;obtain⟨f0,f1,f2,f3,f4,f5⟩:=hf it ↥1;exact wpAny_pyNext_range_end (I.ok.hd hc) st (by have:n<=i:=hg;lia) λh' eb=>⟨rfl,I.turned (t':=s.toks) (λb o hb e=>eb b o hb e) f0 f1 f3 f4 f5⟩
 self:=λ_ _ _ _ _ st h=>YG st h
section
variable{X:Cx}{tg:TU}
def JJ(K:⇑0)(tl:TE):TI:=λσ H R=>tl σ H λx H1=>∃a,x=.ref a/\(∃xs,jU K H1 a xs)/\R (NN K a) H1
def Ms(K:⇑0)(tl:TE):TI:=λσ H R=>tl σ H λx H1=>∃a,x=.ref a/\(∃xs,fj K H1 a xs)/\R (NO K a) H1
theorem Iz{l:TU}{tl:TE}(hl:PE X l tl):PI X tg l (JJ X.K tl):=by
 intro pins s σ H R I h;refine dn (hl pins s σ H _ I h) λv s1⟨x,H1,I1,r1,q1⟩=>?_;obtain⟨a,e,⟨xs,hq⟩,q⟩:=q1;subst e;cases r1;obtain⟨its,rv,p,hz⟩:=I1.list hq;refine wpAny_pyIter_list p.isList ?_;refine⟨↑s1,[↑s1],_,_,H1,rfl,I1.kept (t':=s1.toks) λb o e=>UC _ e,DK a _,⟨_,UT _ rfl,rfl,rfl⟩,λb hb=>?_,q⟩;have e:b=↑s1:=by simpa using hb
 subst e;exact I1.fpOk ↥8 (I1.hok.fresh ↥8)
theorem Lm{l:TU}{tl:TE}(hl:PE X l tl):PI X tg l (Ms X.K tl):=by
 intro pins s σ H R I h;refine dn (hl pins s σ H _ I h) λv s1⟨x,H1,I1,r1,q1⟩=>?_;obtain⟨a,e,⟨xs,hq⟩,q⟩:=q1;subst e;cases r1;obtain⟨its,rv,p,hz⟩:=I1.tuple hq;refine XA (show s1.heap.IsTuple a its.toArray from p) ?_;refine⟨↑s1,[↑s1],_,_,H1,rfl,I1.kept (t':=s1.toks) λb o e=>UC _ e,BC a _,⟨_,UT _ rfl,rfl,rfl⟩,λb hb=>?_,q⟩;have e:b=↑s1:=by simpa using hb
 subst e;exact I1.fpOk ↥8 (I1.hok.fresh ↥8)
theorem Gb{pins:List (TM×Obj)}{σ:St}{H:Hp}{s:TQ}{R:It->Hp->Prop}{E:TL->TQ->Prop}{lo hi:Int}{t u v:Tok}{tk:Nat}(I:aM X pins σ H s)(h1:-(2^62)<=lo)(h2:lo<2^62)(h3:-(2^62)<=hi)(h4:hi<2^62)(q:R (Ny lo (hi-lo).toNat) H):TY (TZ X.prog X.w) X.A (pyIter (.ref ↑s)) (Oy X pins σ tg R) E {s with heap:=s.heap.push {cls:=.type "range",data:=.fields #[.int lo t,.int hi u,.int 1 v]},toks:=tk}:=by
 refine wpAny_pyIter_range (IsRange.new ..) (small_one h1 h2 h3 h4) ?_;have I1:aM X pins σ H {s with heap:=s.heap.push {cls:=.type "range",data:=.fields #[.int lo t,.int hi u,.int 1 v]},toks:=tk}:=I.kept λb o e=>UC _ e;refine⟨(s.heap.push {cls:=.type "range",data:=.fields #[.int lo t,.int hi u,.int 1 v]}).objs.size,[(s.heap.push {cls:=.type "range",data:=.fields #[.int lo t,.int hi u,.int 1 v]}).objs.size],_,_,H,rfl,I1.kept (t':=tk) λb o e=>UC _ e,BB _ lo (hi-lo).toNat,?_,λb hb=>?_,q⟩
 ·have e1:lo+((0:Nat):Int)*1=lo:=by simp
  have e2:(((hi-lo).toNat:Nat):Int)-((0:Nat):Int)=WO lo hi 1:=by rw[rangeSize_one];split<;>lia
  show IsRangeIter _ _ (lo+((0:Nat):Int)*1) ((((hi-lo).toNat:Nat):Int)-((0:Nat):Int)) 1;rw[e1,e2];exact UT _ rfl
 ·have e:b=(s.heap.push {cls:=.type "range",data:=.fields #[.int lo t,.int hi u,.int 1 v]}).objs.size:=by simpa using hb
  subst e;exact I1.fpOk ↥8 (I1.hok.fresh ↥8)
def Mr(ta:TA):TI:=λσ H R=>ta σ H λvs H1=>∃j:Int,vs=[.int j]/\-(2^62)<=j/\j<2^62/\R (Ny 0 j.toNat) H1
theorem Dq{a:TU}{ta:TA}{p pos:Pos}(hg:Gl X "range")(hm:X.mg "range"=none)(ha:PA X [a] ta)(hs:Ue [a] X.env=[(false,Ui a X.env)]:=by rfl):PI X tg (.Call (.Name "range" p) [a] [] pos) (Mr ta):=by intro pins s σ H R I h;refine Call_ (mI I hg hm boot_range (Xi (dn (ha pos pins s σ H _ I h) λus s1⟨vs,H1,I1,r1,q1⟩=>?_) hs rfl));obtain⟨j,e,q1,q2,q⟩:=q1;subst e;cases r1 with|cons r rr=>cases rr;obtain⟨t,rfl⟩:=r;exact call_range_1 (Gb I1 ↥0 ↥0 q1 q2 (by simpa using q))
def Om(wi:TI)(g:TG)(tb:TS):TS:=λD σ H=>wi σ H λJ H1=>∃W:Nat->Nat->St->Hp->Prop,(∃m,W 0 m σ H1)/\∀i m σ H,W i m σ H->(J.stop i H/\D.nx σ H)\/(J.go i H/\∃N:St->Hp->Prop,(∀σ' H',N σ' H'->∃m',m'<m/\W (i+1) m' σ' H')/\∀x H',J.yld i H x H'->g x σ H' λσ2 H2=>tb {D with nx:=N,ct:=N,bk:=D.nx} σ2 H2)
def oJ(fp:List TM)(h:Ua):List (TM×Obj):=fp.filterMap λb=>(h.get? b).map λo=>(b,o)
theorem dO{fp:List TM}{h:Ua}{b:TM}{o:Obj}(hb:b∈fp)(e:h.get? b=some o):(b,o)∈oJ fp h:=YD.mpr ⟨b,hb,by rw[e];rfl⟩
theorem Df{fp:List TM}{h:Ua}{p:TM×Obj}(hp:p∈oJ fp h):p.1∈fp/\h.get? p.1=some p.2:=by obtain⟨b,hb,e⟩:=YD.mp hp;cases q:h.get? b with|none=>rw[q]at e;cases e|some o=>rw[q]at e;have e':(b,o)=p:=UH e;subst e';exact⟨hb,q⟩
theorem aM.pinned{pins:List (TM×Obj)}{σ:St}{H:Hp}{s:TQ}{fp:List TM}(I:aM X pins σ H s)(hf:∀b∈fp,jS X pins H b)(ho:∀b∈fp,∃o,s.heap.get? b=some o/\∀v,o.data≠.cell v):aM X (pins++oJ fp s.heap) σ H s:=I.pins_of λp hp=>(TF hp).elim (λz=>I.pin p (UR _ z)) λz=>by obtain⟨hb,e⟩:=Df z;obtain⟨f0,f1,f2,_⟩:=hf p.1 hb;obtain⟨o,e',d⟩:=ho p.1 hb;rw[e]at e';cases e';exact⟨e,f0,f1,f2,d⟩
theorem aM.unpinned{pins pl:List (TM×Obj)}{σ:St}{H:Hp}{s:TQ}(I:aM X (pins++pl) σ H s):aM X pins σ H s:=I.pins_of λp hp=>I.pin p (UR _ (Xy _ hp))
theorem Ln{iter:TU}{body:List Ub}{wi:TI}{g:TG}{tb:TS}{pos:Pos}(hp:PassesOwn (TZ X.prog X.w) X.A X.env X.xe)(hc:X.calm=true)(hi:PI X tg iter wi)(hg:PG X tg g)(hb:sk X body tb)(hs:∀x,Va iter X.env x=pure x:=by intro _;rfl):PS X (.For tg iter body [] pos) (Om wi g tb):=by
 intro pins s σ H D I h;refine wpAny_For (dn (hi pins s σ H _ I h) λv s1 h1=>dn h1 λitv s2 h2=>?_) hs;obtain⟨it,fp,tn,J,H2,e,I2,T,st2,f2,W,⟨m0,w0⟩,turn⟩:=h2;subst e;have stat:∀{H':Hp},(∀b∈fp,H' b=none)->∀b∈fp,jS X pins H' b:=λhn b hb=>⟨hn b hb,(f2 b hb).2⟩;refine codeAny_forLoop_any (λn s'=>∃i σ' H',aM X pins σ' H' s'/\tn i s'.heap/\(∀b∈fp,H' b=none)/\W i n σ' H') ?_ m0 ⟨0,σ,H2,I2,st2,λb hb=>(f2 b hb).1,w0⟩;rintro n s3⟨i,σ3,H3,I3,st3,fr3,w3⟩;rcases turn i n σ3 H3 w3 with⟨stop,qn⟩|⟨go,N,hN,step⟩;·refine WM hp (dn (T.done X rfl rfl rfl hc i pins s3 σ3 H3 X.xe I3 (stat fr3) st3 stop) λr s4⟨hr,I4⟩=>?_);subst hr;exact Ye ⟨σ3,H3,I4,qn⟩
 ·refine WM hp (dn (T.item X rfl rfl rfl hc i pins s3 σ3 H3 X.xe I3 (stat fr3) st3 go) λr s4⟨u,hr,h4⟩=>?_);subst hr;refine WM hp (dn h4 λ_ s5⟨x,H5,I5,r5,y5,st5,fr5⟩=>?_);have I5':=I5.pinned (stat fr5) (T.obj _ _ st5);refine WM hp (dn (hg _ s5 σ3 H5 x u _ I5' r5 (step x H5 y5)) λ_ s6⟨σ6,H6,I6,q6⟩=>?_);refine WM hp (dn (hb _ s6 σ6 H6 _ I6 q6) λf s7 q7=>?_);have again:∀{σ7:St}{H7:Hp},aM X (pins++oJ fp s5.heap) σ7 H7 s7->N σ7 H7->∃m,m<n/\∃i σ' H',aM X pins σ' H' s7/\tn i s7.heap/\(∀b∈fp,H' b=none)/\W i m σ' H':=fun{σ7 H7}I7 n7=>by obtain⟨m',hm,w7⟩:=hN σ7 H7 n7;refine⟨m',hm,i+1,σ7,H7,I7.unpinned,T.keep _ _ _ st5 λb hb o e=>(I7.pin (b,o) (UR _ (UR _ (dO hb e)))).1,λb hb=>?_,w7⟩;obtain⟨o,e,d⟩:=T.obj _ _ st5 b hb;exact(I7.pin (b,o) (UR _ (UR _ (dO hb e)))).2.1
  cases f with|next=>obtain⟨σ7,H7,I7,n7⟩:=q7;exact again I7 n7|cont=>obtain⟨σ7,H7,I7,n7⟩:=q7;exact again I7 n7|brk=>obtain⟨σ7,H7,I7,q7⟩:=q7;exact⟨σ7,H7,I7.unpinned,q7⟩|ret v=>obtain⟨x7,σ7,H7,I7,r7,q7⟩:=q7;exact⟨x7,σ7,H7,I7.unpinned,r7,q7⟩
end
abbrev R2:=V->V->Hp->VK->Prop
def lS(X:Cx)(f:TL->TL->Sem TL)(r:R2):Prop:=∀(pins:List (TM×Obj)) (s:TQ) (σ:St) (H:Hp) (x y:V) (v u:TL) (Q:VK),aM X pins σ H s->bY x v->bY y u->r x y H Q->TY (TZ X.prog X.w) X.A (f v u) (EP X pins σ Q) X.xe s
def NC(X:Cx)(f:TL->Sem TL)(r:V->Hp->VK->Prop):Prop:=∀(pins:List (TM×Obj)) (s:TQ) (σ:St) (H:Hp) (x:V) (v:TL) (Q:VK),aM X pins σ H s->bY x v->r x H Q->TY (TZ X.prog X.w) X.A (f v) (EP X pins σ Q) X.xe s
def fR(X:Cx)(f:TL)(r:List V->Hp->VK->Prop):Prop:=∀(pins:List (TM×Obj)) (s:TQ) (σ:St) (H:Hp) (xs:List V) (us:List TL) (Q:VK),aM X pins σ H s->bc xs us->r xs H Q->TY (TZ X.prog X.w) X.A (call f us) (EP X pins σ Q) X.xe s
def Nj(r:R2)(ta tb:TE):TE:=λσ H Q=>ta σ H λx H1=>tb σ H1 λy H2=>r x y H2 Q
def OH(r:V->Hp->VK->Prop)(ta:TE):TE:=λσ H Q=>ta σ H λx H1=>r x H1 Q
def rI(C:Int->Int->Prop)(g:Int->Int->V):R2:=λx y H Q=>∃i j,x=.int i/\y=.int j/\C i j/\Q (g i j) H
def Dt(g:Int->Int->V):R2:=λx y H Q=>∃i j,x=.int i/\y=.int j/\Q (g i j) H
def rU(g:Int->V):V->Hp->VK->Prop:=λx H Q=>∃i,x=.int i/\Q (g i) H
section
variable{X:Cx}{a b c:TU}{ta tb tc:TE}{pos:Pos}
theorem Kl(ha:PE X a ta)(hb:PE X b tb){pins:List (TM×Obj)}{s:TQ}{σ:St}{H:Hp}{R:V->V->Hp->Prop}(I:aM X pins σ H s)(h:ta σ H λx H1=>tb σ H1 λy H2=>R x y H2){Q:TL->TQ->Prop}{f:TL->TL->Sem TL}(hf:∀v u s2 x y H2,aM X pins σ H2 s2->bY x v->bY y u->R x y H2->TY (TZ X.prog X.w) X.A (f v u) Q X.xe s2):TY (TZ X.prog X.w) X.A (Ui a X.env) (λv s₁=>TY (TZ X.prog X.w) X.A (Ui b X.env) (λu s₂=>TY (TZ X.prog X.w) X.A (f v u) Q X.xe s₂) X.xe s₁) X.xe s:=by refine dn (ha pins s σ H _ I h) λv s1⟨x,H1,I1,r1,q1⟩=>?_;refine dn (hb pins s1 σ H1 _ I1 q1) λu s2⟨y,H2,I2,r2,q2⟩=>?_;exact hf v u s2 x y H2 I2 r1 r2 q2
theorem JX{op:Operator}{r:R2}(ho:lS X (Vg op) r)(ha:PE X a ta)(hb:PE X b tb):PE X (.BinOp a op b pos) (Nj r ta tb):=by intro pins s σ H Q I h;exact wpAny_BinOp (Kl ha hb I h λv u s2 x y H2 I2 rx ry q=>ho pins s2 σ H2 x y v u Q I2 rx ry q)
theorem MR{op:UnaryOp}{r:V->Hp->VK->Prop}(ho:NC X (unaryOp op) r)(ha:PE X a ta):PE X (.UnaryOp op a pos) (OH r ta):=by intro pins s σ H Q I h;exact UnaryOp_ (dn (ha pins s σ H _ I h) λv s1⟨x,H1,I1,r1,q1⟩=>ho pins s1 σ H1 x v Q I1 r1 q1)
theorem MK{f:TL->TL->Sem TL}{C:Int->Int->Prop}{g:Int->Int->Int}(rule:∀(i j:Int) (t u:Tok) (s:TQ) (Q:TL->TQ->Prop) (E:TL->TQ->Prop),C i j->Q (.int (g i j) s.toks) {s with toks:=s.toks+1}->TY (TZ X.prog X.w) X.A (f (.int i t) (.int j u)) Q E s):lS X f (rI C λi j=>.int (g i j)):=by intro pins s σ H x y v u Q I rx ry h;obtain⟨i,j,rfl,rfl,hc,q⟩:=h;obtain⟨t,rfl⟩:=rx;obtain⟨t',rfl⟩:=ry;exact rule i j t t' s _ _ hc ⟨.int (g i j),H,I.tok _,⟨_,rfl⟩,q⟩
theorem ML{f:TL->TL->Sem TL}{g:Int->Int->Int}(rule:∀(i j:Int) (t u:Tok) (s:TQ) (Q:TL->TQ->Prop) (E:TL->TQ->Prop),Q (.int (g i j) s.toks) {s with toks:=s.toks+1}->TY (TZ X.prog X.w) X.A (f (.int i t) (.int j u)) Q E s):lS X f (Dt λi j=>.int (g i j)):=by intro pins s σ H x y v u Q I rx ry h;obtain⟨i,j,rfl,rfl,q⟩:=h;obtain⟨t,rfl⟩:=rx;obtain⟨t',rfl⟩:=ry;exact rule i j t t' s _ _ ⟨.int (g i j),H,I.tok _,⟨_,rfl⟩,q⟩
theorem K8{f:TL->TL->Sem TL}{g:Int->Int->Bool}(rule:∀(i j:Int) (t u:Tok) (s:TQ) (Q:TL->TQ->Prop) (E:TL->TQ->Prop),Q (.bool (g i j)) s->TY (TZ X.prog X.w) X.A (f (.int i t) (.int j u)) Q E s):lS X f (Dt λi j=>.bl (g i j)):=by intro pins s σ H x y v u Q I rx ry h;obtain⟨i,j,rfl,rfl,q⟩:=h;obtain⟨t,rfl⟩:=rx;obtain⟨t',rfl⟩:=ry;exact rule i j t t' s _ _ ⟨.bl (g i j),H,I,rfl,q⟩
def Kd(i j:Int):Prop:=0<=j/\j<=1000000/\i.natAbs<2^64
def G_(i j:Int):Prop:=(-(2^64)<i/\i<2^64)\/(-(2^64)<j/\j<2^64)
theorem G_.ok{i j:Int}(h:G_ i j):IntMulOk i j:=by
 rcases h with⟨h1,h2⟩|⟨h1,h2⟩;·exact .of_left (intBits_le_64 h1 h2)
 ·exact .of_right (intBits_le_64 h1 h2)
theorem Fj:lS X (Vg .Add) (Dt λi j=>.int (i+j)):=ML λ_ _ _ _ _ _ _ q=>add_int q
theorem Le:lS X (Vg .Sub) (Dt λi j=>.int (i-j)):=ML λ_ _ _ _ _ _ _ q=>sub_int q
theorem La:lS X (Vg .Mult) (rI G_ λi j=>.int (i*j)):=MK λ_ _ _ _ _ _ _ hc q=>mul_int q hc.ok
theorem Ig:lS X (Vg .Mod) (rI (λ_ j=>j≠0) λi j=>.int (i.fmod j)):=MK λ_ _ _ _ _ _ _ hc q=>mod_int' hc q
theorem Lc:lS X (Vg .Pow) (rI Kd λi j=>.int (i^j.toNat)):=MK λ_ _ _ _ _ _ _ hc q=>pow_int_small hc.1 hc.2.1 hc.2.2 q
theorem O7{f:TL->Sem TL}{g:Int->Int}(rule:∀(i:Int) (t:Tok) (s:TQ) (Q:TL->TQ->Prop) (E:TL->TQ->Prop),Q (.int (g i) s.toks) {s with toks:=s.toks+1}->TY (TZ X.prog X.w) X.A (f (.int i t)) Q E s):NC X f (rU λi=>.int (g i)):=by intro pins s σ H x v Q I rx h;obtain⟨i,rfl,q⟩:=h;obtain⟨t,rfl⟩:=rx;exact rule i t s _ _ ⟨.int (g i),H,I.tok _,⟨_,rfl⟩,q⟩
theorem L3:NC X (unaryOp .USub) (rU λi=>.int (-i)):=O7 λ_ _ _ _ _ q=>neg_int q
end
section
variable{X:Cx}{a b c:TU}{ta tb tc:TE}{pos:Pos}
theorem Kt{pins:List (TM×Obj)}{σ:St}{H:Hp}{s:TQ}{Q:VK}{k k':Bool}(I:aM X pins σ H s)(q:Q (.bl k) H)(e:k=k'):EP X pins σ Q (.bool k') s:=by subst e;exact⟨.bl k,H,I,rfl,q⟩
theorem MO:lS X (VC .Lt) (Dt λi j=>.bl (decide (i<j))):=K8 λ_ _ _ _ _ _ _ q=>lt_int q
theorem MN:lS X (VC .Gt) (Dt λi j=>.bl (decide (j<i))):=K8 λ_ _ _ _ _ _ _ q=>gt_int q
theorem MM:lS X (VC .GtE) (Dt λi j=>.bl (decide (j<=i))):=K8 λ_ _ _ _ _ _ _ q=>ge_int q
theorem Ik:lS X (VC .IsNot) (λx y H Q=>y=.non/\Q (.bl (!decide (x=.non))) H):=by intro pins s σ H x y v u Q I rx ry h;obtain⟨rfl,q⟩:=h;cases ry;refine isnot_none_gen (Kt I q ?_);cases x<;>first|(cases rx;rfl)|(obtain⟨t,rfl⟩:=rx;rfl)
theorem lS.or{f:TL->TL->Sem TL}{r r':R2}(h:lS X f r)(h':lS X f r'):lS X f (λx y H Q=>r x y H Q\/r' x y H Q):=by
 intro pins s σ H x y v u Q I rx ry q;rcases q with q|q;·exact h pins s σ H x y v u Q I rx ry q
 ·exact h' pins s σ H x y v u Q I rx ry q
theorem aP(b:TU){op:CmpOp}(h:op≠.In:=by decide)(h2:op≠.NotIn:=by decide):WD op b=false:=by
 have e1:(op==CmpOp.In)=false:=by cases op<;>first|rfl|exact absurd rfl h
 have e2:(op==CmpOp.NotIn)=false:=by cases op<;>first|rfl|exact absurd rfl h2
 cases b<;>simp[WD,e1,e2]
theorem Ip{op:CmpOp}{r:R2}(ho:lS X (VC op) r)(ha:PE X a ta)(hb:PE X b tb)(hm:WD op b=false):PE X (.Compare a [op] [b] pos) (Nj r ta tb):=by intro pins s σ H Q I h;exact wpAny_Compare1 (Kl ha hb I h λv u s2 x y H2 I2 rx ry q=>ho pins s2 σ H2 x y v u Q I2 rx ry q) hm
def Nl(t:TE):TT:=λσ H Q=>t σ H λx H'=>∃k,x=.bl k/\Q k H'
theorem II{op:CmpOp}{r:R2}(ho:lS X (VC op) r)(ha:PE X a ta)(hb:PE X b tb)(hm:WD op b=false):PT X (.Compare a [op] [b] pos) (Nl (Nj r ta tb)):=by intro pins s σ H Q I h;refine wpAny_isTrue_Compare1 (dn (ha pins s σ H _ I h) λv s1⟨x,H1,I1,r1,q1⟩=>dn (hb pins s1 σ H1 _ I1 q1) λu s2⟨y,H2,I2,r2,q2⟩=>dn (ho pins s2 σ H2 x y v u _ I2 r1 r2 q2) λc s3⟨z,H3,I3,r3,k,e,q3⟩=>?_) hm;subst e;cases r3;exact Xz ⟨H3,I3,q3⟩
theorem yf:(Uj:Nat)<2^63:=by rw[VD];decide
theorem AE{x:V}{us:List TL}(r:bc [x] us):∃u,us=[u]/\bY x u:=by cases r with|cons r1 r2=>cases r2;exact⟨_,rfl,r1⟩
theorem Kc{x y:V}{us:List TL}(r:bc [x,y] us):∃u w',us=[u,w']/\bY x u/\bY y w':=by cases r with|cons r1 r2=>cases r2 with|cons r3 r4=>cases r4;exact⟨_,_,rfl,r1,r3⟩
theorem El:fR X (.builtin "abs") (λxs H Q=>∃i,xs=[.int i]/\Q (.int (if i<0 then-i else i)) H):=by intro pins s σ H xs us Q I r h;obtain⟨i,rfl,q⟩:=h;obtain⟨u,rfl,t,rfl⟩:=AE r;exact call_abs_int λu tk=>⟨.int (if i<0 then-i else i),H,I.tok _,⟨_,rfl⟩,q⟩
theorem CQ(hc:X.calm=true):fR X (.builtin "max") (λxs H Q=>∃i j,xs=[.int i,.int j]/\Q (.int (if j>i then j else i)) H):=by
 intro pins s σ H xs us Q I r h;obtain⟨i,j,rfl,q⟩:=h;obtain⟨u,w',rfl,⟨t,rfl⟩,⟨t',rfl⟩⟩:=Kc r;refine max_two_ints (I.ok.hd hc) λh' tk k=>⟨_,H,I.kept k,?_,q⟩;by_cases hj:j>i;·rw[if_pos hj,if_pos hj];exact⟨_,rfl⟩
 ·rw[if_neg hj,if_neg hj];exact⟨_,rfl⟩
theorem CS(hc:X.calm=true):fR X (.builtin "min") (λxs H Q=>∃i j,xs=[.int i,.int j]/\Q (.int (if j<i then j else i)) H):=by
 intro pins s σ H xs us Q I r h;obtain⟨i,j,rfl,q⟩:=h;obtain⟨u,w',rfl,⟨t,rfl⟩,⟨t',rfl⟩⟩:=Kc r;refine min_two_ints (I.ok.hd hc) λh' tk k=>⟨_,H,I.kept k,?_,q⟩;by_cases hj:j<i;·rw[if_pos hj,if_pos hj];exact⟨_,rfl⟩
 ·rw[if_neg hj,if_neg hj];exact⟨_,rfl⟩
theorem CO:fR X (.type "int") (λxs H Q=>(∃i,xs=[.int i]/\Q (.int i) H)\/∃k,xs=[.bl k]/\Q (.int (if k then 1 else 0)) H):=by
 intro pins s σ H xs us Q I r h;rcases h with⟨i,rfl,q⟩|⟨k,rfl,q⟩;·obtain⟨u,rfl,t,rfl⟩:=AE r;exact call_int_int ⟨.int i,H,I,⟨_,rfl⟩,q⟩
 ·obtain⟨u,rfl,r1⟩:=AE r;cases r1;exact call_int_bool ⟨.int (if k then 1 else 0),H,I.tok _,⟨_,rfl⟩,q⟩
end
structure OO (h:Ua) (x dx C:TM) (mA:Str->Option TL):Prop where
 obj:h.get? x=some (PySem.W.instObj C dx)ns:h.Ns1 dx mA
 ne:dx≠x
section
variable{prog:Uc}{w:TX}{A:Ud}{E:TL->TQ->Prop}{s:TQ}{K:⇑0}{x dx C f:TM}{mA:Str->Option TL}{name:Str}{v:TL}
end
section
variable{P:Uc}{w:TX}{H H':Hp}{h h':Ua}{a C dx:TM}{fs fs':List (Str×V)}
end
structure OK (K:⇑0) (C:TM):Prop where
 pg:PySem.W.plainGet K C Str.empty=true
 hd:PySem.W.hasDictIn K C=true
 po:PySem.W.plainOver K C=true
 sa:XB K (.ref C) "__setattr__"=some (some (.builtin "object.__setattr__"))
structure O9 (K:⇑0) (C:TM) (f:Str) (v:V) (u:TL):Prop where
 at_:XB K (.ref C) f=some (some u)rel:bY v u
 get:PySem.W.specialIn K u "__get__"=some none
 cp:PySem.W.copiedNames.contains f=false
structure ON (K:⇑0) (C:TM) (m:Str) (f:TM):Prop where
 at_:XB K (.ref C) m=some (some (.ref f))fn:PySem.W.isFn K (.ref f)=true
 kp:WQ K (.ref f)=true
section
variable{X:Cx}{pins:List (TM×Obj)}{σ:St}{H:Hp}{s:TQ}{a C dx:TM}{fs:List (Str×V)}{f:Str}{v:V}{A:Ud}{E:TL->TQ->Prop}
end
section
variable{X:Cx}{o e value:TU}{f:Str}{pos pos' tpos:Pos}{ta tv:TE}
end
section
variable{X:Cx}{pins:List (TM×Obj)}{σ:St}{H:Hp}{s:TQ}{A:Ud}{E:TL->TQ->Prop}{Q:TL->TQ->Prop}{c:TL}{b:Bool}
inductive tK (K:⇑0) (H:Hp):V->TL->Prop where|non:tK K H .non (.type "NoneType")|bl (x:Bool):tK K H (.bl x) (.type "bool")|int (i:Int):tK K H (.int i) (.type "int")|str (x:Str):tK K H (.str x) (.type "str")|flt (x:UInt64):tK K H (.flt x) (.type "float")|lst{a:TM}{xs:List V}(e:H a=some (.lst xs)):tK K H (.ref a) (.type "list")|frz{a:TM}{o:Obj}{xs:List V}(e:H a=some (.frz o (.lst xs))):tK K H (.ref a) (.type "list")|tup{a:TM}{xs:List V}(e:H a=some (.tup xs)):tK K H (.ref a) (.type "tuple")|dK{a:TM}{kvs:List (nY×V)}(e:H a=some (.dK kvs)):tK K H (.ref a) (.type "dict")|dT{a:TM}{kvs:List (List nY×V)}(e:H a=some (.dT kvs)):tK K H (.ref a) (.type "dict")|ins{a C dx:TM}{fs:List (Str×V)}(e:H a=some (.ins C dx fs)) (cl:OK K C) (ha:XB K (.ref C) "__class__"=some (some (.builtin "object.__class__")))(hn:PySem.W.specialIn K (.builtin "object.__class__") "__get__"=some (some (.builtin "getset_descriptor.__get__"))) (htk:PySem.W.takesIn K (.builtin "object.__class__")=some true)(hm:PySem.W.mroIn K C (.type "object")=some true):tK K H (.ref a) (.ref C)
end
structure eB (k:Nat) (A:Ud):Prop where
 hd:A.handled=none
 dp:A.depth+3*k+5<recursionLimit
 un:A.units+16*k+200<cLine
 gd:A.guards=some []
theorem eB.mono{j k:Nat}{A:Ud}(r:eB k A)(h:j<=k):eB j A:=⟨r.hd,by have:=r.dp;lia,by have:=r.un;lia,r.gd⟩
theorem eB.deeper{k:Nat}{A:Ud}(r:eB (k+1) A)(env:Env):eB k (A.deeper env):=⟨r.hd,by have:=r.dp;show A.depth+1+3*k+5<_;lia,by have:=r.un;show A.units+3+16*k+200<_;lia,r.gd⟩
theorem eB.depth{k:Nat}{A:Ud}(r:eB k A):A.depth<recursionLimit:=by have:=r.dp;lia
theorem eB.units{k:Nat}{A:Ud}(r:eB k A):A.units+64<cLine:=by have:=r.un;lia
def Je:TA:=λ_ H Q=>Q [] H
def se(ta:TE)(tr:TA):TA:=λσ H Q=>ta σ H λx H1=>tr σ H1 λxs H2=>Q (x::xs) H2
section
variable{X:Cx}{e:TU}{es:List TU}{te:TE}{t:TA}{pos:Pos}
theorem qL:PA X [] Je:=λ_ _ _ _ H Q I h=>Calls.spliced_nil ⟨[],H,I,.nil,h⟩
theorem yv(ha:PE X e te)(hr:PA X es t)(hs:Ue (e::es) X.env=(false,Ui e X.env)::Ue es X.env:=by rfl):PA X (e::es) (se te t):=by intro pos pins s σ H Q I h;rw[hs];show TY _ _ (spliced ((false,Ui e X.env)::UD pos (Ue es X.env))) _ _ s;refine Calls.spliced_cons (dn (ha pins s σ H _ I h) λu s1⟨x,H1,I1,r1,q1⟩=>?_);exact dn (hr pos pins s1 σ H1 _ I1 q1) λus s2⟨xs,H2,I2,r2,q2⟩=>⟨x::xs,H2,I2,.cons r1 r2,q2⟩
def Nm(t:TA):TE:=λσ H Q=>t σ H λxs H1=>xs.length<=Uj/\∀p,H1 p=none->Q (.ref p) (cg H1 p (.tup xs))
def Nf(t:TA):TE:=λσ H Q=>t σ H λxs H1=>xs.length<=Uj/\∀p,H1 p=none->Q (.ref p) (cg H1 p (.lst xs))
theorem Lj{x1}(h:PA X es t):PE X (.Tuple es x1 pos) (Nm t):=by intro pins s σ H Q I hq;refine wpAny_Tuple_spliced (dn (h pos pins s σ H _ I hq) λus s1⟨xs,H1,I1,r,z,q⟩=>⟨by rw[<-r.length];exact z,?_⟩);have hf:H1 ↑s1=none:=I1.hok.fresh ↥8;refine⟨.ref ↑s1,cg H1 ↑s1 (.tup xs),I1.laid (t':=s1.toks) (λb u e=>UC _ e) ↥8 ?_,rfl,q _ hf⟩;exact⟨z,us,r,⟨_,UT _ rfl,rfl,_,rfl,rfl⟩⟩
theorem Fv(h:PA X es t):PE X (.List es pos) (Nf t):=by intro pins s σ H Q I hq;refine wpAny_List_spliced (dn (h pos pins s σ H _ I hq) λus s1⟨xs,H1,I1,r,z,q⟩=>⟨by rw[<-r.length];exact z,?_⟩);have hf:H1 ↑s1=none:=I1.hok.fresh ↥8;refine⟨.ref ↑s1,cg H1 ↑s1 (.lst xs),I1.laid (t':=s1.toks) (λb u e=>UC _ e) ↥8 ?_,rfl,q _ hf⟩;exact⟨z,us,0,r,UT _ rfl⟩
end
abbrev Sp:=List V->Hp->VK->XK->Prop
abbrev AH:=List Env->Hp->TQ->XK->TL->TQ->Prop
structure G' (P:Uc) (w:TX) (K:⇑0) (mg:Str->Option TL) (base:Ua) (A:Ud) (outer:List Env) (s:TQ) (H:Hp):Prop where
 frames:A.frames=some outer
 mod:Mod K mg base
 bs:∀b o,base.get? b=some o->s.heap.get? b=some o/\H b=none
 bsz:base.objs.size<=↑s
 funs:s.heap.FunFrames base outer
 frf:∀b∈EB outer,H b=none
 hok:sG P w H s.heap
 bare:AllBare s.gens
def CE(outer:List Env)(P:Uc)(w:TX)(H:Hp)(s:TQ)(Q:VK)(u:TL)(s':TQ):Prop:=∃v H',s'.os=s.os/\AllBare s'.gens/\Un (EB outer) [] H H' s.heap s'.heap/\sG P w H' s'.heap/\bY v u/\Q v H'
def CR(CX:AH)(outer:List Env)(P:Uc)(w:TX)(H:Hp)(s:TQ)(Q:VK)(E:XK)(r:Result)(s':TQ):Prop:=match r with|.ok (.ret u)=>CE outer P w H s Q u s'|.ok _=>False|.error e=>CX outer H s E e s'
structure bh (P:Uc) (w:TX) (K:⇑0) (mg:Str->Option TL) (base:Ua) (CX:AH) (k:Nat) (f:TM) (fd:UM) (ps:List Str) (sp:Sp):Prop where
 len:∀vs H Q E,sp vs H Q E->vs.length=ps.length
 run:∀(A:Ud) (outer:List Env) (s:TQ) (H:Hp) (args:Args) (us:List TL) (vs:List V) (Q:VK) (E:XK),eB k A->G' P w K mg base A outer s H->BindsTo s fd args (ps.zip us)->bc vs us->sp vs H Q E->VE (TZ P w) A (.call (.ref f) args) (CR CX outer P w H s Q E) s
section
variable{X:Cx}{pins:List (TM×Obj)}{σ:St}{H:Hp}{s s':TQ}
theorem aM.env0(I:aM X pins σ H s):G' X.prog X.w X.K X.mg X.base X.A X.stack s H:=⟨I.ok.frames,I.ok.mod,I.bs,UN I.ok.bsz I.sz,I.stack,I.stkFree,I.hok,I.bare⟩
theorem aM.after{Q:VK}{u:TL}(I:aM X pins σ H s)(h:CE X.stack X.prog X.w H s Q u s'):EP X pins σ Q u s':=by obtain⟨v,H',os,bare,un,hok,r,q⟩:=h;obtain⟨hh,g,d,t,os'⟩:=s';obtain rfl:os'=s.os:=os;exact⟨v,H',I.call (h':=hh) (g':=g) (d':=d) (t':=t) (ch:=[]) un hok bare (λb z=>absurd z ↥1),r,q⟩
end
def GE(sp:Sp)(dvs:List V)(E:XK)(t:TA):TE:=λσ H Q=>t σ H λvs H1=>sp (vs++dvs) H1 Q E
def vX(K:⇑0)(fd:UM)(ps:List Str)(ds:List TL):Prop:=∀(s:TQ) (us:List TL),K.In s.heap->(us++ds).length=ps.length->BindsTo s fd ⟨us,[]⟩ (ps.zip (us++ds))
theorem vX.all{K:⇑0}{fd:UM}{ps:List Str}(h:∀us:List TL,us.length=ps.length->bindArgs fd ⟨us,[]⟩=pure (ps.zip us)):vX K fd ps []:=λs us _ hl=>by rw[Vs]at hl⊢;exact .of_eq (h us hl)
def AK(CX:AH)(X:Cx)(E:XK):Prop:=∀(pins:List (TM×Obj)) (σ:St) (H:Hp) (s:TQ) (e:TL) (s':TQ),aM X pins σ H s->CX X.stack H s E e s'->X.xe e s'
section
variable{X:Cx}{CX:AH}{k:Nat}{f C:TM}{fd:UM}{ps:List Str}{sp:Sp}{dvs:List V}{ds:List TL}{E:XK}{x m:Str}{p pos apos:Pos}{e o:TU}{es:List TU}{ta:TE}{t:TA}
theorem LL{pins:List (TM×Obj)}{σ:St}{H:Hp}{s:TQ}{Q:VK}{us:List TL}{vs:List V}(F:bh X.prog X.w X.K X.mg X.base CX k f fd ps sp)(hr:eB k X.A)(hb:vX X.K fd ps ds)(hd:bc dvs ds)(hx:AK CX X E)(I:aM X pins σ H s)(r:bc vs us)(h:sp (vs++dvs) H Q E):TY (TZ X.prog X.w) X.A (call (.ref f) us) (EP X pins σ Q) X.xe s:=by
 have r2:bc (vs++dvs) (us++ds):=r.append hd;have hl:(us++ds).length=ps.length:=by rw[<-r2.length];exact F.len _ _ _ _ h
 refine wpAny_call (codeAny_mono (F.run X.A X.stack s H ⟨us,[]⟩ (us++ds) (vs++dvs) Q E hr I.env0 (hb s us I.kIn hl) r2 h) λr s' hq=>?_);cases r with|error e=>exact hx pins σ H s e s' I hq|ok fl=>cases fl with|ret u=>exact I.after hq|next=>exact VX hq|brk=>exact VX hq|cont=>exact VX hq
theorem Io(F:bh X.prog X.w X.K X.mg X.base CX k f fd ps sp)(hr:eB k X.A)(hg:Gl X x)(hm:X.mg x=some (.ref f))(hk:WQ X.K (.ref f)=true)(hb:vX X.K fd ps ds)(hd:bc dvs ds)(hx:AK CX X E)(ha:PA X (e::es) t)(hdb:(x==("__debug__":Str))=false:=by decide)(he:Ue (e::es) X.env=(false,Ui e X.env)::Ue es X.env:=by rfl)(hpl:(UD pos (Ue es X.env)).any (·.1)=false:=by rfl):PE X (.Call (.Name x p) (e::es) [] pos) (GE sp dvs E t):=by intro pins s σ H Q I h;refine Yg (Cc I hg hm ?_ hdb);refine PySem.W.callWith_K (h₀:=X.base) I.ok.mod.kin hk (dn (ha pos pins s σ H _ I h) λus s1⟨vs,H1,I1,r,q⟩=>⟨I1.kIn,?_⟩) he hpl;exact LL F hr hb hd hx I1 r q
structure Mk (K:⇑0) (C f:TM):Prop where
 makes:PySem.W.makesIn K C=true
 init:XB K (.ref C) "__init__"=some (some (.ref f))fn:PySem.W.isFn K (.ref f)=true
 kp:WQ K (.ref C)=true
end
section
variable{X:Cx}{CX:AH}{k:Nat}{f C:TM}{fd:UM}{ps ks:List Str}{sp:Sp}{E:XK}{x m:Str}{p pos apos kpos:Pos}{e o:TU}{es:List TU}{kws:List Vn}{te ta:TE}{t tk:TA}{nm:Option Str}
structure NP (K:⇑0) (fd:UM) (ps ks:List Str) (g:List TL->List TL->List TL) (gV:List V->List V->List V):Prop where to:∀(s:TQ) (us ws:List TL),K.In s.heap->(g us ws).length=ps.length->BindsTo s fd ⟨us,ks.zip ws⟩ (ps.zip (g us ws))rel:∀{vs:List V}{us:List TL}{zs:List V}{ws:List TL},bc vs us->bc zs ws->bc (gV vs zs) (g us ws)
variable{g:List TL->List TL->List TL}{gV:List V->List V->List V}
end
structure av (N P:List Str) (sc:Us):Prop where
 kind:sc.kind=.function
 co:sc.isCoroutine=false
 gen:sc.isGenerator=false
 nd:N.Nodup
 pre:N.take P.length=P
 par:∀x∈P,sc.names.lookup x=some .local\/sc.names.lookup x=some .cell
 nofree:∀y∈sc.names,y.2≠.free
theorem wg{VF:Str->Option Vo}{x:Str}:∀{binds:List (Str×TL)}{m:Str->Option TL},(∀v,(x,v)∉binds)->bindL VF binds m x=m x
 |[],_,_=>rfl|(n,v)::r,m,h=>by
  unfold bindL;rw[wg λw hw=>h w (VW _ hw)];split
  ·have:x≠n:=by rintro rfl;exact h v Wr
   simp[this]
  ·rfl
theorem we{VF:Str->Option Vo}{x:Str}:∀{binds:List (Str×TL)}{m:Str->Option TL},(∀v,(x,v)∉binds)->bindC VF binds m x=m x
 |[],_,_=>rfl|(n,v)::r,m,h=>by
  unfold bindC;rw[we λw hw=>h w (VW _ hw)];split;·rfl
  ·have:x≠n:=by rintro rfl;exact h v Wr
   simp[this]
theorem wf{VF:Str->Option Vo}{x:Str}{v:TL}:∀{P:List Str}{vs:List TL}{i:Nat}{m:Str->Option TL},P.Nodup->P[i]?=some x->vs[i]?=some v->VF x=some .local->bindL VF (P.zip vs) m x=some v|[],_,_,_,_,h,_,_=>by simp at h|_::_,[],_,_,_,_,h,_=>by simp at h|p::P,w::vs,0,m,nd,h1,h2,hk=>by simp at h1 h2;subst h1;subst h2;show bindL VF ((p,w)::P.zip vs) m p=_;unfold bindL;rw[wg λv hv=>(VN.mp nd).1 (List.of_mem_zip hv).1,if_pos hk];simp|p::P,w::vs,i+1,m,nd,h1,h2,hk=>by show bindL VF ((p,w)::P.zip vs) m x=_;unfold bindL;exact wf (i:=i) (VN.mp nd).2 (by simpa using h1) (by simpa using h2) hk
theorem wd{VF:Str->Option Vo}{x:Str}{v:TL}:∀{P:List Str}{vs:List TL}{i:Nat}{m:Str->Option TL},P.Nodup->P[i]?=some x->vs[i]?=some v->VF x≠some .local->bindC VF (P.zip vs) m x=some v|[],_,_,_,_,h,_,_=>by simp at h|_::_,[],_,_,_,_,h,_=>by simp at h|p::P,w::vs,0,m,nd,h1,h2,hk=>by simp at h1 h2;subst h1;subst h2;show bindC VF ((p,w)::P.zip vs) m p=_;unfold bindC;rw[we λv hv=>(VN.mp nd).1 (List.of_mem_zip hv).1,if_neg hk];simp|p::P,w::vs,i+1,m,nd,h1,h2,hk=>by show bindC VF ((p,w)::P.zip vs) m x=_;unfold bindC;exact wd (i:=i) (VN.mp nd).2 (by simpa using h1) (by simpa using h2) hk
def i6(N:List Str)(vs:List V):St:=vs.map some++Ug (N.length-vs.length) none
def AU(CX:AH)(P:Uc)(w:TX)(K:⇑0)(mg:Str->Option TL)(base:Ua)(N:List Str)(qual:Str)(scope:Us)(f:TM)(cd:TL)(A:Ud)(outer:List Env)(s:TQ)(H:Hp)(E:XK):Cx where prog:=P;w:=w;K:=K;mg:=mg;base:=base;A:=A.deeper (envOfC qual scope ↑s f cd);N:=N;s₀:=s;H₀:=H;env:=envOfC qual scope ↑s f cd;outer:=outer;stack:=envOfC qual scope ↑s f cd::outer;ex:=[];calm:=true;fn:=λ_=>true;pn:=[];xe:=λe s'=>TY (TZ P w) (A.deeper (envOfC qual scope ↑s f cd)) (leaving (envOfC qual scope ↑s f cd) e) (λ_ s''=>CX outer H s E e s'') (λe' s''=>CX outer H s E e' s'') s'
theorem za{sc:Us}{n:Nat}{x:Str}(h:sc.names.lookup x=some .cell):∃c,(UF n sc.names []).lookup x=some c:=by have q:=PySem.W.cellsFrom_some sc.names n [] (.inl h);exact Option.isSome_iff_exists.mp q
theorem C3{CX:AH}{P:Uc}{w:TX}{K:⇑0}{mg:Str->Option TL}{base:Ua}{N ps:List Str}{qual:Str}{scope:Us}{f:TM}{cd:TL}{A:Ud}{outer:List Env}{s s1:TQ}{H:Hp}{E:XK}{us:List TL}{vs:List V}(S:av N ps scope)(hd:A.handled=none)(e0:G' P w K mg base A outer s H)(hl:vs.length=ps.length)(r:bc vs us)(x:InCallC s ↑s (bindL (envOfC qual scope ↑s f cd).kindOf (ps.zip us) λ_=>none) (UF (↑s+1) scope.names []) (bindC (envOfC qual scope ↑s f cd).kindOf (ps.zip us) λ_=>none) s1):aM (AU CX P w K mg base N qual scope f cd A outer s H E) [] (i6 N vs) H s1:=by
 have hpl:ps.length<=N.length:=by have:=congrArg List.length S.pre;rw[List.length_take]at this;lia
 obtain⟨h1,tk,rfl,hk⟩:=x.done;have noA:∀b:TM,b∉(AU CX P w K mg base N qual scope f cd A outer s H E).ex:=λb z=>absurd (show b∈([]:List TM) from z) ↥1;refine⟨⟨e0.mod,S.kind,rfl,rfl,VA _,λy z c h1 h2=>?_,λy hy=>?_,λy c _ h=>?_,λ_=>hd,Around.frames_deeper e0.frames,.inr ⟨rfl,rfl⟩,λb z=>absurd z (noA b),e0.bs,e0.bsz,λb _ _=>noA b,λb z=>absurd z (noA b),e0.funs,e0.frf⟩,rfl,e0.bare,Un.kept hk,⟨_,x.toInCall.ns,λi y v h1 h2 h3=>?_⟩,λy c h=>⟨_,x.cell y c h⟩,e0.hok.fresh ↥8,λy c h=>?_,λp hp=>absurd (show p∈([]:List (TM×Obj)) from hp) ↥1,e0.hok.kept hk,?_⟩;·exact name_of_addr x.apart (XC h1) (XC h2)
 ·have hy:scope.names.lookup y=some .cell\/scope.names.lookup y=some .free:=hy;rcases hy with hy|hy;·exact za hy
  ·exact absurd rfl (S.nofree _ (XC hy))
 ·exact WK (x.above y c (XC h))
 ·have hi:i<vs.length:=by
   unfold i6 at h2;by_cases hi:i<vs.length;·exact hi
   ·rw[XD (by simpa using hi)]at h2;rw[Wj]at h2;split at h2<;>cases h2
  have ha:vs[i]?=some v:=by unfold i6 at h2;rw[UX (by simpa using hi),Ut]at h2;cases e:vs[i]? with|none=>rw[e]at h2;cases h2|some a=>rw[e]at h2;cases h2;rfl
  obtain⟨u,hu,rv⟩:=r.get ha;have hp:ps[i]?=some y:=by rw[<-S.pre,List.getElem?_take_of_lt ↥0];exact h1
  have ndP:ps.Nodup:=by rw[<-S.pre];exact S.nd.sublist (List.take_sublist _ _)
  refine⟨u,rv,?_⟩;rcases S.par y (TK hp) with k|k;·exact .inl ⟨k,wf ndP hp hu k⟩
  ·obtain⟨c,e⟩:=za (n:=↑s+1) k;refine .inr ⟨.inl k,c,e,?_⟩;have q:=x.cell y c e;rw[wd ndP hp hu (by show scope.names.lookup y≠_;rw[k];decide)]at q;exact q
 ·exact e0.hok.fresh (WK (x.above y c (XC h)))
 ·unfold i6;show _=N.length;rw[VO,Uq,YH];lia
theorem Mm{CX:AH}{P:Uc}{w:TX}{K:⇑0}{mg:Str->Option TL}{base:Ua}{k:Nat}{f:TM}{name qual:Str}{params:Arguments}{body:List Ub}{scope:Us}{dV kV doc pm cdv ct oc:TL}{an od:Option TM}{osl:Array (Option TL)}{N ps:List Str}{sp:Sp}(lk:K.lookup f=some ⟨oc,od,.func (VJ name qual params body scope dV kV doc pm an cdv ct),osl⟩)(hcd:XE K cdv qual=true)(S:av N ps scope)(len:∀vs H Q E,sp vs H Q E->vs.length=ps.length)(hbody:∀(A:Ud) (outer:List Env) (s:TQ) (H:Hp) (vs:List V) (Q:VK) (E:XK),eB k (A.deeper (envOfC qual scope ↑s f cdv))->sp vs H Q E->∃t,sk (AU CX P w K mg base N qual scope f cdv A outer s H E) body t/\t {nx:=λ_ H'=>Q .non H',rt:=Q} (i6 N vs) H):bh P w K mg base CX (k+1) f (VJ name qual params body scope dV kV doc pm an cdv ct) ps sp:=by
 refine⟨len,λA outer s H args us vs Q E hr e0 hb r hsp=>?_⟩;have hl:=len _ _ _ _ hsp;have KX:K.In s.heap:=e0.mod.kin.keeps λb o e=>(e0.bs b o e).1;have lim:s.heap.NoLimit:=e0.mod.nolimit.keeps λb o e=>(e0.bs b o e).1;have hkind:∀y∈ps.zip us,scope.names.lookup y.1=some .local\/(scope.names.lookup y.1=some .cell/\((UF (↑s+1) scope.names []).lookup y.1).isSome=true):=λ⟨n,v⟩hy=>by
  rcases S.par n (List.of_mem_zip hy).1 with q|q;·exact .inl q
  ·exact .inr ⟨q,PySem.W.cellsFrom_some _ _ _ (.inl q)⟩
 refine codeAny_call_function hr.depth (KX _ _ lk) rfl S.co S.gen rfl (PySem.W.codeRec_of KX hcd) (hb _ _ _ _ ?_);refine wpAny_newFunctionEnv_cells S.kind hkind λenv he s1 x=>?_;subst he;refine⟨lim.keeps x.toInCall.keep,codeAny_func ?_⟩;obtain⟨t,ht,hq⟩:=hbody A outer s H vs Q E (hr.deeper _) hsp;have I:aM (AU CX P w K mg base N qual scope f cdv A outer s H E) [] (i6 N vs) H s1:=C3 S hr.hd e0 hl r x;refine UE (ht [] s1 (i6 N vs) H _ I hq) (λfl s' hs=>?_) λe s' hs=>hs;have fin:∀{σ':St}{H':Hp}{v:V}{u:TL},aM (AU CX P w K mg base N qual scope f cdv A outer s H E) [] σ' H' s'->bY v u->Q v H'->CE outer P w H s Q u s':=fun{σ' H' v u}J rv q=>⟨v,H',J.os,J.bare,J.base,J.hok,rv,q⟩;cases fl with|ret u=>obtain⟨v,σ',H',J,rv,q⟩:=hs;exact fin J rv q|next=>obtain⟨σ',H',J,q⟩:=hs;exact fin (v:=V.non) (u:=Value.none) J rfl q|brk=>obtain⟨_,_,_,q⟩:=hs;exact VX q|cont=>obtain⟨_,_,_,q⟩:=hs;exact VX q
section
variable{X:Cx}{x:Str}{p pos:Pos}{e:TU}{es:List TU}{t:TA}{id T:String}{r:List V->Hp->VK->Prop}
def Ol(r:List V->Hp->VK->Prop)(t:TA):TE:=λσ H Q=>t σ H λvs H1=>r vs H1 Q
theorem uu(hc:fR X (.builtin id) r)(hg:Gl X x)(hm:X.mg x=none)(hv:Vu x=some (.builtin id))(ha:PA X (e::es) t)(hn:x≠"__name__":=by decide)(hdb:(x==("__debug__":Str))=false:=by decide)(he:Ue (e::es) X.env=(false,Ui e X.env)::Ue es X.env:=by rfl)(hpl:(UD pos (Ue es X.env)).any (·.1)=false:=by rfl):PE X (.Call (.Name x p) (e::es) [] pos) (Ol r t):=by intro pins s σ H Q I h;refine Yg (mI I hg hm hv ?_ hn hdb);exact PyProof.Rows.callWith_builtin1 (dn (ha pos pins s σ H _ I h) λus s1⟨vs,H1,I1,r1,q1⟩=>hc pins s1 σ H1 vs us Q I1 r1 q1) he hpl
theorem Do(hc:fR X (.type T) r)(hg:Gl X x)(hm:X.mg x=none)(hv:Vu x=some (.type T))(ha:PA X (e::es) t)(hn:x≠"__name__":=by decide)(hdb:(x==("__debug__":Str))=false:=by decide)(he:Ue (e::es) X.env=(false,Ui e X.env)::Ue es X.env:=by rfl)(hpl:(UD pos (Ue es X.env)).any (·.1)=false:=by rfl):PE X (.Call (.Name x p) (e::es) [] pos) (Ol r t):=by intro pins s σ H Q I h;refine Yg (mI I hg hm hv ?_ hn hdb);exact Xi (dn (ha pos pins s σ H _ I h) λus s1⟨vs,H1,I1,r1,q1⟩=>hc pins s1 σ H1 vs us Q I1 r1 q1) he hpl
end
end L2
namespace HT
open PySem PyProof.Rows
section
open PySem.SeqAt
open PySem.AutoSeq1 (wpAny_loadPart')
open PySem.MeetsSeq PySem.MeetsSeq2 PySem.MeetsSeq3
end
section
variable{prog:Uc}{w:TX}{A:Ud}{E:TL->TQ->Prop}{s:TQ}
theorem cat_tup{t b:TM}{vs ws:List TL}{Q:TL->TQ->Prop}(ht:IsTup s.heap t vs.toArray)(hb:IsTup s.heap b ws.toArray)(hv:vs≠[])(h1:ws=[]->Q (.ref t) s)(h2:ws≠[]->Q (.ref ↑s) {s with heap:=s.heap.push {cls:=.type "tuple",data:=.seq (vs++ws).toArray}})(hsz:vs.length+ws.length<=Uj):TY (TZ prog w) A (Vg .Add (.ref t) (.ref b)) Q E s:=by
 obtain⟨⟨cls,dd,data,sl⟩,ho,hc,n,hd⟩:=id ht;obtain⟨⟨cls2,dd2,data2,sl2⟩,ho2,hc2,n2,hd2⟩:=id hb;simp only at hc hd hc2 hd2;subst hc hd hc2 hd2;have e:vs.toArray++ws.toArray=(vs++ws).toArray:=by simp
 by_cases hw:ws=[];·exact concat_meets ⟨_,ho,rfl⟩ ⟨_,ho2,rfl⟩ noFill_tuple_add seq_tuple_add PySem.F.slot_tuple_add PySem.F.entry_tuple_add (PySem.F.args_tuple_add_2 _ _) (tuple_addW1 t b vs.toArray ws.toArray n n2 dd dd2 sl sl2 (by simpa using hv) (by simp[hw])) ⟨ho,ho2,h1 hw⟩
 ·refine concat_meets ⟨_,ho,rfl⟩ ⟨_,ho2,rfl⟩ noFill_tuple_add seq_tuple_add PySem.F.slot_tuple_add PySem.F.entry_tuple_add (PySem.F.args_tuple_add_2 _ _) (tuple_addW2 t b vs.toArray ws.toArray n n2 dd dd2 sl sl2 (by simpa using hv) (by simpa using hw) (by rw[Uz,Uz];exact hsz)) ⟨ho,ho2,?_⟩;rw[e];exact h2 hw
def sIx(n d:Nat):Option Int->Nat|none=>d|some v=>if v<0 then(v+(n:Int)).toNat else min v.toNat n
theorem sIx_none(n d:Nat):sIx n d none=d:=rfl
theorem sIx_nat(n d k:Nat):sIx n d (some (k:Int))=min k n:=by show(if (k:Int)<0 then((k:Int)+(n:Int)).toNat else min (k:Int).toNat n)=min k n;rw[if_neg ↥0,VP]
theorem LM(n d:Nat)(hd:d<=n)(o:Option Int):sIx n d o<=n:=by cases o with|none=>exact hd|some v=>
 show(if v<0 then(v+(n:Int)).toNat else min v.toNat n)<=n;by_cases hv:v<0;·rw[if_pos hv];lia
 ·rw[if_neg hv];exact Nat.min_le_right _ _
theorem BU(v:Int)(n d:Nat):(if v<0 then max (v+(n:Int)) 0 else min v (n:Int))=((sIx n d (some v):Nat):Int):=by
 show(if v<0 then max (v+(n:Int)) 0 else min v (n:Int))=(((if v<0 then(v+(n:Int)).toNat else min v.toNat n):Nat):Int);by_cases hv:v<0;·simp only[if_pos hv];lia
 ·simp only[if_neg hv];lia
theorem AM(lo hi:Option Int)(n:Nat):YI lo hi 1 (n:Int)=(((sIx n 0 lo:Nat):Int),((sIx n n hi:Nat):Int)):=by
 have h1:¬((1:Int)<0):=by lia
 unfold YI;simp only[h1,if_false];refine Prod.ext ?_ ?_;·cases lo with|none=>rfl|some v=>exact BU v n 0
 ·cases hi with|none=>rfl|some v=>exact BU v n n
theorem Bk(i j:Nat):Yh (i:Int) (j:Int) 1=j-i:=by
 unfold Yh;have h1:(1:Int)>0:=by lia
 simp only[h1,if_true,Int.ediv_one];split<;>lia
theorem uQ{v:TL}{o:Option Int}{Q:Option Int->TQ->Prop}(p:IsPart v o)(h:Q o s):TY (TZ prog w) A (Builtin.Slice.slicePartIndex v) Q E s:=by cases p with|none=>exact slicePart_none h|int i t=>exact slicePart_int h
theorem li{sl:TM}{vl vu:TL}{lo hi:Option Int}{n:Nat}{Q:Int×Int×Nat->TQ->Prop}(hs:s.heap.IsSliceOf sl vl vu .none)(pl:IsPart vl lo)(pu:IsPart vu hi)(h:Q (((sIx n 0 lo:Nat):Int),1,sIx n n hi-sIx n 0 lo) s):TY (TZ prog w) A (YZ (.ref sl) (pure (n:Int))) Q E s:=by obtain⟨os,hos,hcs,hds⟩:=id hs;unfold YZ Builtin.Slice.sliceFields;refine TV (TV (Vb hos hds (x:=vl) rfl (TV (Vb hos hds (x:=vu) rfl (TV (Vb hos hds (x:=.none) rfl (Uh ?_)))))));refine TV (slicePart_none ?_);show TY _ _ (if ((1:Int)==0)=true then _ else _) _ _ s;rw[if_neg ⋯];refine TV (uQ pl (TV (uQ pu (TV (Uh ?_)))));show TY _ _ (match YI lo hi 1 (n:Int) with|(lo,hi)=>pure (lo,(1:Int),Yh lo hi 1)) _ _ s;rw[AM lo hi n];show TY _ _ (pure (((sIx n 0 lo:Nat):Int),(1:Int),Yh ((sIx n 0 lo:Nat):Int) ((sIx n n hi:Nat):Int) 1)) _ _ s;rw[Bk];exact Uh h
theorem FD(xs:Array TL)(i k:Nat):((Uu k).filterMap fun(m:Nat)=>xs[((i:Int)+(m:Int)*1).toNat]?).toArray=((xs.toList.drop i).take k).toArray:=by
 have e:(fun(m:Nat)=>xs[((i:Int)+(m:Int)*1).toNat]?)=λm=>xs[i+m]?:=by
  funext m;have:((i:Int)+(m:Int)*1).toNat=i+m:=by lia
  rw[this]
 rw[e];have:=pick_run xs i k;rw[List.filterMap_map]at this;have e2:((λx=>xs[x]?)∘λx=>i+x)=λm=>xs[i+m]?:=rfl;rw[e2]at this;rw[this]
theorem getItem_tuple_cut{t sl:TM}{items:Array TL}{vl vu:TL}{lo hi:Option Int}{Q:TL->TQ->Prop}(ht:IsTup s.heap t items)(hs:s.heap.IsSliceOf sl vl vu .none)(pl:IsPart vl lo)(pu:IsPart vu hi)(hw:¬(sIx items.size 0 lo=0/\sIx items.size items.size hi=items.size))(h:Q (.ref ↑s) {s with heap:=s.heap.push {cls:=.type "tuple",data:=.seq ((items.toList.drop (sIx items.size 0 lo)).take (sIx items.size items.size hi-sIx items.size 0 lo)).toArray}})(hsz:items.size<=Uj):TY (TZ prog w) A (getItem (.ref t) (.ref sl)) Q E s:=by
 have htake:sizeOk (.seq ((items.toList.drop (sIx items.size 0 lo)).take (sIx items.size items.size hi-sIx items.size 0 lo)).toArray):=by show((items.toList.drop (sIx items.size 0 lo)).take (sIx items.size items.size hi-sIx items.size 0 lo)).toArray.size<=Uj;rw[Uz,List.length_take,List.length_drop,YF];lia
 have hj:sIx items.size items.size hi<=items.size:=LM _ _ ↥8 hi;obtain⟨os,hos,hcs,hds⟩:=id hs;have hTs:s.TypeIs (.ref sl) "slice":=⟨os,hos,hcs⟩;unfold getItem;try with_reducible refine WL ?_
 first|refine TV (Uh ?_)|skip
 refine TV (wpAny_sequenceKey ht.typeIs ⋯ ?_);refine TV (WR (name:=Vh "__getitem__") ht.typeIs WS (Wu WS ht.typeIs entry_tuple_getitem ?_ (args_tuple_getitem _ _)));show TY _ _ (Za (.ref t)>>=_) _ _ s;refine TV (tupleItemsOf_ ht ?_);refine TV (wpAny_typeOf hTs ?_);rw[if_pos ⋯];refine TV (li hs pl pu ?_);have hno:¬((((sIx items.size 0 lo:Nat):Int)==0&&(1:Int)==1&&(sIx items.size items.size hi-sIx items.size 0 lo)==items.size)=true):=by intro q;rw[Uw,Uw]at q;have q1:((sIx items.size 0 lo:Nat):Int)=0:=eq_of_beq q.1.1;have q2:sIx items.size items.size hi-sIx items.size 0 lo=items.size:=eq_of_beq q.2;exact hw ⟨by lia,by lia⟩
 show TY _ _ (if (((sIx items.size 0 lo:Nat):Int)==0&&(1:Int)==1&&(sIx items.size items.size hi-sIx items.size 0 lo)==items.size)=true then _ else _) _ _ s;rw[if_neg hno,FD];first|exact TV (m:=Xj _) (VY (Uh ⟨_,rfl,Uh h⟩) htake)|exact TV (m:=Xj _) (VY (TV (Uh (Uh ⟨_,rfl,Uh h⟩))) htake)|exact TV (TV (m:=Xj _) (VY (Uh (Uh ⟨_,rfl,Uh h⟩)) htake))|exact TV (TV (m:=Xj _) (VY (Uh ⟨_,rfl,Uh h⟩) htake))
end
end HT
namespace L2
open PySem PySem.Spec PyProof.Rows
abbrev TO:=St->Hp->(Option Int->Hp->Prop)->Prop
def PO(X:Cx)(e:Option TU)(t:TO):Prop:=∀(pins:List (TM×Obj)) (s:TQ) (σ:St) (H:Hp) (Q:Option Int->Hp->Prop),aM X pins σ H s->t σ H Q->TY (TZ X.prog X.w) X.A (evalPart e X.env) (λu s'=>∃o H',aM X pins σ H' s'/\IsPart u o/\Q o H') X.xe s
def Jf:TO:=λ_ H Q=>Q none H
def Nk(t:TE):TO:=λσ H Q=>t σ H λx H1=>∃i,x=.int i/\Q (some i) H1
theorem tZ{ns:List Int}:∀{us:List TL},bc (ns.map V.int) us->IntsAre us ns:=by induction ns with|nil=>intro us r;rw[Uv]at r;cases r;exact .nil|cons n ns ih=>intro us r;rw[Uo]at r;cases r with|cons r1 r2=>obtain⟨t,e⟩:=r1;subst e;exact .cons n t (ih r2)
section
variable{X:Cx}{e:TU}{te:TE}{lo hi:Option TU}{tl th:TO}{pos p2:Pos}
theorem IB:PO X none Jf:=by intro pins s σ H Q I h;rw[evalPart_none];exact Uh ⟨none,H,I,.none,h⟩
theorem IC(h:PE X e te):PO X (some e) (Nk te):=by intro pins s σ H Q I hw;rw[evalPart_some];refine dn (h pins s σ H _ I hw) λu s1⟨x,H1,I1,r1,q1⟩=>?_;obtain⟨i,rfl,q⟩:=q1;obtain⟨t,rfl⟩:=r1;exact⟨some i,H1,I1,.int i t,q⟩
def Hb(X:Cx)(r:V->Option Int->Option Int->Hp->VK->Prop):Prop:=∀(pins:List (TM×Obj)) (s:TQ) (σ:St) (H:Hp) (x:V) (v vl vu:TL) (lo hi:Option Int) (sl:TM) (Q:VK),aM X pins σ H s->bY x v->s.heap.IsSliceOf sl vl vu .none->IsPart vl lo->IsPart vu hi->r x lo hi H Q->∃T id,typeLookup (.type T) "__getitem__"=pure (some (.builtin id))/\s.TypeIs v T/\TY (TZ X.prog X.w) X.A (getItem v (.ref sl)) (EP X pins σ Q) X.xe s
theorem Hb.or{r r':V->Option Int->Option Int->Hp->VK->Prop}(h:Hb X r)(h':Hb X r'):Hb X (λx lo hi H Q=>r x lo hi H Q\/r' x lo hi H Q):=by
 intro pins s σ H x v vl vu lo hi sl Q I rx hs pl pu q;rcases q with q|q;·exact h pins s σ H x v vl vu lo hi sl Q I rx hs pl pu q
 ·exact h' pins s σ H x v vl vu lo hi sl Q I rx hs pl pu q
def O6(r:V->Option Int->Option Int->Hp->VK->Prop)(te:TE)(tl th:TO):TE:=λσ H Q=>te σ H λx H1=>tl σ H1 λl H2=>th σ H2 λu H3=>r x l u H3 Q
theorem Fw{r:V->Option Int->Option Int->Hp->VK->Prop}(hr:Hb X r)(he:PE X e te)(hl:PO X lo tl)(hu:PO X hi th):PE X (.Subscript e (.Slice lo hi none p2) pos) (O6 r te tl th):=by intro pins s σ H Q I h;refine Subscript_ (dn (he pins s σ H _ I h) λv s1⟨x,H1,I1,r1,q1⟩=>?_);refine wpAny_Slice (dn (hl pins s1 σ H1 _ I1 q1) λvl s2⟨l,H2,I2,pl,q2⟩=>dn (hu pins s2 σ H2 _ I2 q2) λvu s3⟨u,H3,I3,pu,q3⟩=>?_);rw[evalPart_none];refine Uh ?_;have I4:aM X pins σ H3 {s3 with heap:=s3.heap.push {cls:=.type "slice",data:=.fields #[vl,vu,.none]}}:=I3.kept (t':=s3.toks) λb ob q=>UC _ q;obtain⟨T,id,hT,ht,hg⟩:=hr pins {s3 with heap:=s3.heap.push {cls:=.type "slice",data:=.fields #[vl,vu,.none]}} σ H3 x v vl vu l u ↑s3 Q I4 r1 (Heap.IsSliceOf.new ..) pl pu q3;show TY (TZ X.prog X.w) X.A (subscriptTail e (.Slice lo hi none p2) v (.ref ↑s3)) (EP X pins σ Q) X.xe {s3 with heap:=s3.heap.push {cls:=.type "slice",data:=.fields #[vl,vu,.none]}};exact tail_any (ops:=[.ref ↑s3,v]) ht hT hg (by with_unfolding_all rfl)
def vg(xs:List V)(lo hi:Option Int):List V:=(xs.drop (HT.sIx xs.length 0 lo)).take (HT.sIx xs.length xs.length hi-HT.sIx xs.length 0 lo)
theorem rC(xs:List V)(lo hi:Option Int):(vg xs lo hi).length<=xs.length:=by unfold vg;rw[List.length_take,List.length_drop];lia
def M5(K:⇑0):V->Option Int->Option Int->Hp->VK->Prop:=λx lo hi H Q=>∃a xs,x=.ref a/\fj K H a xs/\¬(HT.sIx xs.length 0 lo=0/\HT.sIx xs.length xs.length hi=xs.length)/\∀p,H p=none->Q (.ref p) (cg H p (.tup (vg xs lo hi)))
theorem LO:Hb X (M5 X.K):=by
 intro pins s σ H x v vl vu lo hi sl Q I rx hs pl pu h;obtain⟨a,xs,rfl,hx,hw,q⟩:=h;cases rx;obtain⟨its,r,ht,hz⟩:=I.tuple hx;have hlen:its.toArray.size=xs.length:=by rw[Uz];exact r.length.symm
 refine⟨"tuple",_,WS.lookup,ht.typeIs,?_⟩;refine HT.getItem_tuple_cut ht hs pl pu (by rw[hlen];exact hw) ?_ (by rw[hlen];exact hz);rw[hlen];refine⟨.ref ↑s,_,I.laid (t':=s.toks) (o:=.tup (vg xs lo hi)) (λb ob q=>UC _ q) ↥8 ?_,rfl,q _ (I.hok.fresh ↥8)⟩;exact⟨UN (rC xs lo hi) hz,_,(r.drop (HT.sIx xs.length 0 lo)).take (HT.sIx xs.length xs.length hi-HT.sIx xs.length 0 lo),tI.new _ _⟩
def MY(K:⇑0):R2:=λx y H Q=>∃a b xs ys,x=.ref a/\y=.ref b/\fj K H a xs/\fj K H b ys/\xs≠[]/\xs.length+ys.length<=Uj/\(ys=[]->Q (.ref a) H)/\(ys≠[]->∀p,H p=none->Q (.ref p) (cg H p (.tup (xs++ys))))
theorem bc.nil_iff{xs:List V}{us:List TL}(r:bc xs us):us=[]↔xs=[]:=by cases r with|nil=>simp|cons _ _=>simp
theorem Ie:lS X (Vg .Add) (MY X.K):=by intro pins s σ H x y v u Q I rx ry h;obtain⟨a,b,xs,ys,rfl,rfl,ha,hb,hx,hz,q1,q2⟩:=h;cases rx;cases ry;obtain⟨its,r1,p1,_⟩:=I.tuple ha;obtain⟨its2,r2,p2,_⟩:=I.tuple hb;refine HT.cat_tup p1 p2 (λz=>hx (r1.nil_iff.mp z)) (λz=>⟨.ref a,H,I,rfl,q1 (r2.nil_iff.mp z)⟩) (λz=>?_) (by rw[<-r1.length,<-r2.length];exact hz);refine⟨.ref ↑s,_,I.laid (t':=s.toks) (o:=.tup (xs++ys)) (λb ob q=>UC _ q) ↥8 ?_,rfl,q2 (λw=>z (r2.nil_iff.mpr w)) _ (I.hok.fresh ↥8)⟩;exact⟨by rw[VO];exact hz,_,r1.append r2,tI.new _ _⟩
end
def oz(n:Nat)(i:Int):Option Nat:=if 0<=i then(if i<n then some i.toNat else none) else if-(n:Int)<=i then some (i+n).toNat else none
def atI{α:Type}(xs:List α)(i:Int):Option α:=(oz xs.length i).bind λj=>xs[j]?
theorem B8{n:Nat}{i:Int}{j:Nat}(h:oz n i=some j):seqIndex? i n=some j/\j<n/\-(n:Int)<=i/\i<n:=by
 unfold oz at h;by_cases h0:0<=i
 ·rw[if_pos h0]at h;by_cases h1:i<n;·rw[if_pos h1]at h;have e:i.toNat=j:=UH h;exact⟨by rw[seqIndex_of h0 h1,e],by lia,by lia,h1⟩
  ·rw[if_neg h1]at h;cases h
 ·rw[if_neg h0]at h;by_cases h1:-(n:Int)<=i;·rw[if_pos h1]at h;have e:(i+n).toNat=j:=UH h;exact⟨by rw[seqIndex_neg ↥0 h1,e],by lia,h1,by lia⟩
  ·rw[if_neg h1]at h;cases h
theorem BI{α:Type}{xs:List α}{i:Int}{v:α}(h:atI xs i=some v):∃j,seqIndex? i xs.length=some j/\xs[j]?=some v/\j<xs.length/\-(xs.length:Int)<=i/\i<xs.length:=by unfold atI at h;cases e:oz xs.length i with|none=>rw[e]at h;cases h|some j=>rw[e]at h;obtain⟨h1,h2,h3,h4⟩:=B8 e;exact⟨j,h1,h,h2,h3,h4⟩
def sI(b:TU):Prop:=∀o i,subscripted b false o i=operate [o,i] (getItem o i)
def G3(X:Cx)(r:R2):Prop:=∀(value slice:TU) (pins:List (TM×Obj)) (s:TQ) (σ:St) (H:Hp) (x y:V) (v u:TL) (Q:VK),aM X pins σ H s->bY x v->bY y u->r x y H Q->subscripted slice false v u=operate [v,u] (getItem v u)->TY (TZ X.prog X.w) X.A (subscriptTail value slice v u) (EP X pins σ Q) X.xe s
def Ox(X:Cx)(id:String)(r:V->List V->Hp->VK->Prop):Prop:=∀(pins:List (TM×Obj)) (s:TQ) (σ:St) (H:Hp) (x:V) (xs:List V) (v:TL) (us:List TL) (Q:VK),aM X pins σ H s->bY x v->bc xs us->r x xs H Q->TY (TZ X.prog X.w) X.A (call (.builtin id) (v::us)) (EP X pins σ Q) X.xe s
section
variable{X:Cx}{a b:TU}{ta tb:TE}{pos:Pos}
theorem G3.or{r r':R2}(h:G3 X r)(h':G3 X r'):G3 X (λx y H Q=>r x y H Q\/r' x y H Q):=by
 intro value slice pins s σ H x y v u Q I rx ry q hs;rcases q with q|q;·exact h value slice pins s σ H x y v u Q I rx ry q hs
 ·exact h' value slice pins s σ H x y v u Q I rx ry q hs
theorem JW{r:R2}(hr:G3 X r)(ha:PE X a ta)(hb:PE X b tb)(hs:sI b):PE X (.Subscript a b pos) (Nj r ta tb):=by intro pins s σ H Q I h;exact Subscript_ (Kl ha hb I h λv u s2 x y H2 I2 rx ry q=>hr a b pins s2 σ H2 x y v u Q I2 rx ry q (hs _ _))
def LF(K:⇑0):R2:=λx y H Q=>∃p xs i v,x=.ref p/\y=.int i/\jU K H p xs/\atI xs i=some v/\Q v H
def M1(K:⇑0):R2:=λx y H Q=>∃p xs i v,x=.ref p/\y=.int i/\fj K H p xs/\atI xs i=some v/\Q v H
theorem B9:G3 X (LF X.K):=by
 intro value slice pins s σ H x y v u Q I rx ry h hs;obtain⟨p,xs,i,z,rfl,rfl,hq,he,q⟩:=h;cases rx;obtain⟨t,rfl⟩:=ry;obtain⟨its,r,pl,hz⟩:=I.list hq;obtain⟨j,h1,h2,h3,h4,h5⟩:=BI he;obtain⟨w,ew,rw'⟩:=r.get h2;have hl:=r.length;have hn:=yf;have fin:EP X pins σ Q w s:=⟨z,H,I,rw',q⟩;by_cases h0:0<=i
 ·have hj:i.toNat=j:=by rw[seqIndex_of h0 h5]at h1;exact UH h1
  exact item_listR pl.isList h0 ↥0 (by rw[hj];simpa using ew) fin hs
 ·have hj:(i+(its.toArray.size:Int)).toNat=j:=by rw[seqIndex_neg ↥0 h4]at h1;rw[Uz,<-hl];exact UH h1
  exact subscriptTail_builtinR (x:=w) pl.isList.typeIs slot_list_getitem.lookup (wpAny_getItem_list_neg (Q:=λr s'=>r=w/\EP X pins σ Q r s') pl.isList ↥0 (by rw[Uz]<;>lia) ↥0 (by rw[hj];simpa using ew) ⟨rfl,fin⟩) hs
theorem KD:G3 X (M1 X.K):=by intro value slice pins s σ H x y v u Q I rx ry h hs;obtain⟨p,xs,i,z,rfl,rfl,hq,he,q⟩:=h;cases rx;obtain⟨t,rfl⟩:=ry;obtain⟨its,r,pl,hz⟩:=I.tuple hq;obtain⟨j,h1,h2,h3,h4,h5⟩:=BI he;obtain⟨w,ew,rw'⟩:=r.get h2;have hl:=r.length;have hn:=yf;have fin:EP X pins σ Q w s:=⟨z,H,I,rw',q⟩;exact subscriptTail_builtinR (x:=w) pl.typeIs WS.lookup (getItem_tuple (j:=j) (Q:=λr s'=>r=w/\EP X pins σ Q r s') pl ↥0 ↥0 (by rw[Uz,<-hl];exact h1) (by simpa using ew) ⟨rfl,fin⟩) hs
theorem Bd(its:List TL)(n j:Nat)(u:TL):Wk (·.setIfInBounds j u) {cls:=.type "list",data:=.seq its.toArray n}={cls:=.type "list",data:=.seq (its.set j u).toArray n}:=by simp[Wk]
theorem aM.lst{pins:List (TM×Obj)}{σ:St}{H:Hp}{s:TQ}{p:TM}{xs:List V}(I:aM X pins σ H s)(h:H p=some (.lst xs)):∃(its:List TL) (n:Nat),bc xs its/\s.heap.get? p=some {cls:=.type "list",data:=.seq its.toArray n}/\xs.length<=Uj:=by obtain⟨z,its,n,r,e⟩:=I.hok p _ h;exact⟨its,n,r,e,z⟩
theorem aM.lstUpd{pins:List (TM×Obj)}{σ:St}{H:Hp}{s:TQ}{p:TM}{xs ys:List V}{its its':List TL}{n n':Nat}{f:Obj->Obj}(I:aM X pins σ H s)(h:H p=some (.lst xs))(ho:s.heap.get? p=some {cls:=.type "list",data:=.seq its.toArray n})(hf:f {cls:=.type "list",data:=.seq its.toArray n}={cls:=.type "list",data:=.seq its'.toArray n'})(r:bc ys its')(hz:ys.length<=Uj)(t:Nat):aM X pins σ (cg H p (.lst ys)) {s with heap:=s.heap.update p f,toks:=t}:=by
 have e:(s.heap.update p f).get? p=some {cls:=.type "list",data:=.seq its'.toArray n'}:=by rw[Heap.get?_update_self f ho (by rw[hf]<;>rfl),hf]
 refine I.write (x:=p) (e:=p) (by rw[h];trivial) (.inl rfl) (λb u hb q=>(Heap.get?_update_other _ _ (UQ hb)).trans q) ⟨_,e⟩ ?_;exact⟨hz,its',n',r,e⟩
def M3:V->V->V->Hp->(Hp->Prop)->Prop:=λo i v H Q=>∃p xs k j,o=.ref p/\i=.int k/\H p=some (.lst xs)/\oz xs.length k=some j/\Q (cg H p (.lst (xs.set j v)))
theorem An:Mb X M3:=by
 intro pins s σ H o i v ov iv u Q I ro ri rv h;obtain⟨p,xs,k,j,rfl,rfl,hp,hj,q⟩:=h;cases ro;obtain⟨t,rfl⟩:=ri;obtain⟨its,n,r,ho,hz⟩:=I.lst hp;obtain⟨h1,h2,h3,h4⟩:=B8 hj;have hl:=r.length;have hn:=yf;have I':aM X pins σ (cg H p (.lst (xs.set j v))) {s with heap:=s.heap.update p (Wk (·.setIfInBounds j u))}:=I.lstUpd hp ho (Bd its n j u) (r.set rv j) (by rw[VG];exact hz) s.toks;by_cases h0:0<=k
 ·have hk:k.toNat=j:=by rw[seqIndex_of h0 h4]at h1;exact UH h1
  exact PySem.W.ki_setAt ho h0 ↥0 (by rw[Uz,<-hl];exact h4) (by rw[hk];exact⟨_,I',q⟩)
 ·have hk:(k+(its.toArray.size:Int)).toNat=j:=by rw[seqIndex_neg ↥0 h3]at h1;rw[Uz,<-hl];exact UH h1
  exact PySem.W.ki_setBack ho ↥0 (by rw[Uz,<-hl];exact h3) ↥0 (by rw[hk];exact⟨_,I',q⟩)
theorem yE(lo hi:Option Int)(n:Nat):(WT lo hi none n).1=((HT.sIx n 0 lo:Nat):Int)/\(WT lo hi none n).2.1=((HT.sIx n n hi:Nat):Int)/\(WT lo hi none n).2.2=1:=by
 refine⟨?_,?_,rfl⟩;·cases lo with|none=>simp[WT,HT.sIx]|some i=>
  simp only[WT,HT.sIx,Option.getD_none,show(1:Int)>0 by decide,if_true];by_cases h:i<0;·simp only[h,if_true]<;>lia
  ·simp only[h,if_false]<;>lia
 ·cases hi with|none=>simp[WT,HT.sIx]|some i=>
  simp only[WT,HT.sIx,Option.getD_none,show(1:Int)>0 by decide,if_true];by_cases h:i<0;·simp only[h,if_true]<;>lia
  ·simp only[h,if_false]<;>lia
theorem vP(its:List TL)(lo hi:Option Int):slicePick its.toArray lo hi none=((its.drop (HT.sIx its.length 0 lo)).take (HT.sIx its.length its.length hi-HT.sIx its.length 0 lo)).toArray:=by obtain⟨h1,h2,h3⟩:=yE lo hi its.toArray.size;unfold slicePick;rw[h1,h2,h3];simp only[sliceRange_one,pick_run,Uz]<;>rfl
def M4(K:⇑0):V->Option Int->Option Int->Hp->VK->Prop:=λx lo hi H Q=>∃a xs,x=.ref a/\jU K H a xs/\∀p,H p=none->Q (.ref p) (cg H p (.lst (vg xs lo hi)))
theorem IZ:Hb X (M4 X.K):=by intro pins s σ H x v vl vu lo hi sl Q I rx hs pl pu h;obtain⟨a,xs,rfl,hx,q⟩:=h;cases rx;obtain⟨its,r,ht,hz⟩:=I.list hx;have hlen:=r.length;refine⟨"list",_,slot_list_getitem.lookup,ht.isList.typeIs,?_⟩;refine wpAny_getItem_list_slice ht.isList hs pl pu .none ↥1 ?_ (by rw[Uz]<;>lia);rw[vP,<-hlen];refine⟨.ref ↑s,_,I.laid (t':=s.toks) (o:=.lst (vg xs lo hi)) (λb ob q=>UC _ q) ↥8 ?_,rfl,q _ (I.hok.fresh ↥8)⟩;exact⟨UN (rC xs lo hi) hz,_,0,(r.drop (HT.sIx xs.length 0 lo)).take (HT.sIx xs.length xs.length hi-HT.sIx xs.length 0 lo),UT _ rfl⟩
theorem pj:fR X (.builtin "len") (λxs H Q=>∃p ys,xs=[.ref p]/\(jU X.K H p ys\/fj X.K H p ys)/\Q (.int ys.length) H):=by
 intro pins s σ H xs us Q I r h;obtain⟨p,ys,rfl,hq,q⟩:=h;obtain⟨u,rfl,rx⟩:=AE r;cases rx;have hn:=yf;rcases hq with hq|hq;·obtain⟨its,r',pl,hz⟩:=I.list hq;have hlen:=r'.length;exact Calls.call_len_list pl.isList (by simp only[Uz]<;>lia) ⟨.int ys.length,H,I.tok _,⟨s.toks+1,by rw[Uz,hlen]⟩,q⟩
 ·obtain⟨its,r',pl,hz⟩:=I.tuple hq;have hlen:=r'.length;exact len_tuple pl (by simp only[Uz]<;>lia) ⟨.int ys.length,H,I.tok _,⟨s.toks+1,by rw[Uz,hlen]⟩,q⟩
theorem vf:fR X (.type "tuple") (λxs H Q=>∃p ys,xs=[.ref p]/\((jU X.K H p ys/\∀l,H l=none->Q (.ref l) (cg H l (.tup ys)))\/(fj X.K H p ys/\Q (.ref p) H))):=by
 intro pins s σ H xs us Q I r h;obtain⟨p,ys,rfl,h⟩:=h;obtain⟨u,rfl,rx⟩:=AE r;cases rx;rcases h with⟨hq,q⟩|⟨hq,q⟩;·obtain⟨its,r',pl,hz⟩:=I.list hq;have hlen:=r'.length;refine call_tuple_list pl.isList (λh' kp=>?_) (by simp only[Uz]<;>lia);have I1:aM X pins σ H {s with heap:=h'}:=I.kept (t':=s.toks) kp;have I2:aM X pins σ (cg H h'.objs.size (.tup ys)) {s with heap:=h'.push {cls:=.type "tuple",data:=.seq its.toArray}}:=I1.laid (t':=s.toks) (λb o e=>UC _ e) ↥8 (show jr X.prog X.w _ _ _ (.tup ys) from⟨hz,its,r',tI.new _ _⟩);exact⟨.ref h'.objs.size,_,I2,rfl,q _ (I1.hok.fresh ↥8)⟩
 ·obtain⟨its,r',pl,hz⟩:=I.tuple hq;exact call_tuple_same pl ⟨.ref p,H,I,rfl,q⟩
def OI(K:⇑0)(T:String)(x:V)(H:Hp):Prop:=match x with|.str _=>T="str"|.int _=>T="int"|.ref p=>(T="list"/\∃xs,jU K H p xs)\/(T="tuple"/\∃o,K.lookup p=some o/\o.cls=.type "tuple"/\o.dict=none)\/(T="dict"/\((∃kvs,H p=some (.dK kvs))\/∃kvs,H p=some (.dT kvs)))\/(T="set"/\∃S n,H p=some (.set S n))|_=>False
theorem L0{pins:List (TM×Obj)}{σ:St}{H:Hp}{s:TQ}{T:String}{x:V}{v:TL}(I:aM X pins σ H s)(r:bY x v)(ty:OI X.K T x H):
 s.TypeIs v T/\∀a,v=.ref a->∃ob,s.heap.get? a=some ob/\ob.dict=none:=by cases x with|str z=>obtain⟨t,rfl⟩:=r;cases (show T="str"from ty);exact⟨typeIs_str s z t,λ_ e=>nomatch e⟩|int i=>obtain⟨t,rfl⟩:=r;cases (show T="int"from ty);exact⟨XF s i t,λ_ e=>nomatch e⟩|ref p=>
  cases r;rcases ty with⟨rfl,xs,hq⟩|⟨rfl,o,hk,hc,hd⟩|⟨rfl,hk⟩|⟨rfl,S,n,hk⟩;·obtain⟨its,_,pl,_⟩:=I.list hq;refine⟨pl.isList.typeIs,λa e=>?_⟩;cases e;obtain⟨o,n,e,c,hd,_⟩:=pl;exact⟨o,e,hd⟩
  ·refine⟨⟨o,I.kIn p o hk,hc⟩,λa e=>?_⟩;cases e;exact⟨o,I.kIn _ o hk,hd⟩
  ·have z:∃o,s.heap.get? p=some o/\o.ExactDict:=by
    rcases hk with⟨kvs,hk⟩|⟨kvs,hk⟩;·obtain⟨_,_,_,_,o,_,_,e,ex,_⟩:=I.hok p _ hk;exact⟨o,e,ex⟩
    ·obtain⟨_,_,_,_,o,_,_,e,ex,_⟩:=I.hok p _ hk;exact⟨o,e,ex⟩
   obtain⟨o,e,ex⟩:=z;refine⟨⟨o,e,ex.1⟩,λa e2=>?_⟩;cases e2;exact⟨o,e,ex.2.1⟩
  ·obtain⟨o,_,_,_,e,ex,_⟩:=I.hok p _ hk;refine⟨⟨o,e,ex.1⟩,λa e2=>?_⟩;cases e2;exact⟨o,e,ex.2.1⟩|_=>exact VX ty
def OF(K:⇑0)(T:String)(r:V->List V->Hp->VK->Prop)(to:TE)(t:TA):TE:=λσ H Q=>to σ H λx H1=>OI K T x H1/\t σ H1 λxs H2=>r x xs H2 Q
variable{o e:TU}{es:List TU}{to:TE}{t:TA}{name:Str}{apos cpos:Pos}{T id:String}{r:V->List V->Hp->VK->Prop}
theorem Fq(pa:PlainAttrs T)(slot:Slot T name id)(hty:typeOf (.builtin id)=pure (.type "method_descriptor"))(hm:Ox X id r)(ho:PE X o to)(ha:PA X (e::es) t)(hbase:WU o name X.env (Ui o X.env)=Ui o X.env:=by rfl)(hfew:((UD cpos (Ue (e::es) X.env)).all (λx=>!x.1)&&(backToKw cpos (WV [] X.env)).all (λx=>x.1.isSome)&&decide ((e::es).length+([]:List Vn).length+(if ([]:List Vn).isEmpty then 0 else 1)<30))=true:=by rfl)(hline:(apos.endLine==cpos.line)=true:=by rfl)(hs:Ue (e::es) X.env=(false,Ui e X.env)::Ue es X.env:=by rfl)(hplain:(UD cpos (Ue es X.env)).any (·.1)=false:=by rfl):PE X (.Call (.Attribute o name apos) (e::es) [] cpos) (OF X.K T r to t):=by intro pins s σ H Q I h;refine wpAny_Call_method_late hbase hfew hline rfl (dn (ho pins s σ H _ I h) λv s1⟨x,H1,I1,r1,ty,q1⟩=>?_);obtain⟨h1,h2⟩:=L0 I1 r1 ty;refine⟨T,id,pa,slot,hty,h1,h2,?_⟩;have hA:=ha cpos pins s1 σ H1 _ I1 q1;rw[hs]at hA⊢;refine Calls.callWith_builtin (by show(false||(UD cpos (Ue es X.env)).any (·.1))=false;rw[hplain]<;>rfl) (Calls.evalArgs_plain ?_);exact dn hA λus s2⟨vs,H2,I2,r2,q2⟩=>hm pins s2 σ H2 x vs v us Q I2 r1 r2 q2
end
def NR(X:Cx)(id:String)(r:V->List V->Hp->VK->Prop):Prop:=∀(pins:List (TM×Obj)) (s:TQ) (σ:St) (H:Hp) (x:V) (xs:List V) (v:TL) (us:List TL) (Q:VK),aM X pins σ H s->bY x v->bc xs us->r x xs H Q->TY (TZ X.prog X.w) X.A (call (.builtin id) (v::us)) (EP X pins σ Q) X.xe s
theorem bc.one:∀{x:V}{us:List TL},bc [x] us->∃u,us=[u]/\bY x u|_,_,.cons r .nil=>⟨_,rfl,r⟩
theorem bc.eraseIdx:∀{xs:List V}{us:List TL}(i:Nat),bc xs us->bc (xs.eraseIdx i) (us.eraseIdx i)|_,_,_,.nil=>.nil|_,_,0,.cons _ t=>t|_,_,i+1,.cons r t=>.cons r (bc.eraseIdx i t)
theorem bc.rep{xs:List V}{us:List TL}(h:bc xs us):∀k:Nat,bc (Ug k xs).flatten (Ug k us).flatten|0=>.nil|k+1=>by rw[Wm,Wm,XG,XG];exact bc.append h (bc.rep h k)
theorem wN{α:Type}:∀(l:List α) (i:Nat),(l.eraseIdx i).length<=l.length|[],_=>VA _|_::_,0=>Nat.le_succ _|_::r,i+1=>Nat.succ_le_succ (wN r i)
theorem wC(its:List TL):∀(k:Nat) (acc:List TL),Xk (λx1 x2=>x1++x2) acc.toArray (Ug k its.toArray)=(acc++(Ug k its).flatten).toArray
 |0,acc=>by simp|k+1,acc=>by
  have e:acc.toArray++its.toArray=(acc++its).toArray:=by simp
  have e2:(acc++its)++(Ug k its).flatten=acc++(Ug (k+1) its).flatten:=by rw[Wm,XG,WX]
  rw[<-e2,<-wC its k (acc++its),<-e,Wm,List.foldl_cons]
section
variable{X:Cx}{pins:List (TM×Obj)}{σ:St}{H:Hp}{s:TQ}{l b:TM}{xs ys zs:List V}
theorem aM.lset{its its':List TL}{n:Nat}{f:Array TL->Array TL}{t':Nat}(I:aM X pins σ H s)(hH:H l=some (.lst xs))(e:s.heap.get? l=some {cls:=.type "list",data:=.seq its.toArray n})(hf:f its.toArray=its'.toArray)(hv:bc ys its')(hz:ys.length<=Uj):aM X pins σ (cg H l (.lst ys)) {s with heap:=s.heap.update l (Wk f),toks:=t'}:=by have q:=PySem.IsL.update e f;rw[hf]at q;refine I.write (x:=l) (e:=l) (by rw[hH];exact trivial) (.inl rfl) (λb' u hb hu=>(Heap.get?_update_other s.heap (Wk f) (UQ hb)).trans hu) ⟨_,q⟩ ?_;exact⟨hz,its',_,hv,q⟩
theorem aM.lnew{its:List TL}{t':Nat}(I:aM X pins σ H s)(hv:bc ys its)(hz:ys.length<=Uj):aM X pins σ (cg H ↑s (.lst ys)) {s with heap:=s.heap.push {cls:=.type "list",data:=.seq its.toArray},toks:=t'}:=I.laid (λ_ _ q=>UC _ q) ↥8 ⟨hz,its,0,hv,UT _ rfl⟩
theorem aM.fresh(I:aM X pins σ H s):H ↑s=none:=I.hok.fresh ↥8
theorem aM.lstM(I:aM X pins σ H s)(hH:H l=some (.lst xs)):xs.length<=Uj/\∃(its:List TL) (n:Nat),bc xs its/\xs.length=its.length/\s.heap.get? l=some {cls:=.type "list",data:=.seq its.toArray n}:=by obtain⟨z,its,n,r,e⟩:=I.hok l _ hH;exact⟨z,its,n,r,r.length,e⟩
theorem zR{n:Nat}(h:n<=Uj):Yi n=false:=by unfold Yi;exact decide_eq_false ↥0
end
section
variable{X:Cx}
def Ck:V->List V->Hp->VK->Prop:=λx vs H Q=>∃l xs y,x=.ref l/\vs=[y]/\H l=some (.lst xs)/\xs.length<Uj/\Q .non (cg H l (.lst (xs++[y])))
theorem nc:NR X "list.append" Ck:=by intro pins s σ H x vs v us Q I rx rv h;obtain⟨l,xs,y,rfl,rfl,hH,hz,q⟩:=h;cases rx;obtain⟨u,rfl,ru⟩:=rv.one;obtain⟨z,its,n,r,hl,e⟩:=I.lstM hH;refine Wn YJ ⟨_,e,rfl⟩ F.entry_list_append (F.args_list_append_2 _ _) (PySem.list_append l its.toArray n u (by rw[Uz];lia)) ⟨e,?_⟩;refine⟨.non,_,I.lset (its':=its++[u]) hH e ↥1 (r.append (.cons ru .nil)) ?_,rfl,q⟩;rw[VO,List.length_singleton];lia
def IT:V->List V->Hp->VK->Prop:=λx vs H Q=>∃l b xs zs,x=.ref l/\vs=[.ref b]/\H l=some (.lst xs)/\H b=some (.lst zs)/\xs.length+zs.length<=Uj/\Q .non (cg H l (.lst (xs++zs)))
theorem Da:NR X "list.extend" IT:=by
 intro pins s σ H x vs v us Q I rx rv h;obtain⟨l,b,xs,zs,rfl,rfl,hH,hB,hz,q⟩:=h;cases rx;obtain⟨u,rfl,ru⟩:=rv.one;cases ru;obtain⟨z,its,n,r,hl,e⟩:=I.lstM hH;obtain⟨z2,its2,n2,r2,hl2,e2⟩:=I.lstM hB;have hsz:its.toArray.size+its2.toArray.size<=Uj:=by rw[Uz,Uz];lia
 have hlong:¬(!its.toArray.isEmpty&&Yi (its.toArray.size+its2.toArray.size))=true:=by rw[zR hsz,Bool.and_false];exact Vw
 refine Wn F.slot_list_extend ⟨_,e,rfl⟩ F.entry_list_extend (F.args_list_extend_2 _ _) (AutoSeq1.list_extend_list_list_0 l its.toArray n b its2.toArray n2 hlong (by rw[Uz];lia) ↥0) ⟨e,e2,?_⟩;refine⟨.non,_,I.lset (its':=its++its2) hH e ↥1 (r.append r2) ?_,rfl,q⟩;rw[VO];lia
def FZ:V->List V->Hp->VK->Prop:=λx vs H Q=>∃l xs i k y,x=.ref l/\vs=[.int i]/\H l=some (.lst xs)/\-(2^63)<=i/\i<2^63/\seqIndex? i xs.length=some k/\xs[k]?=some y/\Q y (cg H l (.lst (xs.eraseIdx k)))
theorem E8:NR X "list.pop" FZ:=by
 intro pins s σ H x vs v us Q I rx rv h;obtain⟨l,xs,i,k,y,rfl,rfl,hH,h1,h2,hk,hy,q⟩:=h;cases rx;obtain⟨u,rfl,ru⟩:=rv.one;obtain⟨t,rfl⟩:=ru;obtain⟨z,its,n,r,hl,e⟩:=I.lstM hH;obtain⟨w,hw,rw'⟩:=r.get hy;refine Wn F.slot_list_pop ⟨_,e,rfl⟩ F.entry_list_pop (F.args_list_pop_2 _ _) (MeetsSeq.list_pop_at l its.toArray n i t k w (fitsIndex_both h1 h2) (by rw[Uz,<-hl];exact hk) (by rw[<-Array.getElem?_toList];exact hw) (by rw[Uz];lia)) ⟨e,?_⟩;refine⟨y,_,I.lset (its':=its.eraseIdx k) hH e ?_ (r.eraseIdx k) ?_,rw',q⟩;·show its.toArray.eraseIdxIfInBounds k=(its.eraseIdx k).toArray;rw[List.eraseIdxIfInBounds_toArray]
 ·have:=wN xs k;lia
def LC:R2:=λx y H Q=>∃l b xs zs,x=.ref l/\y=.ref b/\H l=some (.lst xs)/\H b=some (.lst zs)/\xs.length+zs.length<=Uj/\∀p,H p=none->Q (.ref p) (cg H p (.lst (xs++zs)))
theorem K9:lS X (Vg .Add) LC:=by
 intro pins s σ H x y v u Q I rx ry h;obtain⟨l,b,xs,zs,rfl,rfl,hH,hB,hz,q⟩:=h;cases rx;cases ry;obtain⟨z,its,n,r,hl,e⟩:=I.lstM hH;obtain⟨z2,its2,n2,r2,hl2,e2⟩:=I.lstM hB;refine PySem.P.add_list e e2 ?_ (by rw[Uz,Uz];lia);have ea:its.toArray++its2.toArray=(its++its2).toArray:=by simp
 rw[ea];exact⟨.ref _,_,I.lnew (t':=s.toks) (r.append r2) (by rw[VO];lia),rfl,q _ I.fresh⟩
def LG:R2:=λx y H Q=>∃l k xs,x=.ref l/\y=.int k/\H l=some (.lst xs)/\-(2^63)<=k/\k<2^63/\xs.length*k.toNat<=Uj/\∀p,H p=none->Q (.ref p) (cg H p (.lst (Ug k.toNat xs).flatten))
theorem HL{α:Type}(xs:List α)(k:Nat):(Ug k xs).flatten.length=k*xs.length:=by induction k with|zero=>simp|succ k ih=>rw[Wm,XG,VO,ih,Nat.succ_mul,Nat.add_comm]
theorem Ld:lS X (Vg .Mult) LG:=by
 intro pins s σ H x y v u Q I rx ry h;obtain⟨l,k,xs,rfl,rfl,hH,h1,h2,hz,q⟩:=h;cases rx;obtain⟨t,rfl⟩:=ry;obtain⟨z,its,n,r,hl,e⟩:=I.lstM hH;have hlen:its.toArray.size*k.toNat<=Uj:=by rw[Uz,<-hl];exact hz
 have hcap:¬its.toArray.size*k.toNat>(2^63-1)/8:=by
  have:(Uj:Nat)<=(2^63-1)/8:=by decide
  lia
 have hfit:¬(!Builtin.List.listFitsIndex k)=true:=by rw[fitsIndex_both h1 h2];exact Vw
 have hlong:¬Yi (its.toArray.size*k.toNat)=true:=by rw[zR hlen];exact Vw
 have hnew:Xk (λx1 x2=>x1++x2) #[] (Ug (if its.toArray.isEmpty=true then 0 else k.toNat) its.toArray)=(Ug k.toNat its).flatten.toArray:=by
  have f0:∀m:Nat,Xk (λx1 x2=>x1++x2) #[] (Ug m its.toArray)=(Ug m its).flatten.toArray:=λm=>by have:=wC its m [];rw[Ux]at this;exact this
  rw[f0];cases its with|nil=>simp|cons a r'=>rw[if_neg ↥1]
 refine wpAny_binaryOp_repeat_ref (T:="list") (U:="int") ⋯ ⟨_,e,rfl⟩ (λs'=>XF s' k t) noFill_list_mul F.fills_int_mul Yj repeat_list F.slot_int_index.lookup (Wn Yj (XF s k t) F.entry_int_rmul (F.args_int_rmul_2 _ _) (int___rmul___int_list k t l its.toArray n) ⟨e,rfl,⟨_,e,rfl⟩,Wn F.slot_list_mul ⟨_,e,rfl⟩ F.entry_list_mul (F.args_list_mul_2 _ _) (AutoListH.list___mul___list_int_3 l its.toArray n k t hfit hcap hlong) ⟨e,?_⟩⟩);rw[hnew];exact⟨.ref _,_,I.lnew (t':=s.toks) (r.rep k.toNat) (by rw[HL,Nat.mul_comm];exact hz),rfl,q _ I.fresh⟩
end
section
variable{prog:Uc}{w:TX}{A:Ud}{E:TL->TQ->Prop}{s:TQ}
end
section
variable{X:Cx}
end
end L2
namespace Att
open PySem PySem.W PySem.Calls PyProof.Rows
theorem sr{P:Params}{h:Ua}:∀(ns:List Int) (vs:List TL),WellAll P h vs (ns.map WData.int)->IntsAre vs ns:=by intro ns;induction ns with|nil=>intro vs w;rw[Uv]at w;cases w;exact .nil|cons n ns ih=>intro vs w;rw[Uo]at w;cases w with|cons a b=>cases a;exact .cons _ _ (ih _ b)
theorem Dx{l:OpenLaw}{n:Nat}(hn:l.most=some n){P:Params}{h:Ua}{args:List WData}{vals:List TL}(hpre:l.row.toRowW.claim.pre args=true)(hwl:WellAll P h vals args):∃a vs ns,vals=[Value.ref a]/\args=[WData.list (ns.map WData.int)]/\h.get? a=some {cls:=.type "list",data:=.seq vs.toArray}/\IntsAre vs ns/\ns.length<=n:=by
 have hsh:WShape.hasAll [] args [.list .int]=true:=(pre_splitW hpre).1;have hc:l.pre.holds [] {args:=args}=true:=(pre_splitW hpre).2;obtain⟨d,r,rfl,h1,h2⟩:=hasAllW_cons hsh;obtain rfl:=hasAllW_nil h2;obtain⟨xs,rfl,h3⟩:=hasW_list h1;obtain⟨ns,rfl⟩:=items_int h3;have hlen:ns.length<=n:=by
  unfold OpenLaw.pre at hc;have h4:(WTm.not (.lt (.lit (.int (n:Int))) (.len (.arg 0)))).holds [] {args:=[.list (ns.map .int)]}=true:=by have h4:=(holds_andW hc).1;rw[hn]at h4;exact h4
  have h5:=condW_of h4 (w_not (w_lt w_lit (w_len_list (w_arg rfl))));rw[Uq]at h5;refine Nat.le_of_not_lt λq=>?_;have q':(n:Int)<((ns.length:Nat):Int):=by lia
  first|(rw[decide_eq_true q']at h5;exact absurd h5 ⋯)|(simp at h5;lia)
 cases hwl with|cons w1 w2=>cases w2;cases w1 with|list ho hall=>exact⟨_,_,ns,rfl,rfl,ho,sr ns _ hall,hlen⟩
theorem Dr(l:OpenLaw)(args:List WData):l.row.toRowW.claim.post args (.bool true) args=true:=postW_of (r:=l.row.toRowW) (X:=(true==true)) (show WShape.has [] (.bool true) .bool=true by first|rfl|decide|simp[WShape.has,WShape.arms,WShape.armsAll]) (show(WTm.eq .res (.lit (.bool true))).value [] {args:=args,res:=some (.bool true),after:=args}=some (.bool (true==true)) from w_eq_bool (w_res rfl) w_lit) rfl
theorem attach_call{l:OpenLaw}{n:Nat}{q:Uc}{loose:List Str}{XP:(Str->Option TL)->Ua->Prop}{YP:TX->Ua->Prop}{d:DefRec}(hn:l.most=some n)(hdf:d.params.defaults=[])(call:∀(w:TX) (s₀ s₁:TQ) (mg mb:Str->Option TL) (fa:TM) (o:Obj) (pm cd doc:TL) (a:TM) (vs:List TL) (ns:List Int),Ground q loose [] XP w s₀ mg mb s₁.heap->YP w s₁.heap->s₁.heap.get? fa=some o->o.data=.func (docDef d.name d.params d.body d.scope pm cd doc)->s₁.heap.CodeRec cd d.name->mg d.name=some (.ref fa)->s₁.heap.get? a=some {cls:=.type "list",data:=.seq vs.toArray}->IntsAre vs ns->ns.length<=n->s₁.gens=#[]->VE (TZ l.prog w) callerA (.call (.ref fa) ⟨[.ref a],[]⟩) (λr s'=>r=.ok (.ret (.bool true))/\OldK s₁.heap s'.heap/\s'.os=s₁.os/\AllBare s'.gens) s₁):WalkO q loose XP YP l.row.toRowW d [] (λf vs=>PySem.call f vs):=by intro w s₀ s₁ mg mb G Y fa o pm cd doc dV kV ho hd hcd hD hmg hg args vals as hpre hlay hrd hwl hlo;obtain rfl:dV=.none:=Dflts.none hD hdf;obtain rfl:kV=.none:=Dflts.noKw hD;obtain⟨a,vs,ns,rfl,rfl,hobj,hints,hlen⟩:=Dx hn hpre hwl;refine enter_call (codeAny_mono (call w s₀ s₁ mg mb fa o pm cd doc a vs ns G Y ho (fd_plain hd) hcd hmg hobj hints hlen hg) λr s' hq=>?_);obtain⟨rfl,h2,h3,h4⟩:=hq;exact⟨.inl ⟨.bool true,.bool true,[],rfl,λ_=>rfl,.bool true,Dr l _,λ_=>⟨List.Pairwise.nil,λ_ hm=>(nomatch hm)⟩⟩,h2,h3,h4⟩
section
variable{prog:Uc}{w:TX}{A:Ud}{E:TL->TQ->Prop}{s:TQ}{K:Frag}
end
end Att
namespace L2
open PySem PySem.Spec PyProof.Rows
theorem q5:∀{vs:List TL}{ns:List Int},IntsAre vs ns->bc (ns.map V.int) vs|_,_,.nil=>.nil|_,_,.cons n t h=>.cons ⟨t,rfl⟩ (q5 h)
def Kh(H:Hp):Prop:=∀b,H b=none\/∃o xs,H b=some (.frz o (.lst xs))
theorem EY{P:Uc}{w:TX}{K:⇑0}{mg mb:Str->Option TL}{CX:AH}{k:Nat}{fa a:TM}{fd:UM}{x:Str}{sp:Sp}{s₁:TQ}{vs:List TL}{ns:List Int}(KX:K.In s₁.heap)(hns:s₁.heap.Ns UV mg)(hb:s₁.heap.Ns builtinsNs mb)(hbb:∀x:Str,x≠"__name__"->mb x=Vu x)(hlim:s₁.heap.NoLimit)(hg:s₁.gens=#[])(ha:s₁.heap.get? a=some {cls:=.type "list",data:=.seq vs.toArray})(hi:IntsAre vs ns)(hl:ns.length<=Uj)(hr:eB k callerA)(F:∀base:Ua,K.In base->base.Ns UV mg->bh P w K mg base CX k fa fd [x] sp)(hbind:∀(s:TQ) (u:TL),BindsTo s fd ⟨[u],[]⟩ [(x,u)])(hsp:∀H:Hp,Kh H->jU K H a (ns.map V.int)->sp [.ref a] H (λv _=>v=.bl true) λ_ _ _=>False)(hCX:∀H e s',CX [] H s₁ (λ_ _ _=>False) e s'->False):VE (TZ P w) callerA (.call (.ref fa) ⟨[.ref a],[]⟩) (λr s'=>r=.ok (.ret (.bool true))/\OldK s₁.heap s'.heap/\s'.os=s₁.os/\AllBare s'.gens) s₁:=by
 have rv:=q5 hi;have lenV:=hi.length;have core:∀H:Hp,Kh H->jU K H a (ns.map V.int)->sG P w H s₁.heap->(∀b,H b≠none->b=a)->(H a≠none->K.lookup a=none)->VE (TZ P w) callerA (.call (.ref fa) ⟨[.ref a],[]⟩) (λr s'=>r=.ok (.ret (.bool true))/\OldK s₁.heap s'.heap/\s'.os=s₁.os/\AllBare s'.gens) s₁:=by
  intro H hO hS hok hA hK;have base_of:∀{b:TM}{o:Obj},s₁.heap.get? b=some o->H b=none->(xS s₁.heap H).get? b=some o:=λe n=>EH e n;have noA:∀{b:TM}{o:Obj}{es:Array DictEntry}{ep:Nat},s₁.heap.get? b=some o->o.data=.dict es ep->H b=none:=fun{b o es ep}e d=>by cases q:H b with|none=>rfl|some u=>have e':b=a:=hA b (by rw[q];simp);subst e';rw[ha]at e;cases e;have d':Data.seq vs.toArray _=Data.dict es ep:=d;cases d'
  have nsK:∀{b:TM}{m:Str->Option TL},s₁.heap.Ns b m->(xS s₁.heap H).Ns b m:=fun{b m}⟨o,es,ep,e,d,r⟩=>⟨o,es,ep,base_of e (noA e d),d,r⟩;have hKb:K.In (xS s₁.heap H):=λb o e=>base_of (KX b o e) (by cases q:H b with|none=>rfl|some u=>have e':b=a:=hA b (by rw[q];simp);subst e';rw[hK (by rw[q];simp)]at e;cases e);have hM:Mod K mg (xS s₁.heap H):=⟨hKb,nsK hns,⟨mb,nsK hb,hbb⟩,let⟨mc,h1,h2⟩:=hlim;⟨mc,nsK h1,h2⟩⟩;have e0:G' P w K mg (xS s₁.heap H) callerA [] s₁ H:=⟨rfl,hM,λb o e=>HR e,Nat.le_of_eq (C2 _ _),trivial,λb hb=>absurd (show b∈([]:List TM) from hb) ↥1,hok,.of_eq hg⟩;refine codeAny_mono ((F _ hKb (nsK hns)).run callerA [] s₁ H ⟨[.ref a],[]⟩ [.ref a] [.ref a] _ _ hr e0 (hbind s₁ (.ref a)) (.cons rfl .nil) (hsp H hO hS)) λr s' h=>?_;cases r with|error e=>exact(hCX H e s' h).elim|ok fl=>cases fl with|next=>exact VX h|brk=>exact VX h|cont=>exact VX h|ret u=>obtain⟨v,H',os,bare,un,hok',r',q⟩:=h;have q':v=.bl true:=q;subst q';obtain rfl:u=Value.bool true:=r';refine⟨rfl,OldK.of_keep λb o e=>?_,os,bare⟩;cases q:H b with|none=>exact un.keep b o e q (by intro z;exact absurd (show b∈([]:List TM) from z) ↥1) ↥1|some u=>
   rcases hO b with z|⟨ob,xs,z⟩;·rw[q]at z;cases z
   ·have z2:=un.frzs b ob _ z;obtain⟨e1,_⟩:=hok b _ z;obtain⟨e2,_⟩:=hok' b _ z2;rw[e]at e1;cases e1;exact e2
 cases hk:K.lookup a with|some o=>have e:=KX a o hk;rw[ha]at e;cases e;refine core (λ_=>none) (λ_=>.inl rfl) (.inr ⟨_,vs.toArray,_,hk,rfl,rfl,rfl,by rw[Uz,lenV];exact hl,by simpa using rv⟩) (λb u z=>by have z':(none:Option HO)=some u:=z;cases z') (λb z=>absurd rfl z) λz=>absurd rfl z|none=>
  refine core (λb=>if b=a then some (.frz {cls:=.type "list",data:=.seq vs.toArray} (.lst (ns.map V.int))) else none) (λb=>?_) (.inl (.inr ⟨{cls:=.type "list",data:=.seq vs.toArray},if_pos rfl⟩)) (λb u z=>?_) (λb z=>?_) λ_=>hk
  ·by_cases hb:b=a;·exact .inr ⟨_,_,if_pos hb⟩
   ·exact .inl (if_neg hb)
  ·by_cases hb:b=a;·have z':=(if_pos hb).symm.trans z;cases z';subst hb;exact⟨ha,by rw[Uq];exact hl,vs,_,rv,ha⟩
   ·have z':=(if_neg hb).symm.trans z;cases z'
  ·by_cases hb:b=a;·exact hb
   ·exact absurd (if_neg hb) z
theorem walk_of{l:PySem.W.OpenLaw}{n k:Nat}{q:Uc}{loose:List Str}{XP:(Str->Option TL)->Ua->Prop}{YP:TX->Ua->Prop}{d:DefRec}{K:Params->⇑0}{CX:TX->AH}{sp:TX->Sp}{x:Str}(hn:l.most=some n)(hn2:n<=Uj)(hdf:d.params.defaults=[])(hr:eB k callerA)(hY:∀(w:TX) (h:Ua),YP w h->(K w.params).In h)(F:∀(w:TX) (mg:Str->Option TL) (fa:TM) (h:Ua),(K w.params).In h->h.Ns UV mg->mg d.name=some (.ref fa)->∃fd:UM,(∀(s:TQ) (u:TL),BindsTo s fd ⟨[u],[]⟩ [(x,u)])/\∀base:Ua,(K w.params).In base->base.Ns UV mg->bh l.prog w (K w.params) mg base (CX w) k fa fd [x] (sp w))(hsp:∀(w:TX) (H:Hp) (a:TM) (ns:List Int),ns.length<=n->Kh H->jU (K w.params) H a (ns.map V.int)->sp w [.ref a] H (λv _=>v=.bl true) λ_ _ _=>False)(hCX:∀(w:TX) (H:Hp) (s:TQ) (e:TL) (s':TQ),CX w [] H s (λ_ _ _=>False) e s'->False):PySem.W.WalkO q loose XP YP l.row.toRowW d [] (λf vs=>PySem.call f vs):=by refine Att.attach_call hn hdf λw s₀ s₁ mg mb fa o pm cd doc a vs ns G Y ho hd hcd hmg hobj hints hlen hg=>?_;have KX:=hY w _ Y;obtain⟨fd,hb,hF⟩:=F w mg fa _ KX G.T.g hmg;exact EY KX G.T.g G.T.b G.T.builtins G.T.nolimit hg hobj hints (UN hlen hn2) hr hF hb (λH hO hS=>hsp w H a ns hlen hO hS) λH e s'=>hCX w H s₁ e s'
abbrev el:AH:=λ_ _ _ _ _ _=>False
abbrev E0:XK:=λ_ _ _=>False
theorem MP{X:Cx}:AK el X E0:=λ_ _ _ _ _ _ _ h=>h.elim
structure L9 (K:⇑0) (x qual:Str) (st:Ub) (f:TM) (fd:UM):Prop where
 ex:∃(oc:TL) (od:Option TM) (kV doc pm:TL) (an:Option TM) (cdv ct:TL) (osl:Array (Option TL)),fd=VJ x qual (gc st) (dZ st) (ao st) .none kV doc pm an cdv ct/\K.lookup f=some ⟨oc,od,.func fd,osl⟩/\XE K cdv qual=true
 kp:WQ K (.ref f)=true
section
variable{P:Uc}{w:TX}{K:⇑0}{mg:Str->Option TL}{base:Ua}
theorem L9.ok{x qual:Str}{st:Ub}{f:TM}{fd:UM}{N ps:List Str}{k:Nat}{sp:Sp}(F:L9 K x qual st f fd)(S:av N ps (ao st))(len:∀vs H Q E,sp vs H Q E->vs.length=ps.length)(hbody:∀(cdv:TL) (A:Ud) (outer:List Env) (s:TQ) (H:Hp) (vs:List V) (Q:VK) (E:XK),eB k (A.deeper (envOfC qual (ao st) ↑s f cdv))->sp vs H Q E->∃t,sk (AU el P w K mg base N qual (ao st) f cdv A outer s H E).nox (dZ st) t/\t {nx:=λ_ H'=>Q .non H',rt:=Q} (i6 N vs) H):bh P w K mg base el (k+1) f fd ps sp:=by obtain⟨oc,od,kV,doc,pm,an,cdv,ct,osl,rfl,lk,hcd⟩:=F.ex;refine Mm lk hcd S len λA outer s H vs Q E hr hsp=>?_;obtain⟨t,h,q⟩:=hbody cdv A outer s H vs Q E hr hsp;exact⟨t,h.nox,q⟩
theorem L9.binds{x qual:Str}{st:Ub}{f:TM}{fd:UM}{ps:List Str}(F:L9 K x qual st f fd)(h:∀(kV doc pm:TL) (an:Option TM) (cdv ct:TL) (us:List TL),us.length=ps.length->bindArgs (VJ x qual (gc st) (dZ st) (ao st) .none kV doc pm an cdv ct) ⟨us,[]⟩=pure (ps.zip us)):vX K fd ps []:=by obtain⟨oc,od,kV,doc,pm,an,cdv,ct,osl,rfl,lk,hcd⟩:=F.ex;exact .all (h kV doc pm an cdv ct)
theorem EC{x qual:Str}{st:Ub}{f:TM}{oc:TL}{od an:Option TM}{osl:Array (Option TL)}{kV doc pm cdv ct:TL}(l:K.lookup f=some ⟨oc,od,.func (VJ x qual (gc st) (dZ st) (ao st) .none kV doc pm an cdv ct),osl⟩)(c:XE K cdv qual=true)(k:WQ K (.ref f)=true):L9 K x qual st f (VJ x qual (gc st) (dZ st) (ao st) .none kV doc pm an cdv ct):=⟨⟨oc,od,kV,doc,pm,an,cdv,ct,osl,rfl,l,c⟩,k⟩
end
theorem xg{n:Nat}(h:n<=1000):n<Uj:=YK h ⋯
section
variable{X:Cx}
end
theorem HA{A B:Prop}(h:B):if false=true then A else B:=by rw[if_neg Vw];exact h
theorem HB{A B:Prop}(h:A):if true=true then A else B:=by rw[if_pos rfl];exact h
def aF(H H':Hp):Prop:=∀b o,H b=some o->H' b=some o
theorem aF.refl(H:Hp):aF H H:=λ_ _ h=>h
theorem aF.trans{H H1 H2:Hp}(a:aF H H1)(b:aF H1 H2):aF H H2:=λc o h=>b c o (a c o h)
theorem aF.free{H H':Hp}(e:aF H H'){l:TM}(h:H' l=Option.none):H l=Option.none:=by cases q:H l with|none=>rfl|some o=>rw[e l o q]at h;cases h
theorem aF.seq{K:⇑0}{H H':Hp}{a:TM}{xs:List V}(e:aF H H')(h:jU K H a xs):jU K H' a xs:=by
 rcases h with (h|⟨o,h⟩)|h;·exact .inl (.inl (e _ _ h))
 ·exact .inl (.inr ⟨o,e _ _ h⟩)
 ·exact .inr h
end L2
set_option maxHeartbeats 4000000
namespace L2
open PySem PySem.Spec PyProof.Rows
def Bt(n:Nat)(i:Int):Prop:=i.natAbs<2^n
theorem Bt.mono{m n:Nat}{i:Int}(h:Bt m i)(hm:m<=n):Bt n i:=UU h (XH ⋯ hm)
theorem Bt.mul{m n:Nat}{i j:Int}(h:Bt m i)(h':Bt n j):Bt (m+n) (i*j):=by unfold Bt at*;rw[WY,Nat.pow_add];exact Nat.mul_lt_mul'' h h'
theorem Bt.add{m:Nat}{i j:Int}(h:Bt m i)(h':Bt m j):Bt (m+1) (i+j):=by
 unfold Bt at*;have e:(2:Nat)^(m+1)=2^m+2^m:=by rw[Nat.pow_succ];lia
 rw[e];have:=Int.natAbs_add_le i j;lia
theorem Bt.log{m:Nat}{i:Int}(h:Bt m i)(hm:0<m):i.natAbs.log2<m:=by
 unfold Bt at h;rcases Nat.eq_zero_or_pos i.natAbs with h0|hp;·rw[h0];exact hm
 ·exact(Nat.log2_lt ↥0).mpr h
theorem Bt.bits{m:Nat}{i:Int}(h:Bt m i)(hm:0<m):Builtin.Int.intBits i<=m:=by
 unfold Builtin.Int.intBits;split;·exact Wv _
 ·exact h.log hm
theorem Bt.of_le{m:Nat}{i:Int}{j:Int}(h:Bt m j)(e:i.natAbs<=j.natAbs):Bt m i:=YK e h
section
variable{X:Cx}
def Jx(i j:Int):Prop:=Bt 4000 i/\Bt 4000 j
theorem Ij:lS X (Vg .Mult) (rI Jx λi j=>.int (i*j)):=MK λ_ _ _ _ _ _ _ hc q=>mul_int q (.of_bits (UN (hc.1.bits ⋯) ⋯) (UN (hc.2.bits ⋯) ⋯))
def Jw(i j:Int):Prop:=j≠0/\Bt 8000 j
theorem Fk:lS X (Vg .FloorDiv) (rI Jw λi j=>.int (i.fdiv j)):=MK λ_ _ _ _ _ _ _ hc q=>floordiv_int hc.1 q (.inl (PyProof.noPylong_of_log2 (Nat.lt_trans (hc.2.log ⋯) ⋯)))
end
def rf(H H':Hp):Prop:=∀a o,H a=some o->(∀xs,o≠.lst xs)->(∀ob xs,o≠.frz ob (.lst xs))->H' a=some o
theorem rf.trans{H H1 H2:Hp}(a:rf H H1)(b:rf H1 H2):rf H H2:=λc o h n m=>b c o (a c o h n m) n m
theorem aF.ts{H H':Hp}(h:aF H H'):rf H H':=λa o e _ _=>h a o e
theorem rf.tup{K:⇑0}{H H':Hp}(h:rf H H'){a:TM}{xs:List V}(q:fj K H a xs):fj K H' a xs:=by
 rcases q with (q|⟨o,q⟩)|q;·exact .inl (.inl (h _ _ q (λ_ e=>nomatch e) (λ_ _ e=>nomatch e)))
 ·exact .inl (.inr ⟨o,h _ _ q (λ_ e=>nomatch e) (λ_ _ e=>nomatch e)⟩)
 ·exact .inr q
section
variable{X:Cx}
end
structure eN (K:⇑0) (mg:Str->Option TL) (x:Str) (st:Ub) (f:TM) (fd:UM) (ps:List Str):Prop where
 F:L9 K x x st f fd
 m:mg x=some (.ref f)b:vX K fd ps []
theorem Kx{K:⇑0}{mg:Str->Option TL}{h:Ua}{x:Str}{st:Ub}{f:TM}{ps:List Str}{oc:TL}{od an:Option TM}{osl:Array (Option TL)}{kV doc pm cdv ct:TL}(X:K.In h)(G:h.Ns UV mg)(a:PySem.W.nsIn K UV x=some (some (.ref f)))(l:K.lookup f=some ⟨oc,od,.func (VJ x x (gc st) (dZ st) (ao st) .none kV doc pm an cdv ct),osl⟩)(c:XE K cdv x=true)(k:WQ K (.ref f)=true)(hb:∀(kV doc pm:TL) (an:Option TM) (cdv ct:TL) (us:List TL),us.length=ps.length->bindArgs (VJ x x (gc st) (dZ st) (ao st) .none kV doc pm an cdv ct) ⟨us,[]⟩=pure (ps.zip us)):eN K mg x st f (VJ x x (gc st) (dZ st) (ao st) .none kV doc pm an cdv ct) ps:=⟨EC l c k,PySem.W.mg_of X G a,(EC l c k).binds hb⟩
theorem Oe{X:Cx}{x:Str}{st:Ub}{f:TM}{fd:UM}{ps:List Str}{k:Nat}{sp:Sp}{e:TU}{es:List TU}{t:TA}{p pos:Pos}(h:eN X.K X.mg x st f fd ps)(G:bh X.prog X.w X.K X.mg X.base el k f fd ps sp)(hr:eB k X.A)(ha:PA X (e::es) t)(hg:Gl X x:=by rfl)(hdb:(x==("__debug__":Str))=false:=by decide)(he:Ue (e::es) X.env=(false,Ui e X.env)::Ue es X.env:=by rfl)(hpl:(UD pos (Ue es X.env)).any (·.1)=false:=by rfl):PE X (.Call (.Name x p) (e::es) [] pos) (GE sp [] E0 t):=Io G hr hg h.m h.F.kp h.b .nil MP ha hdb he hpl
theorem aF.new{H:Hp}{p:TM}{o:HO}(h:H p=none):aF H (cg H p o):=λb u e=>by rw[aJ (ii e h)];exact e
theorem aF.tup{K:⇑0}{H H':Hp}{a:TM}{xs:List V}(e:aF H H')(h:fj K H a xs):fj K H' a xs:=e.ts.tup h
def lowM(t b:Int):Int×Int:=if b<0 then(t.fdiv (-(Uk t b:Int)),b.fdiv (-(Uk t b:Int))) else(t.fdiv (Uk t b:Int),b.fdiv (Uk t b:Int))
theorem zy(x y:Int):Uk y (x.fmod y)=Uk x y:=by rw[Int.fmod_def,Int.gcd_sub_mul_left_right,Int.gcd_comm]
theorem jY(x:Int){y:Int}(h:y≠0):(x.fmod y).natAbs<y.natAbs:=by
 rcases Int.lt_or_gt_of_ne h with h|h
 ·have h1:x.fmod y=-((-x).fmod (-y)):=by have:=Int.neg_fmod_neg x y;lia
  have h2:=Int.fmod_nonneg_of_pos (-x) (b:=-y) ↥0;have h3:=Int.fmod_lt_of_pos (-x) (b:=-y) ↥0;lia
 ·have h2:=Int.fmod_nonneg_of_pos x h;have h3:=Int.fmod_lt_of_pos x h;lia
theorem xR{t b:Int}(h:b≠0):(0:Int)<Uk t b:=by have:=Int.gcd_pos_of_ne_zero_right t h;lia
theorem ic{t b:Int}(h:b≠0):∃d:Int,d.natAbs=Uk t b/\d≠0/\(lowM t b).1*d=t/\(lowM t b).2*d=b/\0<(lowM t b).2:=by
 have hg:=xR (t:=t) h;have d1:(Uk t b:Int)∣t:=Int.gcd_dvd_left ..;have d2:(Uk t b:Int)∣b:=Int.gcd_dvd_right ..;unfold lowM;split
 ·rename_i hb;have e1:t.fdiv (-(Uk t b:Int))*(-(Uk t b:Int))=t:=Yk (Int.neg_dvd.mpr d1);have e2:b.fdiv (-(Uk t b:Int))*(-(Uk t b:Int))=b:=Yk (Int.neg_dvd.mpr d2);refine⟨-(Uk t b:Int),by lia,by lia,e1,e2,?_⟩;show 0<b.fdiv (-(Uk t b:Int));have h3:b.fdiv (-(Uk t b:Int))*(Uk t b:Int)=-b:=by rw[Int.mul_neg]at e2;lia
  exact Int.pos_of_mul_pos_left ↥0 ↥0 (b:=(Uk t b:Int))
 ·rename_i hb;have e1:t.fdiv (Uk t b:Int)*(Uk t b:Int)=t:=Yk d1;have e2:b.fdiv (Uk t b:Int)*(Uk t b:Int)=b:=Yk d2;refine⟨(Uk t b:Int),by lia,by lia,e1,e2,?_⟩;show 0<b.fdiv (Uk t b:Int);exact Int.pos_of_mul_pos_left ↥0 ↥0 (b:=(Uk t b:Int))
theorem kY{t b:Int}(h:b≠0):Uk (lowM t b).1 (lowM t b).2=1:=by
 obtain⟨d,h1,h2,h3,h4,h5⟩:=ic (t:=t) h;have e:Uk ((lowM t b).1*d) ((lowM t b).2*d)=Uk (lowM t b).1 (lowM t b).2*d.natAbs:=Int.gcd_mul_right ..;rw[h3,h4,<-h1]at e;have hd:0<d.natAbs:=by lia
 exact(Nat.eq_of_mul_eq_mul_right hd (by rw[Nat.one_mul];exact e)).symm
theorem ue{t b:Int}(h:b≠0):(lowM t b).1*b=(lowM t b).2*t:=by obtain⟨d,h1,h2,h3,h4,h5⟩:=ic (t:=t) h;generalize (lowM t b).1=x at*;generalize (lowM t b).2=y at*;subst h3 h4;rw[<-UG,<-UG,Vp x]
theorem nL{x d:Int}(h:d≠0):x.natAbs<=(x*d).natAbs:=by rw[WY];exact YL _ ↥0
theorem yh{t b:Int}(h:b≠0){n:Nat}(ht:Bt n t)(hb:Bt n b):Bt n (lowM t b).1/\Bt n (lowM t b).2:=by
 obtain⟨d,h1,h2,h3,h4,h5⟩:=ic (t:=t) h;refine⟨ht.of_le ?_,hb.of_le ?_⟩
 ·conv=>rhs;rw[<-h3]
  exact nL h2
 ·conv=>rhs;rw[<-h4]
  exact nL h2
theorem EG{t b:Int}(h:b≠0){n:Nat}(hb:Bt n b):Bt n (Uk t b:Int):=by refine hb.of_le ?_;have h1:=Nat.le_of_dvd (show 0<b.natAbs by lia) (Int.ofNat_dvd.mp (by rw[Int.dvd_natAbs];exact Int.gcd_dvd_right t b));lia
mutual
def cnt:TN->Nat|.tuple ds=>1+oo ds|.str _=>0|_=>1
def oo:List TN->Nat|[]=>0|d::ds=>cnt d+oo ds
end
mutual
def uj:TN->Bool|.tuple ds=>k8 ds|.str _=>false|.list _=>false|.dict _=>false|_=>true
def k8:List TN->Bool|[]=>true|d::ds=>uj d&&k8 ds
end
theorem vj{a:Int}(h:a.natAbs.log2<1920):(Vh (toString a)).length<=1921:=by have e:=int_text_length_le (k:=1920) ⋯ h;rw[YM];lia
theorem uv(x:Str)(r:List Str):piled (x::r)=x.length+2+piled r:=by simp[piled]
theorem xm(ts:List Str):(tupleText ts).length<=piled ts+3:=by
 unfold tupleText;rw[strLen_append,strLen_append];have h1:(("(":Str)).length=1:=by decide
 have h2:(Vh (if (ts.length==1)=true then",)"else")")).length<=2:=by split<;>decide
 have h3:(Str.join ", " ts).length<=piled ts:=by cases ts with|nil=>show(Str.join ", " []).length<=0;decide|cons x r=>have:=join_length_add (x::r) ↥1;lia
 lia
mutual
theorem xc:∀{d:TN},uj d=true->d.showable=true->d.shown.length+2<=2000*cnt d
 |.none,_,_=>by show(Vh "None").length+2<=2000*1;decide|.bool b,_,_=>by
  cases b;·show(Vh "False").length+2<=2000*1;decide
  ·show(Vh "True").length+2<=2000*1;decide|.int i,_,hs=>by simp only[XI,decide_eq_true_eq]at hs;have:=vj hs;show(Vh (toString i)).length+2<=2000*1;lia|.tuple ds,hn,hs=>by simp only[XI]at hs;simp only[uj]at hn;have h1:=qf hn hs;have h2:=xm (VZ ds);simp only[PyData.shown,cnt];lia|.str _,hn,_=>by simp[uj]at hn|.list _,hn,_=>by simp[uj]at hn|.dict _,hn,_=>by simp[uj]at hn
theorem qf:∀{ds:List TN},k8 ds=true->Ww ds=true->piled (VZ ds)<=2000*oo ds|[],_,_=>by simp[VZ,piled]|d::ds,hn,hs=>by simp only[k8,Uw]at hn;simp only[Ww,Uw]at hs;have h1:=xc hn.1 hs.1;have h2:=qf hn.2 hs.2;simp only[VZ,oo,uv];lia
end
def kU(env:Env):List (Str×Vo)->List (Str×TM)->List (Str×TM)|[],cs=>cs|(n,k)::r,cs=>kU env r (if k==.free then(n,(env.cells.lookup n).getD 0)::cs else cs)
theorem pk{env:Env}:∀(names:List (Str×Vo)) (cs:List (Str×TM)),(∀y∈names,y.2=.free->∃c,env.cells.lookup y.1=some c)->(forIn names cs (fun(x:Str×Vo) (r:List (Str×TM))=>(if (x.2==Vx)=true then do let a<-cellOf env x.1;pure (WE ((x.1,a)::r)) else pure (WE r):Sem (ForInStep (List (Str×TM))))):Sem (List (Str×TM)))=pure (kU env names cs)
 |[],cs,_=>rfl|(n,k)::r,cs,h=>by
  rw[List.forIn_cons];have ih:=λcs'=>pk (env:=env) r cs' (λy hy=>h y (VW _ hy));by_cases hk:(k==Vx)=true
  ·have hk':k=.free:=by simpa using hk
   obtain⟨c,hc⟩:=h (n,k) Wr hk';have e:cellOf env n=pure c:=by unfold cellOf;rw[hc]
   simp only[hk,if_true,e,pure_bind,kU,hc,VS];exact ih _
  ·have hk':(k==Vx)=false:=by simpa using hk
   simp only[hk',WZ,if_false,pure_bind,kU];exact ih _
theorem tQ{scope:Us}{env:Env}(h:∀y∈scope.names,y.2=.free->∃c,env.cells.lookup y.1=some c):closureFor scope env=pure (kU env scope.names []):=by have e:=pk (env:=env) scope.names [] h;unfold closureFor;simp only[pure_bind,bind_pure]at e⊢;exact e
theorem tP{env:Env}:∀(names:List (Str×Vo)) (cs:List (Str×TM)) (x:Str) (c:TM),(∀y∈names,y.2=.free->∃c,env.cells.lookup y.1=some c)->(∀x c,cs.lookup x=some c->env.cells.lookup x=some c)->(kU env names cs).lookup x=some c->env.cells.lookup x=some c
 |[],cs,x,c,_,hs,h=>hs x c h|(n,k)::r,cs,x,c,hn,hs,h=>by
  refine tP r _ x c (λy hy=>hn y (VW _ hy)) (λx' c' e=>?_) h;by_cases hk:(k==Vx)=true
  ·rw[if_pos hk]at e;obtain⟨c0,hc⟩:=hn (n,k) Wr (by simpa using hk)
   rw[Wa]at e;cases hx:x'==n with|true=>
    rw[hx]at e;have e1:x'=n:=by simpa using hx
    subst e1;simp only[hc,VS,WJ]at e;rw[<-e];exact hc|false=>rw[hx]at e;exact hs x' c' e
  ·rw[if_neg hk]at e;exact hs x' c' e
theorem zc{env:Env}:∀(names:List (Str×Vo)) (cs:List (Str×TM)) (x:Str),((∃y∈names,y.1=x/\y.2=.free)\/∃c,cs.lookup x=some c)->∃c,(kU env names cs).lookup x=some c
 |[],cs,x,h=>by
  rcases h with⟨y,hy,_⟩|h;·cases hy
  ·exact h|(n,k)::r,cs,x,h=>by
  refine zc r _ x ?_;by_cases hk:(k==Vx)=true;·rw[if_pos hk,Wa];cases hx:x==n with|true=>exact .inr ⟨_,rfl⟩|false=>
   rcases h with⟨y,hy,e1,e2⟩|h
   ·rcases TJ hy with z|z;·subst z;subst e1;simp at hx
    ·exact .inl ⟨y,z,e1,e2⟩
   ·exact .inr h
  ·rw[if_neg hk];rcases h with⟨y,hy,e1,e2⟩|h
   ·rcases TJ hy with z|z;·subst z;exact absurd (by simpa using e2) hk
    ·exact .inl ⟨y,z,e1,e2⟩
   ·exact .inr h
theorem lW{env:Env}:∀{names:List (Str×Vo)}{x:Str},names.lookup x=some .free->(names.map fun(n,k)=>if (k==Vx&&env.scope.kind==.function&&env.kindOf n==some .cell) then(n,Xc) else(n,k)).lookup x≠some .local|[],x,h=>by simp at h|(n,k)::r,x,h=>by rw[Uo];cases hx:x==n with|true=>simp only[hx,Wa]at h;cases h;show XJ x ((if (Vx==Vx&&env.scope.kind==.function&&env.kindOf n==some .cell)=true then(n,Xc) else(n,Vx))::_)≠_;split<;>simp[Wa,hx]|false=>
 simp only[hx,Wa]at h;have ih:=@lW env r x h;have e2:∀(l:List (Str×Vo)),((if (k==Vx&&env.scope.kind==.function&&env.kindOf n==some .cell)=true then(n,Xc) else(n,k))::l).lookup x=l.lookup x:=λl=>by split<;>simp[Wa,hx]
 simp only[e2];exact ih
def tJ(X:Cx)(ifs:List TU)(t:TT):Prop:=∀(pins:List (TM×Obj)) (s:TQ) (σ:L2.St) (H:Hp) (Q:Bool->Hp->Prop),aM X pins σ H s->t σ H Q->TY (TZ X.prog X.w) X.A (forIn ifs true λc r=>if r=true then do let ok<-isTrue c X.env (Ui c X.env);pure (WE ok) else pure (WE r)) (TP X pins σ Q) X.xe s
theorem IJ{X:Cx}:tJ X [] (λ_ H Q=>Q true H):=λ_ _ _ H _ I h=>wpAny_tests_nil ⟨H,I,h⟩
theorem IK{X:Cx}{c:TU}{t:TT}(h:PT X c t):tJ X [c] t:=λpins s σ H Q I q=>wpAny_tests_one (h pins s σ H Q I q)
abbrev Cf:TL->TQ->Prop:=λ_ _=>False
def Es(prog:Uc)(w:TX)(A:Ud)(elt tg:TU)(ifs:List TU)(env:Env)(it acc:TL)(onward:TQ->Prop)(v:TL)(u:TQ):Prop:=TY (TZ prog w) A (WN tg it v) (λ_ u1=>TY (TZ prog w) A (Vr tg env v) (λ_ u2=>TY (TZ prog w) A (forIn ifs true λc r=>if r=true then do let ok<-isTrue c env (Ui c env);pure (WE ok) else pure (WE r)) (λok u3=>if ok=true then TY (TZ prog w) A (Ui elt env) (λx u4=>TY (TZ prog w) A (call (.builtin "list.append") [acc,x]) (λ_ u5=>onward u5) Cf u4) Cf u3 else onward u3) Cf u2) Cf u1) Cf u
theorem xG{prog:Uc}{w:TX}{A:Ud}{R:Result->TQ->Prop}{elt tg iter:TU}{ifs:List TU}{scope:Us}{pos:Pos}{it acc:TL}{env:Env}(J:Nat->TQ->Prop)(turn:∀n u,J n u->TY (TZ prog w) A (VM it) (λr u1=>(r=none->R (.ok .next) u1)/\∀v,r=some v->Es prog w A elt tg ifs env it acc (λu2=>∃m,m<n/\J m u2) v u1) Cf u){n0:Nat}{u0:TQ}(i6:J n0 u0):VE (TZ prog w) A (.compLoop (.ListComp elt [⟨tg,iter,ifs,0⟩] scope pos) 0 it acc env) R u0:=by refine codeAny_loop rfl J (λn u ju=>?_) n0 i6;show TY _ A ((compTurn (.ListComp elt [⟨tg,iter,ifs,0⟩] scope pos) 0 it acc env).onRaise _) _ _ u;refine wpAny_noted ?_;rw[compTurn_list];refine TV (Wi (TV (UE (turn n u ju) (λr u1 k1=>?_) λ_ _ z=>z.elim)));cases r with|none=>exact Uh (k1.1 rfl)|some v=>refine TV (UE (k1.2 v rfl) (λ_ u2 k2=>TV (UE k2 (λ_ u3 k3=>TV (UE k3 (λok u4 k4=>?_) λ_ _ z=>z.elim)) λ_ _ z=>z.elim)) λ_ _ z=>z.elim);cases ok with|false=>rw[if_neg Vw]at k4;exact Uh ⟨rfl,k4⟩|true=>rw[if_pos rfl]at k4;refine TV (TV (UE k4 (λx u5 k5=>TV (UE k5 (λ_ u6 k6=>?_) λ_ _ z=>z.elim)) λ_ _ z=>z.elim));exact Uh (Uh ⟨rfl,k6⟩)
def ji(cp:List (Nat×Str))(nT:Nat)(σ:L2.St):L2.St:=cp.map (λp=>(σ[p.1]?).join)++Ug nT none
structure Cy (cp:List (Nat×Str)) (nT:Nat) (wi:TI) (g:TG) (tc:TT) (te:TE) (σ:L2.St) (H:Hp) (Q:VK):Prop where go:wi σ H λJ H1=>∀l,H1 l=none->∃W:Nat->Nat->L2.St->Hp->Prop,(∃m,W 0 m (ji cp nT σ) (cg H1 l (.lst [])))/\∀i m σ' H',W i m σ' H'->(J.stop i H'/\Q (.ref l) H')\/(J.go i H'/\∃N:L2.St->Hp->Prop,(∀σ2 H2,N σ2 H2->∃m',m'<m/\W (i+1) m' σ2 H2)/\∀x H2,J.yld i H' x H2->g x σ' H2 λσ2 H3=>tc σ2 H3 λb H4=>if b=true then te σ2 H4 λv H5=>∃ys,H5 l=some (.lst ys)/\ys.length<Uj/\N σ2 (cg H5 l (.lst (ys++[v]))) else N σ2 H4)
section
variable{X:Cx}
def FY(K:⇑0):R2:=λx y H Q=>∃a b xs ys,x=.ref a/\y=.ref b/\fj K H a xs/\fj K H b ys/\xs.length+ys.length<=Uj/\∀p H',aF H H'->fj K H' p (xs++ys)->Q (.ref p) H'
theorem Ic:lS X (Vg .Add) (FY X.K):=by
 intro pins s σ H x y v u Q I rx ry h;obtain⟨a,b,xs,ys,rfl,rfl,ha,hb,hz,q⟩:=h;cases rx;cases ry;by_cases hx:xs=[]
 ·obtain⟨i1,r1,p1,_⟩:=I.tuple ha;obtain⟨i2,r2,p2,_⟩:=I.tuple hb;obtain⟨m,F⟩:=I.fr;have e1:i1=[]:=by subst hx;cases r1;rfl
  refine add_tuples F (E_ (g:=X.base)) p1 p2 (λ_=>?_) (λz1 _=>absurd e1 z1) (λz1 _ _ _ _=>absurd e1 z1) (by rw[<-r1.length,<-r2.length];exact hz);exact⟨.ref b,H,I,rfl,q b H (aF.refl H) (by rw[hx];exact hb)⟩
 ·exact Ie pins s σ H (.ref a) (.ref b) _ _ Q I rfl rfl ⟨a,b,xs,ys,rfl,rfl,ha,hb,hx,hz,λz=>q a H (aF.refl H) (by rw[z,Vs];exact ha),λ_ p hp=>q p _ (aF.new hp) (fj.of aH)⟩
theorem ur{x:V}{us:List TL}(r:bc [x] us):∃u,us=[u]/\bY x u:=by cases r with|cons p p'=>cases p';exact⟨_,rfl,p⟩
theorem Ep{k:Nat}(hr:eB k X.A):fR X (.builtin "sum") (λxs H Q=>∃(l:TM) (ns:List Int),xs=[.ref l]/\jU X.K H l (ns.map V.int)/\Q (.int ns.sum) H):=by
 intro pins s σ H xs us Q I r h;obtain⟨l,ns,rfl,hs,q⟩:=h;obtain⟨u,rfl,ru⟩:=ur r;cases ru;obtain⟨its,rv,p,hz⟩:=I.list hs;have hi:IntsAre its ns:=tZ rv;obtain⟨ys,ey⟩:=hi.allInts.items;have hl:=p.isList;rw[ey]at hl;refine PySem.sum_intListG hr.hd hl λh' tk t' hk=>?_;have e:preSum (numAt ys) ys.size=ns.sum:=by have e2:=nums_intItems (xs:=ys);rw[<-ey]at e2;have e3:=hi.numsOf;rw[preSum_eq,List.take_of_length_le ↥1];rw[show its.toArray.toList=its from rfl,e3]at e2;rw[e2]
 exact⟨.int ns.sum,H,I.kept hk,⟨t',by rw[e]⟩,q⟩
theorem ze{prog:Uc}{w:TX}{A:Ud}{E:TL->TQ->Prop}{s:TQ}{t:TM}{vs:List TL}{Q:List TL->TQ->Prop}(ht:IsTup s.heap t vs.toArray)(h:Q vs {s with heap:=(s.heap.push (seqObj "list" #[] 0)).update ↑s (Wk (·++vs.toArray))})(hsz:vs.length<=Uj):TY (TZ prog w) A (collect (.ref t)) Q E s:=by obtain⟨o,ho,hc,n,hd⟩:=id ht;unfold collect;refine TV (wpAny_runValue (codeAny_builtin entry_proto_collect' ?_));show TY _ _ (do again (.builtin "list.__iadd__" ⟨[<-newList [],.ref t],[]⟩)) _ _ s;refine TV (wpAny_newList (Uh ⟨Code.quiet_builtin _ ↥2,?_⟩));refine codeAny_builtin entry_list_iadd' ?_;show TY _ _ (Zb (.ref ↑s) (.ref t) (.ref ↑s)) _ _ {s with heap:=s.heap.push (seqObj "list" #[] 0)};unfold Zb;have ho':(s.heap.push (seqObj "list" #[] 0)).get? t=some o:=UC _ ho;refine TV (wpAny_typeOf (T:="tuple") ⟨o,ho',hc⟩ ?_);rw[if_pos (by rw[show(Value.type "tuple"==Value.type "tuple")=true from rfl,Bool.or_true])];refine TV (listItems_at ho' hd ?_);refine TV (listItems_at (xs:=#[]) (n:=0) (UT _ rfl) rfl ?_);rw[if_neg ↥1];refine TV (listUpdate_at (xs:=#[]) (n:=0) (UT _ rfl) rfl ?_ (Wv _) (by show(#[]++vs.toArray).size<=Uj+1;simp only[Array.size_append,Uz,List.length_nil];lia));refine Uh ?_;show TY (TZ prog w) A (load ↑s>>=λo=>match o.data with|.seq xs _=>pure xs.toList|_=>unsupported "internal:collect") Q E {s with heap:=(s.heap.push (seqObj "list" #[] 0)).update ↑s (Wk (·++vs.toArray))};refine TV (wpAny_load (get?_update_seq (UT _ rfl) _) ?_);show TY _ _ (pure ((#[]:Array TL)++vs.toArray).toList) Q E _;rw[show((#[]:Array TL)++vs.toArray).toList=vs by simp];exact Uh h
theorem Br{prog:Uc}{w:TX}{A:Ud}{E:TL->TQ->Prop}{s:TQ}{t:TM}{vs:List TL}{ns:List Int}{Q:TL->TQ->Prop}(ht:IsTup s.heap t vs.toArray)(hI:IntsAre vs ns)(h64:vs.length<64)(h:∀(out:Array TL) (ns':List Int),IntsAre out.toList ns'->ns'.Perm ns->ns'.Pairwise (·<=·)->Q (.ref (↑s+1)) {s with heap:=sortedAll s.heap vs out}):TY (TZ prog w) A (call (.builtin "sorted") [.ref t]) Q E s:=by
 refine Calls.call_function_entry kind_sorted plain_sorted entry_sorted (args_sorted1 _) ?_;unfold Wb.«sorted»;refine TV (m:=checkCount "sorted" 1 1 _) (Uh ?_);refine TV (ze ht ?_ (UN (WK h64) ⋯));have z:((s.heap.push (seqObj "list" #[] 0)).update ↑s (Wk (·++vs.toArray))).objs.size=↑s+1:=by rw[Heap.size_update,size_push']
 have o:(((s.heap.push (seqObj "list" #[] 0)).update ↑s (Wk (·++vs.toArray))).push (seqObj "list" vs.toArray 0)).get? (↑s+1)=some (seqObj "list" vs.toArray 0):=by rw[<-z];exact UT _ rfl
 refine TV (wpAny_newList ?_);show TY _ _ _ _ _ {s with heap:=((s.heap.push (seqObj "list" #[] 0)).update ↑s (Wk (·++vs.toArray))).push (seqObj "list" vs.toArray 0)};rw[z];refine TV (WL (Wu slot_list_sort ⟨_,o,rfl⟩ entry_list_sort (list_sort_tree o hI h64 λout ns' b1 b2 b3=>⟨_,rfl,?_⟩) (args_list_sort _)));exact Uh ⟨_,rfl,h out ns' b1 b2 b3⟩
theorem y9:fR X (.builtin "sorted") (λxs H Q=>∃(a:TM) (ns:List Int),xs=[.ref a]/\fj X.K H a (ns.map V.int)/\ns.length<64/\∀(l:TM) (ns':List Int) (H':Hp),aF H H'->H l=none->H' l=some (.lst (ns'.map V.int))->ns'.Perm ns->ns'.Pairwise (·<=·)->Q (.ref l) H'):=by
 intro pins s σ H xs us Q I r h;obtain⟨a,ns,rfl,hs,h64,q⟩:=h;obtain⟨u,rfl,ru⟩:=ur r;cases ru;obtain⟨its,rv,p,hz⟩:=I.tuple hs;have hl:=rv.length;rw[Uq]at hl;refine Br p (tZ rv) ↥0 λout ns' a1 a2 a3=>?_;obtain⟨e,he⟩:=sortedAll_at s.heap its out;have hf:H (↑s+1)=none:=I.hok.fresh (Nat.le_succ _);refine⟨.ref (↑s+1),cg H (↑s+1) (.lst (ns'.map V.int)),I.laid (t':=s.toks) (λ_ _=>sortedAll_old) (Nat.le_succ _) ⟨?_,out.toList,e,q5 a1,?_⟩,rfl,q _ ns' _ (aF.new hf) hf aH a2 a3⟩;·rw[Uq,a2.length_eq];exact UN (WK h64) ⋯
 ·simpa[seqObj]using he
end
section
variable{X:Cx}
end
theorem DB{e:TU}{es:List TU}{env:Env}(h:Xl e=false):Ue (e::es) env=(false,Ui e env)::Ue es env:=by cases e<;>first|rfl|cases h
theorem Im{X:Cx}{e:TU}{es:List TU}{te:TE}{t:TA}(ha:PE X e te)(hr:PA X es t)(h:Xl e=false:=by rfl):PA X (e::es) (se te t):=yv ha hr (DB h)
def Cz:List (Int×Int)->TA|[]=>Je|p::r=>se (Nm (se (tC (.int p.1)) (se (tC (.int p.2)) Je))) (Cz r)
@[irreducible]def Oq(ps:List (Int×Int)):TA:=Cz ps
structure kd where
 one:Int
 other:Int
 top:Int
 bot:Int
 worth:Int
structure aA where
 things:Int
 ties:List kd
 pat:List Int
 asks:Int
structure kd.Ok (n:Int) (t:kd):Prop where
 o0:0<=t.one
 o1:t.one<t.other
 o2:t.other<n
 c0:0<=t.top
 c1:t.top<=t.bot
 b0:1<=t.bot
 b1:t.bot<=100
 w0:0<=t.worth
 w1:t.worth<=1000
 cop:Uk t.top t.bot=1
structure aA.Ok (w:aA):Prop where
 t0:0<=w.things
 t1:w.things<=12
 ties:∀t∈w.ties,t.Ok w.things
 len:w.ties.length<=16
 pl:(w.pat.length:Int)=w.things
 pat:∀p∈w.pat,0<=p/\p<=20
 a0:0<=w.asks
 a1:w.asks<=40
def Me(K:⇑0)(H:Hp)(v:V)(t:kd):Prop:=∃p q,v=.ref p/\fj K H p [.int t.one,.int t.other,.ref q,.int t.worth]/\fj K H q [.int t.top,.int t.bot]
inductive xx (K:⇑0) (H:Hp):List V->List kd->Prop|nil:xx K H [] []|cons{v vs t ts}:Me K H v t->xx K H vs ts->xx K H (v::vs) (t::ts)
structure OA (K:⇑0) (H:Hp) (v:V) (w:aA):Prop where ex:∃a b c ts,v=.ref a/\fj K H a [.int w.things,.ref b,.ref c,.int w.asks]/\fj K H b ts/\xx K H ts w.ties/\fj K H c (w.pat.map V.int)
section
variable{K:⇑0}{H H':Hp}
end
theorem Bb{t b:Int}(hb:0<b)(h0:0<=t)(h1:t<=b)(h2:b<=100):0<=(lowM t b).1/\(lowM t b).1<=(lowM t b).2/\1<=(lowM t b).2/\(lowM t b).2<=100:=by
 obtain⟨d,e1,e2,e3,e4,e5⟩:=ic (t:=t) (b:=b) ↥0;generalize (lowM t b).1=x at*;generalize (lowM t b).2=y at*;have dp:0<d:=by
  rcases Int.lt_or_gt_of_ne e2 with z|z;·exfalso;have:y*d<0:=Int.mul_neg_of_pos_of_neg e5 z;lia
  ·exact z
 have x0:0<=x:=by
  rcases Int.lt_or_le x 0 with z|z;·have:x*d<0:=Int.mul_neg_of_neg_of_pos z dp;lia
  ·exact z
 have xy:x<=y:=by
  rcases Int.lt_or_le y x with z|z;·have:y*d<x*d:=Int.mul_lt_mul_of_pos_right z dp;lia
  ·exact z
 have yb:y<=y*d:=by have:=Int.mul_le_mul_of_nonneg_left (show(1:Int)<=d by lia) (show 0<=y by lia);lia
 exact⟨x0,xy,by lia,by lia⟩
inductive vc{α β:Type}(R:α->β->Prop):List α->List β->Prop|nil:vc R [] []|cons{a b as bs}:R a b->vc R as bs->vc R (a::as) (b::bs)
namespace vc
variable{α β:Type}{R S:α->β->Prop}
theorem mono(h:∀a b,R a b->S a b):∀{as:List α}{bs:List β},vc R as bs->vc S as bs|_,_,.nil=>.nil|_,_,.cons x r=>.cons (h _ _ x) (mono h r)
theorem len:∀{as:List α}{bs:List β},vc R as bs->as.length=bs.length|_,_,.nil=>rfl|_,_,.cons _ r=>by simp[len r]
theorem get:∀{as:List α}{bs:List β}{i:Nat}{b:β},vc R as bs->bs[i]?=some b->∃a,as[i]?=some a/\R a b|_,_,_,_,.nil,e=>by simp at e|_,_,0,_,.cons x _,e=>by simp at e;subst e;exact⟨_,rfl,x⟩|_,_,i+1,b,.cons _ r,e=>by obtain⟨v,h1,h2⟩:=get (i:=i) (b:=b) r (by simpa using e);exact⟨v,by simpa using h1,h2⟩
end vc
section
variable{K:⇑0}{a l:TM}{xs:List V}{g:TG}{tc:TT}{te:TE}{Q:VK}{σ:L2.St}{H:Hp}{α β:Type}{us:List α}{cp:List (Nat×Str)}{nT:Nat}
def NB(bz:Hp->V->β->Prop)(SI:L2.St->Prop)(us:List α)(f:α->Option β)(H:Hp)(l:TM)(i:Nat)(σ:L2.St)(H':Hp):Prop:=SI σ/\aF H H'/\∃vs,H' l=some (.lst vs)/\vs.length<=i/\vc (bz H') vs ((us.take i).filterMap f)
end
theorem sd:∀{a b:List Int},a.Perm b->a.Pairwise (·<=·)->b.Pairwise (·<=·)->a=b|[],b,p,_,_=>by have:=p.length_eq;exact(Yl.mp this.symm).symm|x::a,b,p,h1,h2=>by cases b with|nil=>have:=p.length_eq;simp at this|cons y b=>
 have h1':=List.pairwise_cons.mp h1;have h2':=List.pairwise_cons.mp h2;have e:x=y:=by
  have m1:y∈x::a:=p.mem_iff.mpr ↥1;have m2:x∈y::b:=p.mem_iff.mp ↥1;rcases TJ m1 with z|z;·exact z.symm
  ·rcases TJ m2 with z2|z2;·exact z2
   ·have:=h1'.1 y z;have:=h2'.1 x z2;lia
 subst e;rw[sd ((List.perm_cons x).mp p) h1'.2 h2'.2]
def mT(ns:List Int):List Int:=ns.mergeSort
theorem Gy{ns ns':List Int}(p:ns'.Perm ns)(h:ns'.Pairwise (·<=·)):ns'=mT ns:=by refine sd (p.trans (List.mergeSort_perm ns _).symm) h ?_;have:=List.pairwise_mergeSort (le:=λa b:Int=>decide (a<=b)) (λa b c h1 h2=>by simp at*;lia) (λa b=>by simp;lia) ns;exact this.imp λh=>by simpa using h
theorem jP(ns:List Int):(mT ns).Perm ns:=List.mergeSort_perm ns _
theorem qW{ns:List Int}{x:Int}:x∈mT ns↔x∈ns:=(jP ns).mem_iff
theorem xh(ns:List Int):(mT ns).length=ns.length:=(jP ns).length_eq
section
variable{X:Cx}{K:⇑0}{pos:Pos}
theorem EO(h:X.K=K):G3 X (LF K):=h▸B9
theorem CP(h:X.K=K):fR X (.builtin "len") (λxs H Q=>∃p ys,xs=[.ref p]/\(jU K H p ys\/fj K H p ys)/\Q (.int ys.length) H):=h▸pj
theorem Iw{es:List TU}{k:Nat}{t:G5}{n:Nat}(hK:X.K=K)(hc:X.calm=true)(h:DR X es t)(hn:(Vv es X.env).length=n:=by rfl)(hst:(Vv es X.env).findIdx? (·.1)=none:=by rfl):PG X (.Tuple es k pos) (Hw K n t):=hK▸Lk hc h hn hst
theorem IA{tg l:TU}{tl:TE}(h:X.K=K)(hl:PE X l tl):PI X tg l (Ms K tl):=h▸Lm hl
theorem zX{tg l:TU}{tl:TE}(h:X.K=K)(hl:PE X l tl):PI X tg l (JJ K tl):=h▸Iz hl
end
instance:Inhabited kd:=⟨⟨0,1,1,1,0⟩⟩
def aA.tie(W:aA)(k:Int):kd:=W.ties.getD k.toNat default
def aA.has(W:aA)(k thing:Int):Bool:=(W.tie k).one==thing||(W.tie k).other==thing
def aA.many(W:aA)(asked:List Int)(thing:Int):Int:=((asked.filter λk=>W.has k thing).length:Nat)
def aA.bears(W:aA)(asked taken:List Int)(thing:Int):Bool:=!taken.contains thing&&decide (W.many asked thing<W.pat.getD thing.toNat 0)
def aA.may(W:aA)(asked taken:List Int)(k:Int):Bool:=!(asked.contains k||decide (W.asks<=(asked.length:Int)))&&(W.bears asked taken (W.tie k).one&&W.bears asked taken (W.tie k).other)
def aA.askd(asked:List Int)(k:Int):List Int:=mT (asked++[k])
def aA.took(W:aA)(taken:List Int)(k:Int)(truth:Bool):List Int:=if truth then mT (taken++[(W.tie k).one,(W.tie k).other]) else taken
def aA.rng(W:aA):List Int:=(Uu W.ties.length).map Int.ofNat
def aA.can(W:aA)(asked taken:List Int):List Int:=W.rng.filter λk=>W.may asked taken k
def kc(W:aA)(k:Int):Prop:=0<=k/\k<(W.ties.length:Int)
theorem kc.get{W:aA}{k:Int}(h:kc W k):W.ties[k.toNat]?=some (W.tie k):=by
 have hk:k.toNat<W.ties.length:=by have:=h.1;have:=h.2;lia
 unfold aA.tie;rw[Ur,Um hk];rfl
theorem kc.ok{W:aA}{k:Int}(h:kc W k)(o:W.Ok):(W.tie k).Ok W.things:=o.ties _ (TK h.get)
theorem pO{W:aA}{k:Int}:k∈W.rng↔kc W k:=by
 unfold aA.rng kc;rw[Wz];constructor;·rintro⟨n,hn,rfl⟩;have:=WA.mp hn;exact⟨Int.natCast_nonneg n,by simp;lia⟩
 ·rintro⟨h0,h1⟩;exact⟨k.toNat,WA.mpr ↥0,by simp;lia⟩
def Ki(K:⇑0)(H:Hp)(v:V)(asked taken:List Int):Prop:=∃a b c,v=.ref a/\fj K H a [.ref b,.ref c]/\fj K H b (asked.map V.int)/\fj K H c (taken.map V.int)
theorem Ki.ts{K:⇑0}{H H':Hp}(s:rf H H'){v:V}{asked taken:List Int}(h:Ki K H v asked taken):Ki K H' v asked taken:=by obtain⟨a,b,c,e,h1,h2,h3⟩:=h;exact⟨a,b,c,e,s.tup h1,s.tup h2,s.tup h3⟩
section
variable{K:⇑0}{σ:L2.St}{H:Hp}{Q:VK}{i j:Nat}{vW:V}{W:aA}{k:Int}
end
def J8(k:Int):Prop:=-1000000<=k/\k<=1000000
def Dk(n dep:Nat)(d:TN):Prop:=d.showable=true/\uj d=true/\L2.cnt d<=n/\d.depth<=dep
theorem Dk.mono{n m dep e:Nat}{d:TN}(h:Dk n dep d)(h1:n<=m)(h2:dep<=e):Dk m e d:=⟨h.1,h.2.1,UN h.2.2.1 h1,UN h.2.2.2 h2⟩
theorem Dk.int{k:Int}(h:J8 k):Dk 1 2 (.int k):=by refine⟨?_,rfl,VA _,by simp[US]⟩;show decide (k.natAbs.log2<1920)=true;rw[decide_eq_true_eq];exact Nat.lt_trans ((show Bt 64 k by have:=h.1;have:=h.2;unfold Bt;lia).log ⋯) ⋯
theorem Dk.bool(b:Bool):Dk 1 2 (.bool b):=⟨rfl,rfl,VA _,by simp[US]⟩
theorem Dk.none:Dk 1 2 .none:=⟨rfl,rfl,VA _,by simp[US]⟩
theorem Dk.all{n dep:Nat}:∀{ds:List TN},(∀d∈ds,Dk n dep d)->Ww ds=true/\k8 ds=true/\oo ds<=ds.length*n/\VH ds<=dep
 |[],_=>⟨rfl,rfl,by simp[oo],by simp[VH]⟩|d::r,h=>by
  obtain⟨a1,a2,a3,a4⟩:=h d ↥1;obtain⟨b1,b2,b3,b4⟩:=Dk.all (ds:=r) λx hx=>h x (by simp[hx]);refine⟨?_,?_,?_,?_⟩;·simp only[Ww,a1,b1,Wc]
  ·simp only[k8,a2,b2,Wc]
  ·simp only[oo,Vc,Nat.succ_mul];lia
  ·simp only[VH];lia
theorem Dk.tup{n dep m:Nat}{ds:List TN}(h:∀d∈ds,Dk n dep d)(hl:ds.length<=m):Dk (1+m*n) (dep+2) (.tuple ds):=by
 obtain⟨b1,b2,b3,b4⟩:=Dk.all h;refine⟨b1,b2,?_,?_⟩;·simp only[L2.cnt];have:=Nat.mul_le_mul_right n hl;lia
 ·simp only[US];lia
theorem Dk.ok{n dep:Nat}{d:TN}(h:Dk n dep d)(h1:n<=8000)(h2:dep<=60):d.showable=true/\d.depth<=60/\d.shown.length<=Uj:=by have:=xc h.2.1 h.1;have sl:Uj=16777216:=VD;have:=h.2.2.1;exact⟨h.1,UN h.2.2.2 h2,by lia⟩
theorem Dk.ints{ns:List Int}{m:Nat}(hl:ns.length<=m)(h:∀r∈ns,J8 r):Dk (1+m) 4 (.tuple (ns.map .int)):=by have:=Dk.tup (n:=1) (dep:=2) (m:=m) (ds:=ns.map PyData.int) (λd hd=>by obtain⟨x,hx,rfl⟩:=TH hd;exact Dk.int (h x hx)) (by rw[Uq];exact hl);simpa using this
section
variable{K:⇑0}{H:Hp}
theorem Dk.bools{ns:List Bool}{m:Nat}(hl:ns.length<=m):Dk (1+m) 4 (.tuple (ns.map .bool)):=by have:=Dk.tup (n:=1) (dep:=2) (m:=m) (ds:=ns.map PyData.bool) (λd hd=>by obtain⟨x,hx,rfl⟩:=TH hd;exact Dk.bool x) (by rw[Uq];exact hl);simpa using this
def bi(t:kd):TN:=.tuple [.int t.one,.int t.other,.tuple [.int t.top,.int t.bot],.int t.worth]
def ax(W:aA):TN:=.tuple [.int W.things,.tuple (W.ties.map bi),.tuple (W.pat.map .int),.int W.asks]
def qu(asked taken:List Int):TN:=.tuple [.tuple (asked.map .int),.tuple (taken.map .int)]
end
theorem Ef:∀{bs:List Bool}{us:List TL}{i:Nat}{v:TL},bc (bs.map V.bl) us->us[i]?=some v->∃b,bs[i]?=some b/\v=.bool b|[],us,i,v,r,e=>by cases r;simp at e|b::bs,us,i,v,r,e=>by cases r with|cons p q=>cases i with|zero=>simp at e;subst e;cases p;exact⟨b,rfl,rfl⟩|succ i=>obtain⟨c,h1,h2⟩:=Ef (bs:=bs) (i:=i) (v:=v) q (by simpa using e);exact⟨c,by simpa using h1,h2⟩
theorem IX(bs:List Bool):((Uu bs.length).all λi=>(bs[i]?).getD true)=bs.all id:=by
 rw[Xm,Vd,Vd];constructor;·intro h b hb;obtain⟨i,hi,rfl⟩:=List.getElem_of_mem hb;have:=h i (WA.mpr hi);rw[Um hi]at this;exact this
 ·intro h i hi;have hi':=WA.mp hi;rw[Um hi'];exact h _ (Xd hi')
section
variable{X:Cx}
theorem Em{k:Nat}{K:⇑0}(hr:eB k X.A)(hK:X.K=K):fR X (.builtin "all") (λxs H Q=>∃(l:TM) (bs:List Bool),xs=[.ref l]/\jU K H l (bs.map V.bl)/\Q (.bl (bs.all id)) H):=by
 intro pins s σ H xs us Q I r h;subst hK;obtain⟨l,bs,rfl,hs,q⟩:=h;obtain⟨u,rfl,ru⟩:=ur r;cases ru;obtain⟨its,rv,p,hz⟩:=I.list hs;have hl:=p.isList;have lt:l<↑s:=by obtain⟨_,e,_⟩:=hl;exact Up e
 refine PySem.call_all_walk (wpAny_pyIter_list hl ?_);refine⟨↑s,[↑s,l],[↑s],its.toArray.size,_,_,λi=>(bs[i]?).getD true,rfl,Walks.list (A:=X.A.in1) hr.hd _ l (Vf lt) its.toArray,⟨⟨_,UT _ rfl,rfl,rfl⟩,hl.push _⟩,λi v s' Q' E' hP hQ=>?_,λh' tk hk=>?_⟩;·obtain⟨b,e,rfl⟩:=Ef rv (by simpa using hP);simp only[e,VS]at hQ;exact Xz hQ
 ·have e:its.toArray.size=bs.length:=by have:=rv.length;rw[Uq]at this;simpa using this.symm
  rw[e,IX];refine⟨.bl (bs.all id),H,I.kept λb x e=>hk b x (λhm=>?_) (UC _ e),rfl,q⟩;rw[YN.mp hm]at e;exact VV _ (Up e)
end
theorem Eg:Vu "all"=some (.builtin "all"):=by decide+kernel
section
variable{prog:Uc}{w:TX}{A:Ud}{E:TL->TQ->Prop}{s:TQ}
theorem GM{it t:TM}{i:Nat}{ys}{x:TL}{Q:TL->TQ->Prop}(hi:s.heap.IsTupleIter it t i)(ht:s.heap.IsTuple t ys)(hx:ys[i]?=some x)(q:∀g,g.IsTupleIter it t (i+1)->WB it s.heap g->Q x {s with heap:=g}):TY (TZ prog w) A (Wo (.ref it)) Q E s:=by obtain⟨o,ho,hc,hd⟩:=id hi;obtain⟨p,hp,_,n,hpd⟩:=ht;unfold Wo;refine TV (WR (name:=Vh "__next__") hi.typeIs Ym (Wu Ym hi.typeIs F.entry_tuple_iterator_next ?_ (F.args_tuple_iterator_next_1 _)));show TY _ _ (field (.ref it) 0>>=_) _ _ s;refine TV (Vb ho hd (x:=.ref t) rfl ?_);show TY _ _ (if (Value.ref t==Value.none)=true then _ else _) _ _ s;rw[if_neg (show¬((Value.ref t==Value.none)=true) from Vw)];show TY _ _ (field (.ref it) 1>>=_) _ _ s;refine TV (Vb ho hd (x:=.int i 0) rfl ?_);show TY _ _ (seqItems? (.ref t)>>=_) _ _ s;refine TV (WG hp hpd ?_);simp only[VP,hx];refine TV (wpAny_setField ho hd ↥1 (Uh ⟨x,rfl,Uh (q _ ?_ (Heap.SameBut.update ..))⟩));refine⟨_,Heap.get?_update_self _ ho (Obj.isFreed_of_fields (Obj.data_mapFields hd _)),(Obj.cls_mapFields ..).trans hc,?_⟩;rw[Obj.data_mapFields hd];simp[UZ]
theorem GL{it t:TM}{i:Nat}{ys}{Q:TL->TQ->Prop}(hh:A.handled=none)(hi:s.heap.IsTupleIter it t i)(ht:s.heap.IsTuple t ys)(hx:ys[i]?=none)(q:∀g e,Heap.ExtBut it s.heap g->(∃o,g.get? e=some o/\o.cls=.type "StopIteration")->E (.ref e) {s with heap:=g}):TY (TZ prog w) A (Wo (.ref it)) Q E s:=by
 obtain⟨o,ho,hc,hd⟩:=id hi;obtain⟨p,hp,_,n,hpd⟩:=ht;unfold Wo;refine TV (WR (name:=Vh "__next__") hi.typeIs Ym (Wu Ym hi.typeIs F.entry_tuple_iterator_next ?_ (F.args_tuple_iterator_next_1 _)));show TY _ _ (field (.ref it) 0>>=_) _ _ s;refine TV (Vb ho hd (x:=.ref t) rfl ?_);show TY _ _ (if (Value.ref t==Value.none)=true then _ else _) _ _ s;rw[if_neg (show¬((Value.ref t==Value.none)=true) from Vw)];show TY _ _ (field (.ref it) 1>>=_) _ _ s;refine TV (Vb ho hd (x:=.int i 0) rfl ?_);show TY _ _ (seqItems? (.ref t)>>=_) _ _ s;refine TV (WG hp hpd ?_);simp only[VP,hx];refine TV (WC (TV (wpAny_setField ho hd ↥1 ?_)));show TY _ _ (newExc (.type "StopIteration") []>>=_) _ _ _;refine TV ?_;simp only[newExc,newTuple];refine TV (VY ?_ (by size_fits));refine TV (m:=firstArgMember _ _) (Wp (a:=Value.none) (by first|rfl|(simp only[firstArgMember];rfl)) ?_);refine VY ?_ (by size_fits);simp only[raiseNew];refine TV (wpAny_handled ?_);first|rw[show A.in1.handled=none from hh]|rw[hh]
 refine TV (Uh (wpAny_throw ?_));exact q _ _ (((Heap.SameBut.update ..).extBut.push _).push _) ⟨_,UT _ rfl,rfl⟩
end
structure Sc (prog:Uc) (w:TX) (it l:TM) (St:Nat->Ua->Prop) (Sq:Ua->Array TL->Prop):Prop where
 stay:∀{k h h'},St k h->(∀o,h.get? it=some o->h'.get? it=some o)->St k h'
 live:∀{k h},St k h->∃o,h.get? it=some o/\∀v,o.data≠.cell v
 row:∀{h h' xs},Sq h xs->(∀o,h.get? l=some o->h'.get? l=some o)->Sq h' xs
 next:∀{A:Ud}{s:TQ}{E:TL->TQ->Prop}{Q:TL->TQ->Prop}{k:Nat}{xs:Array TL}{x:TL},St k s.heap->Sq s.heap xs->xs[k]?=some x->(∀g,St (k+1) g->WB it s.heap g->Q x {s with heap:=g})->TY (TZ prog w) A (Wo (.ref it)) Q E s
 last:∀{A:Ud}{s:TQ}{E:TL->TQ->Prop}{Q:TL->TQ->Prop}{k:Nat}{xs:Array TL},A.handled=none->St k s.heap->Sq s.heap xs->xs[k]?=none->(∀g e,Heap.ExtBut it s.heap g->(∃o,g.get? e=some o/\o.cls=.type "StopIteration")->E (.ref e) {s with heap:=g})->TY (TZ prog w) A (Wo (.ref it)) Q E s
theorem LN{prog:Uc}{w:TX}(it l:TM):Sc prog w it l (λk h=>h.IsTupleIter it l k) (λh xs=>h.IsTuple l xs) where
 stay:=λst k=>st.at λo e=>k o e;live:=λst=>by obtain⟨o,e,c,d⟩:=st;exact⟨o,e,λv z=>by rw[d]at z;cases z⟩
 row:=λq k=>by obtain⟨o,e,r⟩:=q;exact⟨o,k o e,r⟩
 next:=λst sq hx q=>GM st sq hx q;last:=λhh st sq hx q=>GL hh st sq hx q
theorem IY{prog:Uc}{w:TX}(it l:TM):Sc prog w it l (λk h=>h.IsListIter it l k) (λh xs=>h.IsList l xs) where
 stay:=λst k=>st.at λo e=>k o e;live:=λst=>by obtain⟨o,e,c,d⟩:=st;exact⟨o,e,λv z=>by rw[d]at z;cases z⟩
 row:=λq k=>by obtain⟨o,e,r⟩:=q;exact⟨o,k o e,r⟩
 next:=λst sq hx q=>wpAny_nextOf_list_item st sq hx q;last:=λhh st sq hx q=>wpAny_nextOf_list_end hh st sq hx q
structure vV (z TI TO i1 i2 l1 l2:TM):Prop where
 a1:TO≠z
 a2:i1≠z
 a3:i2≠z
 a4:TO≠i1
 a5:TO≠i2
 a6:i1≠i2
 b1:l1≠z
 b2:l1≠TO
 b3:l1≠i1
 b4:l1≠i2
 c1:l2≠z
 c2:l2≠TO
 c3:l2≠i1
 c4:l2≠i2
section
variable{prog:Uc}{w:TX}{A:Ud}{E:TL->TQ->Prop}{s:TQ}{z TI TO i1 i2 l1 l2:TM}{k:Nat}{xs ys:Array TL}{a b:TL}{S1 S2:Nat->Ua->Prop}{R1 R2:Ua->Array TL->Prop}
theorem L8{x y:TL}{Q:TL->TQ->Prop}(P1:Sc prog w i1 l1 S1 R1)(P2:Sc prog w i2 l2 S2 R2)(D:vV z TI TO i1 i2 l1 l2)(hz:IsZip s.heap z TI TO .none)(hI:UP s.heap TI (.ref i1) (.ref i2))(hO:UP s.heap TO a b)(u1:S1 k s.heap)(u2:S2 k s.heap)(r1:R1 s.heap xs)(r2:R2 s.heap ys)(hx:xs[k]?=some x)(hy:ys[k]?=some y)(q:∀g,IsZip g z TI TO (UZ ↑s)->UP g TO x y->S1 (k+1) g->S2 (k+1) g->UP g ↑s x y->g.objs.size=↑s+1->(∀c o,c≠z->c≠TO->c≠i1->c≠i2->s.heap.get? c=some o->g.get? c=some o)->Q (.ref ↑s) {s with heap:=g}):TY (TZ prog w) A (Wb.«zip.__next__» ⟨[.ref z],[]⟩) (λf s'=>∃v,f=.done (.ret v)/\Q v s') E s:=by
 show TY _ _ (field (.ref z) 2>>=_) _ _ _;refine TV (Vb hz rfl (x:=.bool false) rfl ?_);show TY _ _ (field (.ref z) 3>>=_) _ _ _;refine TV (Vb hz rfl (x:=.ref TI) rfl ?_);refine TV (WG hI rfl ?_);show TY _ _ (Yn (.ref z)>>=_) _ _ _;refine TV ?_;unfold Yn;refine TV (Vb hz rfl (x:=.none) rfl (Uh ?_));simp only[if_true];refine TV (WC ?_);refine TV (Vb hz rfl (x:=.ref TO) rfl ?_);refine TV (Xn hz ↥1 λg1 z1 e1=>?_);replace z1:IsZip g1 z TI TO .ellipsis:=z1;refine TV ?_;simp only[List.zipIdx_cons,List.zipIdx_nil,List.forIn_cons,List.forIn_nil];refine TV (TV (wpAny_onRaise ?_));show TY _ _ (Wo (.ref i1)>>=_) _ _ _;refine TV (P1.next (P1.stay u1 λo e=>e1.extBut _ _ D.a2 e) (P1.row r1 λo e=>e1.extBut _ _ D.b1 e) hx λg2 v1 e2=>Uh ?_);have O2:UP g2 TO a b:=e2.extBut _ _ D.a4 (e1.extBut _ _ D.a1 hO);refine TV (WG O2 rfl ?_);refine TV (YO O2 λg3 O3 e3=>?_);replace O3:UP g3 TO x b:=O3;refine TV (wpAny_letGo (Uh ?_));refine TV (TV (wpAny_onRaise ?_));show TY _ _ (Wo (.ref i2)>>=_) _ _ _;have up3:∀c o,c≠z->c≠i1->c≠TO->s.heap.get? c=some o->g3.get? c=some o:=λc o n1 n2 n3 e=>e3.extBut _ _ n3 (e2.extBut _ _ n2 (e1.extBut _ _ n1 e));refine TV (P2.next (P2.stay u2 λo e=>up3 _ _ D.a3 D.a6.symm D.a5.symm e) (P2.row r2 λo e=>up3 _ _ D.c1 D.c3 D.c2 e) hy λg4 v2 e4=>Uh ?_);have O4:UP g4 TO x b:=e4.extBut _ _ D.a5 O3;refine TV (WG O4 rfl ?_);refine TV (YO O4 λg5 O5 e5=>?_);replace O5:UP g5 TO x y:=O5;refine TV (wpAny_letGo (Uh (Uh ?_)));refine TV (WG O5 rfl ?_);refine TV (wpAny_newTuple ?_);have sz:g5.objs.size=↑s:=by rw[e5.1,e4.1,e3.1,e2.1,e1.1]
 have z5:IsZip g5 z TI TO .ellipsis:=e5.extBut _ _ D.a1.symm (e4.extBut _ _ D.a3.symm (e3.extBut _ _ D.a1.symm (e2.extBut _ _ D.a2.symm z1)));have k5:∀c o,c≠z->c≠TO->c≠i1->c≠i2->s.heap.get? c=some o->g5.get? c=some o:=λc o n1 n2 n3 n4 e=>e5.extBut _ _ n2 (e4.extBut _ _ n4 (up3 c o n1 n3 n2 e));have w1:S1 (k+1) g5:=P1.stay v1 λo e=>e5.extBut _ _ D.a4.symm (e4.extBut _ _ D.a6 (e3.extBut _ _ D.a4.symm e));have w2:S2 (k+1) g5:=P2.stay v2 λo e=>e5.extBut _ _ D.a5.symm e;have lz:z<g5.objs.size:=Up z5;show TY _ _ (Zc (.ref z) (.ref g5.objs.size)>>=_) _ _ _;refine TV ?_;unfold Zc;have z6:IsZip (g5.push {cls:=.type "tuple",data:=.seq #[x,y]}) z TI TO .ellipsis:=UC _ z5;refine TV (Xn z6 ↥1 λg7 z7 e7=>?_);replace z7:IsZip g7 z TI TO (UZ g5.objs.size):=z7;refine Xn z7 ↥1 λg8 z8 e8=>?_;replace z8:IsZip g8 z TI TO (UZ g5.objs.size):=z8;have up:∀c o,c≠z->g5.get? c=some o->g8.get? c=some o:=λc o n e=>e8.extBut _ _ n (e7.extBut _ _ n (UC _ e));have T8:UP g8 g5.objs.size x y:=e8.extBut _ _ (Nat.ne_of_gt lz) (e7.extBut _ _ (Nat.ne_of_gt lz) (UT _ rfl));have n8:g8.objs.size=g5.objs.size+1:=by rw[e8.1,e7.1,VI]
 rw[sz]at z8 T8 n8;refine Uh ⟨_,rfl,?_⟩;show Q (.ref g5.objs.size) _;rw[sz];exact q g8 z8 (up _ _ D.a1 O5) (P1.stay w1 λo e=>up _ o D.a2 e) (P2.stay w2 λo e=>up _ o D.a3 e) T8 n8 λc o n1 n2 n3 n4 e=>up c o n1 (k5 c o n1 n2 n3 n4 e)
theorem Jv{Q:Fin->TQ->Prop}(hh:A.handled=none)(P1:Sc prog w i1 l1 S1 R1)(P2:Sc prog w i2 l2 S2 R2)(D:vV z TI TO i1 i2 l1 l2)(hz:IsZip s.heap z TI TO .none)(hI:UP s.heap TI (.ref i1) (.ref i2))(hO:UP s.heap TO a b)(u1:S1 k s.heap)(u2:S2 k s.heap)(r1:R1 s.heap xs)(r2:R2 s.heap ys)(hn:xs[k]?=none\/ys[k]?=none)(q:∀g e,(∀c o,c≠z->c≠TO->c≠i1->c≠i2->s.heap.get? c=some o->g.get? c=some o)->(∃o,g.get? e=some o/\o.cls=.type "StopIteration")->E (.ref e) {s with heap:=g}):TY (TZ prog w) A (Wb.«zip.__next__» ⟨[.ref z],[]⟩) Q E s:=by
 show TY _ _ (field (.ref z) 2>>=_) _ _ _;refine TV (Vb hz rfl (x:=.bool false) rfl ?_);show TY _ _ (field (.ref z) 3>>=_) _ _ _;refine TV (Vb hz rfl (x:=.ref TI) rfl ?_);refine TV (WG hI rfl ?_);show TY _ _ (Yn (.ref z)>>=_) _ _ _;refine TV ?_;unfold Yn;refine TV (Vb hz rfl (x:=.none) rfl (Uh ?_));simp only[if_true];refine TV (WC ?_);refine TV (Vb hz rfl (x:=.ref TO) rfl ?_);refine TV (Xn hz ↥1 λg1 z1 e1=>?_);replace z1:IsZip g1 z TI TO .ellipsis:=z1;refine TV ?_;simp only[List.zipIdx_cons,List.zipIdx_nil,List.forIn_cons,List.forIn_nil]
 refine TV (TV (wpAny_onRaise ?_));show TY _ _ (Wo (.ref i1)>>=_) _ _ _;cases hx:xs[k]? with|none=>
  refine TV (P1.last hh (P1.stay u1 λo e=>e1.extBut _ _ D.a2 e) (P1.row r1 λo e=>e1.extBut _ _ D.b1 e) hx λg2 e e2 he=>?_);obtain⟨oe,h1,h2⟩:=he;have z2:IsZip g2 z TI TO .ellipsis:=e2 _ _ D.a2.symm z1;have nz:e≠z:=λx=>by subst x;rw[z2]at h1;cases h1;simp at h2
  refine Xn z2 ↥1 λg3 _ e3=>q g3 e (λc o n1 _ n3 _ x=>e3.extBut _ _ n1 (e2 _ _ n3 (e1.extBut _ _ n1 x))) ⟨oe,e3.extBut _ _ nz h1,h2⟩|some x=>
  have hy:ys[k]?=none:=by
   rcases hn with h|h;·rw[hx]at h;cases h
   ·exact h
  refine TV (P1.next (P1.stay u1 λo e=>e1.extBut _ _ D.a2 e) (P1.row r1 λo e=>e1.extBut _ _ D.b1 e) hx λg2 v1 e2=>Uh ?_);have O2:UP g2 TO a b:=e2.extBut _ _ D.a4 (e1.extBut _ _ D.a1 hO);refine TV (WG O2 rfl ?_);refine TV (YO O2 λg3 O3 e3=>?_);refine TV (wpAny_letGo (Uh ?_));refine TV (TV (wpAny_onRaise ?_));show TY _ _ (Wo (.ref i2)>>=_) _ _ _;have up3:∀c o,c≠z->c≠i1->c≠TO->s.heap.get? c=some o->g3.get? c=some o:=λc o n1 n2 n3 e=>e3.extBut _ _ n3 (e2.extBut _ _ n2 (e1.extBut _ _ n1 e));refine TV (P2.last hh (P2.stay u2 λo e=>up3 _ _ D.a3 D.a6.symm D.a5.symm e) (P2.row r2 λo e=>up3 _ _ D.c1 D.c3 D.c2 e) hy λg4 e e4 he=>?_);obtain⟨oe,h1,h2⟩:=he;have z4:IsZip g4 z TI TO .ellipsis:=e4 _ _ D.a3.symm (e3.extBut _ _ D.a1.symm (e2.extBut _ _ D.a2.symm z1));have nz:e≠z:=λx=>by subst x;rw[z4]at h1;cases h1;simp at h2
  refine Xn z4 ↥1 λg5 _ e5=>q g5 e (λc o n1 n2 n3 n4 x=>e5.extBut _ _ n1 (e4 _ _ n4 (up3 c o n1 n3 n2 x))) ⟨oe,e5.extBut _ _ nz h1,h2⟩
theorem G1{x y:TL}{Q:Option TL->TQ->Prop}(P1:Sc prog w i1 l1 S1 R1)(P2:Sc prog w i2 l2 S2 R2)(D:vV z TI TO i1 i2 l1 l2)(hz:IsZip s.heap z TI TO .none)(hI:UP s.heap TI (.ref i1) (.ref i2))(hO:UP s.heap TO a b)(u1:S1 k s.heap)(u2:S2 k s.heap)(r1:R1 s.heap xs)(r2:R2 s.heap ys)(hx:xs[k]?=some x)(hy:ys[k]?=some y)(q:∀g,IsZip g z TI TO (UZ ↑s)->UP g TO x y->S1 (k+1) g->S2 (k+1) g->UP g ↑s x y->g.objs.size=↑s+1->(∀c o,c≠z->c≠TO->c≠i1->c≠i2->s.heap.get? c=some o->g.get? c=some o)->Q (some (.ref ↑s)) {s with heap:=g}):TY (TZ prog w) A (VM (.ref z)) Q E s:=by have hT:s.TypeIs (.ref z) "zip":=⟨_,hz,rfl⟩;unfold VM;refine TV (wpAny_attempt (WR (name:=Vh "__next__") hT Yo (Wu Yo hT F.entry_zip_next ?_ (F.args_zip_next_1 _))));exact L8 P1 P2 D hz hI hO u1 u2 r1 r2 hx hy λg b1 b2 b3 b4 b5 b6 b7=>Uh (q g b1 b2 b3 b4 b5 b6 b7)
theorem G2{Q:Option TL->TQ->Prop}(hh:A.handled=none)(P1:Sc prog w i1 l1 S1 R1)(P2:Sc prog w i2 l2 S2 R2)(D:vV z TI TO i1 i2 l1 l2)(hz:IsZip s.heap z TI TO .none)(hI:UP s.heap TI (.ref i1) (.ref i2))(hO:UP s.heap TO a b)(u1:S1 k s.heap)(u2:S2 k s.heap)(r1:R1 s.heap xs)(r2:R2 s.heap ys)(hn:xs[k]?=none\/ys[k]?=none)(q:∀g,(∀c o,c≠z->c≠TO->c≠i1->c≠i2->s.heap.get? c=some o->g.get? c=some o)->Q none {s with heap:=g}):TY (TZ prog w) A (VM (.ref z)) Q E s:=by have hT:s.TypeIs (.ref z) "zip":=⟨_,hz,rfl⟩;unfold VM;refine TV (wpAny_attempt (WR (name:=Vh "__next__") hT Yo (Wu Yo hT F.entry_zip_next (Jv hh P1 P2 D hz hI hO u1 u2 r1 r2 hn λg e hk he=>?_) (F.args_zip_next_1 _))));obtain⟨o,ho,hc⟩:=he;refine TV (wpAny_isInstance (T:="StopIteration") (b:=true) ⟨o,ho,hc⟩ isSubtype_stop ?_);exact Uh (q _ hk)
end
section
variable{X:Cx}{pins:List (TM×Obj)}{σ:L2.St}{H:Hp}{s:TQ}{h':Ua}
theorem aM.turnedL{t':Nat}{fp:List TM}(I:aM X pins σ H s)(hf:∀b∈fp,jS X pins H b)(k:∀b o,b∉fp->s.heap.get? b=some o->h'.get? b=some o):aM X pins σ H {s with heap:=h',toks:=t'}:=by
 have hL:X.env.locals∉fp:=λz=>(hf _ z).2.1 rfl;have nit:∀b u,H b=some u->b∉fp:=λb u e z=>by have:=(hf b z).1;rw[this]at e;cases e
 refine I.step (g':=s.gens) (d':=s.drawn) (ch:=fp) (λb hb=>?_) (λb o _ _ hc e _=>k b o hc e) (λb o _ _ hc e _=>⟨o.slots,k b o hc e⟩) (λ_ _ _ _ n=>n) (λb o hc e=>⟨o,k b o hc e⟩) (λ_ _ e=>e) (λ_ _ _ e=>e) (λb ps e=>⟨#[],by rw[e];simp⟩) (λm hm=>?_) (λb u e=>?_) I.bare;·obtain⟨f0,f1,f2,f3,f4,f5⟩:=hf b hb;exact⟨f3,f1,f4,f5⟩
 ·obtain⟨o,es,ep,ho,r⟩:=hm;exact⟨o,es,ep,k _ o hL ho,r⟩
 ·refine(I.hok b u e).stay (λc v hc q=>k c v ?_ q) (λ_ q=>q) λ_ _ q=>q;rcases hc with z|z;·rw[z];exact nit b u e
  ·exact nit c _ z
theorem D5(I:aM X pins σ H s){b l:TM}{xs:List V}(f:jS X pins H b)(q:fj X.K H l xs):l≠b:=by
 intro z;subst z;rcases q with (q|⟨o,q⟩)|⟨o,its,n,hk,_⟩;·rw[f.1]at q;cases q
 ·rw[f.1]at q;cases q
 ·have hb:X.base.get? l=some o:=I.ok.mod.kin l o hk;rcases f.2.2.2.1 with z|z;·exact I.ok.noex l o hb z
  ·exact absurd (UU (Up (I.ok.bs l o hb).1) z) (VV _)
end
section
variable{prog:Uc}{w:TX}{A:Ud}{E:TL->TQ->Prop}{s:TQ}
end
theorem Eh:Vu "zip"=some (.type "zip"):=by decide+kernel
def Ke(h:Ua)(z TI TO:TM)(a:TM)(f:Bool):Prop:=h.get? z=some {cls:=.type "zip",data:=.fields #[UZ a,.bool f,.bool false,.ref TI,.ref TO]}
section
variable{prog:Uc}{w:TX}{A:Ud}{E:TL->TQ->Prop}{s:TQ}{z TI TO i1 i2 l1 l2:TM}{k:Nat}{xs ys:Array TL}{a:TM}{f:Bool}{S1 S2:Nat->Ua->Prop}{R1 R2:Ua->Array TL->Prop}
end
structure ZL (S z TI TO i1 i2 l1 l2:TM) (xs ys:Array TL) (i:Nat) (h:Ua):Prop where
 pr:UP h TI (.ref i1) (.ref i2)t1:h.IsTupleIter i1 l1 i
 t2:h.IsTupleIter i2 l2 i
 s1:h.IsTuple l1 xs
 s2:h.IsTuple l2 ys
 ot:∃o,h.get? TO=some o
 zs:(IsZip h z TI TO .none/\∃a b,UP h TO a b)\/∃a f oa,Ke h z TI TO a f/\h.get? a=some oa/\a≠S/\a≠z/\a≠i1/\a≠i2
structure Ow (S z TO i1 i2:TM) (xs ys:Array TL) (h:Ua) (acc:Array TL) (i:Nat):Prop where
 sz:acc.size=i
 at_:∀(j:Nat) (v:TL),acc[j]?=some v->∃(p:TM) (x y:TL),v=.ref p/\xs[j]?=some x/\ys[j]?=some y/\UP h p x y/\p≠S/\p≠z/\p≠TO/\p≠i1/\p≠i2
 lo:∀(j:Nat) (p:TM),acc[j]?=some (.ref p)->S<p
 OU:∀(i j:Nat) (p q:TM),i<j->acc[i]?=some (.ref p)->acc[j]?=some (.ref q)->p<q
section
variable{prog:Uc}{w:TX}{A:Ud}{R:Result->TQ->Prop}{S z TI TO i1 i2 l1 l2:TM}{xs ys:Array TL}{n:Nat}
end
section
variable{X:Cx}{pins:List (TM×Obj)}{σ:L2.St}{H H':Hp}{s:TQ}{h':Ua}
end
section
variable{prog:Uc}{w:TX}{A:Ud}{E:TL->TQ->Prop}{s:TQ}{e it l:TM}{k:Nat}{xs:Array TL}{S:Nat->Ua->Prop}{R:Ua->Array TL->Prop}
theorem Gs(P1:Sc prog w it l S R)(hh:A.handled=none)(hne:l≠it)(xs:Array TL):Draws prog w A it [it,l] xs.size (λi v=>xs[i]?=some v) (λi h=>S i h/\R h xs) where live:=λ_ _ st=>let⟨o,ho,_⟩:=P1.live st.1;⟨o,ho⟩;frame:=λ_ _ _ st hk=>⟨P1.stay st.1 λo e=>hk it ↥1 o e,P1.row st.2 λo e=>hk l ↥1 o e⟩;item:=λi s Q E hi st hQ=>P1.next st.1 st.2 (x:=xs[i]) (by simp[hi]) λg h1 h2=>hQ _ g s.toks (by simp[hi]) ⟨h1,P1.row st.2 λo e=>h2.extBut _ _ hne e⟩ h2;done:=λs Q E st hE=>P1.last hh st.1 st.2 ↥1 hE
theorem CZ{i:Int}{old:TL}{Q:Option TL->TQ->Prop}(P1:Sc prog w it l S R)(hh:A.handled=none)(he:IsEnum s.heap e it i old)(st:S k s.heap)(sq:R s.heap xs)(hx:xs[k]?=none)(q:∀g,Heap.ExtBut it s.heap g->Q none {s with heap:=g}):TY (TZ prog w) A (VM (.ref e)) Q E s:=by have hT:s.TypeIs (.ref e) "enumerate":=⟨_,he,rfl⟩;unfold VM;refine TV (wpAny_attempt (WR (name:=Vh "__next__") hT YQ (Wu YQ hT F.entry_enumerate_next ?_ (F.args_enumerate_next_1 _))));show TY _ _ (field (.ref e) 2>>=_) _ _ _;refine TV (Vb he rfl (x:=.ref it) rfl ?_);refine TV (P1.last hh st sq hx λg x hk hx'=>?_);obtain⟨o,ho,hc⟩:=hx';refine TV (wpAny_isInstance (T:="StopIteration") (b:=true) ⟨o,ho,hc⟩ isSubtype_stop ?_);exact Uh (q _ hk)
theorem wz{i:Int}{old:TL}{Q:TL->TQ->Prop}(he:IsEnum s.heap e it i old)(h:Q (.ref e) s):TY (TZ prog w) A (pyIter (.ref e)) Q E s:=by have hT:s.TypeIs (.ref e) "enumerate":=⟨_,he,rfl⟩;refine wpAny_pyIter_slot hT F.slot_enumerate_iter (Wu F.slot_enumerate_iter hT F.entry_enumerate_iter ?_ (F.args_enumerate_iter_1 _));show TY _ _ (ret (.ref e)) _ _ s;exact Uh ⟨_,rfl,"enumerate",_,hT,YQ.lookup,h⟩
end
section
variable{X:Cx}{pins:List (TM×Obj)}{σ:L2.St}{H:Hp}{s:TQ}
theorem CJ(I:aM X pins σ H s){b l:TM}{xs:List V}(f:jS X pins H b)(q:jU X.K H l xs):l≠b:=by
 intro z;subst z;rcases q with (q|⟨o,q⟩)|⟨o,its,n,hk,_⟩;·rw[f.1]at q;cases q
 ·rw[f.1]at q;cases q
 ·have hb:X.base.get? l=some o:=I.ok.mod.kin l o hk;rcases f.2.2.2.1 with z|z;·exact I.ok.noex l o hb z
  ·exact absurd (UU (Up (I.ok.bs l o hb).1) z) (VV _)
end
def Hm(e it l:TM)(i:Nat)(h:Ua):Prop:=(∃old,IsEnum h e it i old)/\h.IsTupleIter it l i
section
variable{X:Cx}{a:TU}{ta:TA}{p p2 pos pos2:Pos}
theorem EA(hg:Gl X "range")(hm:X.mg "range"=none)(ha:PA X [a] ta)(hs:Ue [a] X.env=[(false,Ui a X.env)]){pins:List (TM×Obj)}{s:TQ}{σ:L2.St}{H:Hp}{R:Int->Hp->Prop}(I:aM X pins σ H s)(h:ta σ H λvs H1=>∃j:Int,vs=[.int j]/\R j H1):TY (TZ X.prog X.w) X.A (Ui (.Call (.Name "range" p) [a] [] pos) X.env) (λv s1=>∃(r:TM) (j:Int) (H1:Hp) (t u w:Tok),v=.ref r/\IsRange s1.heap r 0 j 1 t u w/\r<↑s1/\aM X pins σ H1 s1/\R j H1) X.xe s:=by refine Call_ (mI I hg hm boot_range (Xi (dn (ha pos pins s σ H _ I h) λus s1⟨vs,H1,I1,r1,q1⟩=>?_) hs rfl));obtain⟨j,e,q⟩:=q1;subst e;cases r1 with|cons r rr=>cases rr;obtain⟨t,rfl⟩:=r;exact call_range_1 ⟨_,j,H1,_,_,_,rfl,IsRange.new ..,by simp[VI],I1.kept λb o e=>UC _ e,q⟩
end
theorem De:fillsNumberSlot (.type "tuple") "mul"=pure false:=PySem.fillsNumberSlot_seq (id:="tuple.__mul__") (r:=some (.builtin "tuple.__rmul__")) XM.lookup ↥2 F.slot_tuple_rmul.lookup ↥2
theorem LJ:seqRepeat? (.type "tuple")=pure (some (.builtin "tuple.__mul__")):=by unfold seqRepeat?;rw[PySem.seqSlot_of (T:="tuple") (name:="__mul__") (id:="tuple.__mul__") XM.lookup ↥2,PySem.seqSlot_of (T:="tuple") (name:="__rmul__") (id:="tuple.__rmul__") F.slot_tuple_rmul.lookup ↥2];rfl
theorem IW(a:Int)(t:Tok)(l:TM)(items:Array TL)(n:Nat)(dd:Option TM)(sl:Array (Option TL)):Meets (Wb.«int.__rmul__» ⟨[.int a t,.ref l],[]⟩) (λ_ R s=>s.heap.get? l=some {cls:=.type "tuple",dict:=dd,data:=.seq items n,slots:=sl}/\R (.ok (.ret Value.notImplemented)) s):=.of_wp λprog w A R s h=>by obtain⟨hp,g,d,tk,os⟩:=s;obtain⟨hl,h⟩:=h;wp_walk;exact⟨_,rfl,h⟩
theorem K0(l:TM)(x:TL)(n:Nat)(k:Int)(u:Tok)(dd:Option TM)(sl:Array (Option TL))(h0:2<=k)(h1:k<=100000):Meets (Wb.«tuple.__mul__» ⟨[.ref l,.int k u],[]⟩) (λ_ R s=>s.heap.get? l=some {cls:=.type "tuple",dict:=dd,data:=.seq #[x] n,slots:=sl}/\R (.ok (.ret (.ref ↑s))) {s with heap:=s.heap.push {cls:=.type "tuple",data:=.seq (Ug k.toNat x).toArray}}):=.of_wp λprog w A R s h=>by
 obtain⟨hp,g,d,tk,os⟩:=s;obtain⟨hl,h⟩:=h;have f1:=YR;have c1:¬(decide (k< -(2^63))||decide (k>=2^63))=true:=by simp;lia
 have c2:¬((#[x]:Array TL).isEmpty||k==1)=true:=by simp;lia
 have c3:¬(decide (k<=0)||(#[x]:Array TL).isEmpty)=true:=by simp;lia
 have c4:¬(((#[x]:Array TL).size:Int)*k>(2^63-1)/8):=by simp;lia
 have c5:¬YS (((#[x]:Array TL).size:Int)*k)=true:=by unfold YS;rw[VD];simp;lia
 wp_walk using Wd hl;rw[if_neg c1];wp_walk using Wd hl;rw[if_neg c2];wp_walk using Wd hl;rw[if_neg c3];wp_walk using Wd hl;rw[if_neg c4];show TY _ _ (if YS (((#[x]:Array TL).size:Int)*k)=true then _ else _) _ _ _;rw[if_neg c5];have f0:∀(m:Nat) (acc:Array TL),Xk (λx1 x2=>x1++x2) acc (Ug m #[x])=acc++(Ug m x).toArray:=by intro m;induction m with|zero=>intro acc;simp|succ m ih=>intro acc;rw[Wm,List.foldl_cons,ih,Wm];apply Array.toList_inj.mp;simp
 have e:Xk (λx1 x2=>x1++x2) #[] (Ug k.toNat #[x])=(Ug k.toNat x).toArray:=by rw[f0];simp
 show TY _ _ (Xj (Xk (λx1 x2=>x1++x2) #[] (Ug k.toNat #[x]))>>=λv=>ret v) _ _ _;rw[e];unfold Xj;refine TV (VY ?_ (by show(Ug k.toNat x).toArray.size<=Uj;rw[Uz,YH,VD];lia));exact Uh ⟨_,rfl,h⟩
theorem HN(l:TM)(x:TL)(n:Nat)(u:Tok)(dd:Option TM)(sl:Array (Option TL)):Meets (Wb.«tuple.__mul__» ⟨[.ref l,.int 0 u],[]⟩) (λ_ R s=>s.heap.get? l=some {cls:=.type "tuple",dict:=dd,data:=.seq #[x] n,slots:=sl}/\R (.ok (.ret (.ref ↑s))) {s with heap:=s.heap.push {cls:=.type "tuple",data:=.seq #[]}}):=.of_wp λprog w A R s h=>by
 obtain⟨hp,g,d,tk,os⟩:=s;obtain⟨hl,h⟩:=h;have f1:=YR;have c2:¬((#[x]:Array TL).isEmpty||(0:Int)==1)=true:=by simp
 wp_walk using Wd hl;first|rw[if_neg c2]|skip
 wp_walk using Wd hl;exact⟨_,rfl,h⟩
theorem HP(l:TM)(x:TL)(n:Nat)(u:Tok)(dd:Option TM)(sl:Array (Option TL)):Meets (Wb.«tuple.__mul__» ⟨[.ref l,.int 1 u],[]⟩) (λ_ R s=>s.heap.get? l=some {cls:=.type "tuple",dict:=dd,data:=.seq #[x] n,slots:=sl}/\R (.ok (.ret (.ref l))) s):=.of_wp λprog w A R s h=>by obtain⟨hp,g,d,tk,os⟩:=s;obtain⟨hl,h⟩:=h;have f1:=YR;wp_walk using Wd hl;exact⟨_,rfl,h⟩
section
variable{X:Cx}
def F8(K:⇑0):R2:=λx y H Q=>∃a k v,x=.ref a/\y=.int k/\fj K H a [v]/\0<=k/\k<=100000/\∀p H',aF H H'->fj K H' p (Ug k.toNat v)->Q (.ref p) H'
theorem Il:lS X (Vg .Mult) (F8 X.K):=by
 intro pins s σ H x y v u Q I rx ry h;obtain⟨a,k,z,rfl,rfl,ha,k0,k1,q⟩:=h;cases rx;obtain⟨t,rfl⟩:=ry;obtain⟨its,r,p,hz⟩:=I.tuple ha;obtain⟨uz,rfl,rz⟩:=ur r;obtain⟨⟨cls,dd,data,sl⟩,ho,hc,n,hd⟩:=id p;simp only at hc hd;subst hc hd;refine wpAny_binaryOp_repeat_ref (T:="tuple") (U:="int") ⋯ ⟨_,ho,rfl⟩ (λs'=>XF s' k t) De F.fills_int_mul Yj LJ F.slot_int_index.lookup (Wn Yj (XF s k t) F.entry_int_rmul (F.args_int_rmul_2 _ _) (IW k t a #[uz] n dd sl) ⟨ho,rfl,⟨_,ho,rfl⟩,?_⟩);have new:∀m:Nat,m=k.toNat->EP X pins σ Q (.ref ↑s) {s with heap:=s.heap.push {cls:=.type "tuple",data:=.seq (Ug m uz).toArray},toks:=s.toks}:=λm hm=>by
  have hf:H ↑s=none:=I.hok.fresh ↥8;have vv:∀j:Nat,bc (Ug j z) (Ug j uz):=λj=>by induction j with|zero=>exact .nil|succ j ih=>exact .cons rz ih
  refine⟨.ref ↑s,_,I.laid (t':=s.toks) (o:=.tup (Ug m z)) (λb ob q=>UC _ q) ↥8 ⟨by rw[YH,VD];lia,_,vv m,tI.new _ _⟩,rfl,q _ _ (aF.new hf) (fj.of (by rw[aH,hm]))⟩
 rcases(by lia:k=0\/k=1\/2<=k) with e|e|e;·subst e;exact Wn XM ⟨_,ho,rfl⟩ F.entry_tuple_mul (F.args_tuple_mul_2 _ _) (HN a uz n t dd sl) ⟨ho,new 0 rfl⟩
 ·subst e;exact Wn XM ⟨_,ho,rfl⟩ F.entry_tuple_mul (F.args_tuple_mul_2 _ _) (HP a uz n t dd sl) ⟨ho,⟨.ref a,H,I,rfl,q a H (aF.refl H) ha⟩⟩
 ·exact Wn XM ⟨_,ho,rfl⟩ F.entry_tuple_mul (F.args_tuple_mul_2 _ _) (K0 a uz n k t dd sl e k1) ⟨ho,new _ rfl⟩
end
def wY(j:Int):Obj:={cls:=.type "range_iterator",data:=.fields #[UZ (j-1),UZ j,UZ (-1)]}
section
variable{prog:Uc}{w:TX}{A:Ud}{E:TL->TQ->Prop}{s:TQ}
theorem Dw(r:TM)(j:Int)(t u v:Tok)(j0:0<=j)(j1:j<=100000):Meets (Wb.«range.__reversed__» ⟨[.ref r],[]⟩) (λ_ R s=>IsRange s.heap r 0 j 1 t u v/\R (.ok (.ret (.ref ↑s))) {s with heap:=s.heap.push (wY j)}):=.of_wp λprog w A R s h=>by
 obtain⟨hp,g,d,tk,os⟩:=s;obtain⟨hr,h⟩:=h;have e1:WO 0 j 1=j:=by rw[rangeSize_one];split<;>lia
 show TY _ _ (Zd (.ref r)>>=_) _ _ _;unfold Zd;refine TV (TV (Vb hr rfl (x:=.int 0 t) rfl ?_));refine TV (Wp (a:=some 0) rfl ?_);refine TV (Vb hr rfl (x:=.int j u) rfl ?_);refine TV (Wp (a:=some j) rfl ?_);refine TV (Vb hr rfl (x:=.int 1 v) rfl ?_);refine TV (Wp (a:=some 1) rfl ?_);refine Uh ?_;have hs:(Ve 0&&Ve j&&Ve 1&&Ve (-1)&&Ve (0-1)&&Ve (WO 0 j 1))=true:=by rw[e1];unfold Ve;simp;lia
 show TY _ _ (if (!(Ve 0&&Ve j&&Ve 1&&Ve (-1)&&Ve (0-1)&&Ve (WO 0 j 1)))=true then _ else _) _ _ _;rw[if_neg (by rw[hs];decide)];show TY _ _ (newFields (if (Ve 0&&Ve j&&Ve 1&&Ve (-1)&&Ve (0-1)&&Ve (WO 0 j 1))=true then"range_iterator"else"longrange_iterator") [UZ (0+(WO 0 j 1-1)*1),UZ (WO 0 j 1),UZ (-1)]>>=λv=>ret v) _ _ _;rw[if_pos hs,e1,show(0+(j-1)*1:Int)=j-1 by lia];refine TV (VY ?_);exact Uh ⟨_,rfl,h⟩
theorem Bu:isSubtype (.type "range_iterator") (.type "reversed")=pure false:=by rw[isSubtype_type];kernel_rfl
theorem Ge{r:TM}{j:Int}{t u v:Tok}{Q₁:TL->TQ->Prop}(hr:IsRange s.heap r 0 j 1 t u v)(j0:0<=j)(j1:j<=100000)(h:Q₁ (.ref ↑s) {s with heap:=s.heap.push (wY j)}):VE (TZ prog w) A (.call (.builtin "reversed.__new__") ⟨[.type "reversed",.ref r],[]⟩) (wants Q₁ E) s:=by
 have hT:s.TypeIs (.ref r) "range":=⟨_,hr,rfl⟩;refine codeAny_of_tree ?_;show TY _ A.in1 (do checkBuiltinCall "reversed.__new__" ⟨[.type "reversed",.ref r],[]⟩;again (.builtin "reversed.__new__" ⟨[.type "reversed",.ref r],[]⟩)) _ _ s;refine TV (Wp (F.newCall_reversed_1 _) (Uh ⟨plainId_quiet F.plain_reversed_new _,codeAny_builtin F.entry_reversed_new ?_⟩));rw[Around.under_plainId F.plain_reversed_new _];unfold Wb.«reversed.__new__»;refine TV (Wp (newClass_reversed _) ?_);try dsimp only
 refine TV (Wp (a:=()) (by first|rfl|kernel_rfl) ?_);refine TV (Wp (a:=()) (by first|rfl|kernel_rfl) ?_);try dsimp only
 refine TV (wpAny_specialOf hT YT.lookup ?_);try dsimp only
 refine TV (Wp (YT.bind _) ?_);try dsimp only
 first|rw[if_neg (show¬((Value.builtin "range.__reversed__"==Value.none)=true) from Vw)]|(show TY _ _ (if (Value.builtin "range.__reversed__"==Value.none)=true then _ else _) _ _ _;rw[if_neg (show¬((Value.builtin "range.__reversed__"==Value.none)=true) from Vw)])
 refine TV (WC ?_);refine TV (m:=runValue (.call (.builtin "range.__reversed__") ⟨[.ref r],[]⟩)) (show TY _ _ (call (.builtin "range.__reversed__") [.ref r]) _ _ _ from Wn YT hT F.entry_range_reversed (F.args_range_reversed_1 _) (Dw r j t u v j0 j1) ⟨hr,?_⟩);first|exact Uh h|exact TV (Uh (Uh h))
theorem Gd{r:TM}{j:Int}{t u v:Tok}{Q:TL->TQ->Prop}(hr:IsRange s.heap r 0 j 1 t u v)(j0:0<=j)(j1:j<=100000)(h:Q (.ref ↑s) {s with heap:=s.heap.push (wY j)}):TY (TZ prog w) A (call (.type "reversed") [.ref r]) Q E s:=by refine callType_other (U:="range_iterator") (Q₁:=λobj s₁=>obj=.ref ↑s/\s₁={s with heap:=s.heap.push (wY j)}) ↥2 F.create_reversed ⟨_,_,F.mro_reversed⟩ F.made_reversed Bu (F.typeCall_reversed_1 _) (Ge hr j0 j1 ⟨rfl,rfl⟩) ?_;rintro obj s₁⟨rfl,rfl⟩;exact⟨⟨_,UT _ rfl,rfl⟩,h⟩
end
section
variable{X:Cx}{a:TU}{ta:TA}{p p2 p3 pos pos2 pos3:Pos}
theorem ve:Vu "reversed"=some (.type "reversed"):=by decide+kernel
end
theorem CY(l:TM)(xs:Array TL):Meets (Wb.«enumerate.__new__» ⟨[.type "enumerate",.ref l],[]⟩) (λ_ R s=>s.heap.IsTuple l xs/\R (.ok (.ret (.ref (↑s+1)))) {s with heap:=(s.heap.push {cls:=.type "tuple_iterator",data:=.fields #[.ref l,.int 0 0]}).push {cls:=.type "enumerate",data:=.fields #[.none,.bool false,.ref ↑s,UZ 0,.none,.none]}}):=.of_wp λprog w A R s h=>by
 obtain⟨hp,g,d,tk,os⟩:=s;obtain⟨ht,h⟩:=h;have a1:=sub_enumerate;have T1:Heap.IsTuple (Shared.heap ⟨hp,g,d,tk,os⟩) l xs:=ht;obtain⟨⟨cls,dd,data,sl⟩,ho,hc,n,hd⟩:=id ht;simp only at hc hd;subst hc hd;wp_walk using Wd ho;refine wpAny_stack_any λst=>Uh ?_;split
 ·rename_i c _ _ _ _ _;cases (c==Value.type "enumerate");·wp_walk using Wd ho,XA T1;refine⟨_,rfl,?_⟩;simp only[VI];exact h
  ·wp_walk using Wd ho,XA T1;refine⟨_,rfl,?_⟩;simp only[VI];exact h
 ·wp_walk using Wd ho,XA T1;refine⟨_,rfl,?_⟩;simp only[VI];exact h
section
variable{prog:Uc}{w:TX}{A:Ud}{E:TL->TQ->Prop}{s:TQ}
theorem AX{l:TM}{xs:Array TL}{Q:TL->TQ->Prop}(t1:s.heap.IsTuple l xs)(h:∀g,Hm (↑s+1) ↑s l 0 g->(∀c o,s.heap.get? c=some o->g.get? c=some o)->Q (.ref (↑s+1)) {s with heap:=g}):TY (TZ prog w) A (call (.type "enumerate") [.ref l]) Q E s:=by
 refine callType_new F.called_enumerate ⋯ (F.typeCall_enumerate_1 _) (F.newCall_enumerate_1 _) (λobj=>F.args_object_init_2 obj _) F.entry_enumerate_new (CY l xs) ⟨t1,?_⟩;have g2:((s.heap.push {cls:=.type "tuple_iterator",data:=.fields #[.ref l,.int 0 0]}).push {cls:=.type "enumerate",data:=.fields #[.none,.bool false,.ref ↑s,UZ 0,.none,.none]}).get? (↑s+1)=some {cls:=.type "enumerate",data:=.fields #[.none,.bool false,.ref ↑s,UZ 0,.none,.none]}:=by
  have e:↑s+1=(s.heap.push {cls:=.type "tuple_iterator",data:=.fields #[.ref l,.int 0 0]}).objs.size:=by simp only[VI]
  rw[e];exact UT _ rfl
 exact⟨⟨_,g2,rfl⟩,h _ ⟨⟨.none,g2⟩,⟨_,UC _ (UT _ rfl),rfl,rfl⟩⟩ λc o x=>UC _ (UC _ x)⟩
end
theorem tN:Vu "enumerate"=some (.type "enumerate"):=by decide+kernel
section
variable{X:Cx}{K:⇑0}{es:List TU}{k0:Nat}{tp:Pos}{a:TU}{ta:TA}{p pos:Pos}
end
theorem Dl{X:Cx}:lS X (VC .IsNot) (λx y H Q=>∃b c,x=.bl b/\y=.bl c/\Q (.bl (!(b==c))) H):=by intro pins s σ H x y v u Q I rx ry h;obtain⟨b,c,rfl,rfl,q⟩:=h;cases rx;cases ry;refine wpAny_isNot_plain (by cases b<;>cases c<;>rfl) ⟨.bl (!(b==c)),H,I,?_,q⟩;show Value.bool _=Value.bool _;cases b<;>cases c<;>rfl
section
variable{prog:Uc}{w:TX}{A:Ud}{E:TL->TQ->Prop}{s:TQ}
end
section
variable{prog:Uc}{w:TX}{A:Ud}{E:TL->TQ->Prop}{s:TQ}
end
section
variable{prog:Uc}{w:TX}{A:Ud}{E:TL->TQ->Prop}{s:TQ}
end
theorem zm{X:Cx}{ix:Nat}{nm:Str}{posn:Pos}{pins:List (TM×Obj)}{σ:L2.St}{D0:yY}(hNd:X.N.Nodup)(hix:X.N[ix]?=some nm)(hlc:X.env.scope.names.lookup nm=some .local)(C D:TM)(H5:Hp)(s6:TQ)(hn:∃m,s6.heap.Ns C m)(qn:D0.nx (σ.set ix (some (.ref D))) H5)(fC:jS X pins H5 C)(key:∀h',WB C s6.heap h'->aM X pins σ H5 {s6 with heap:=h'}):compPost (TZ X.prog X.w) X.A X.xe (some (Vr (.Name nm posn) X.env)) (λ_ s'=>TY (TZ X.prog X.w) X.A (pure ()) (λ_ s''=>TY (TZ X.prog X.w) X.A (pure Flow.next) (SP X pins D0) X.xe s'') X.xe s') (.ref D) C (.ok .next) s6:=by
 obtain⟨m,hn⟩:=hn;show TY (TZ X.prog X.w) X.A (Vr (.Name nm posn) X.env (.ref D)) _ X.xe s6;refine wpAny_assign_Name (xi (v:=.ref D) (key s6.heap ⟨rfl,λ_ _=>rfl⟩) hNd hix (Or.inl hlc) rfl (λs' I' hsb=>?_) (UI hlc));obtain⟨a,sb,ha⟩:=hsb;have nCa:C≠a:=by
  rcases ha with z|z;·rw[z];exact fC.2.1
  ·exactλe=>fC.2.2.2.2.1 _ _ z e.symm
 obtain⟨oN,esN,epN,hoN,rN⟩:=hn;refine⟨m,⟨oN,esN,epN,(sb.2 C nCa).trans hoN,rN⟩,λh' sb'=>Uh (Uh ?_)⟩;have I8:aM X pins (σ.set ix (some (.ref D))) H5 {s' with heap:=h',toks:=s'.toks}:=I'.turnedL (t':=s'.toks) (fp:=[C]) (λb hb=>by rw[YN.mp hb];exact fC) λb o nb e=>sb'.extBut b o (by simpa using nb) e;exact⟨_,H5,I8,qn⟩
inductive yX where|vi (k:Int)|vb (x:Bool)|vn|vp (a:TM) (p q:Int)
def yX.toV:yX->V|.vi k=>.int k|.vb x=>.bl x|.vn=>.non|.vp a _ _=>.ref a
def yX.toD:yX->TN|.vi k=>.int k|.vb x=>.bool x|.vn=>.none|.vp _ p q=>.tuple [.int p,.int q]
def yX.ok(K:⇑0)(F:Hp):yX->Prop|.vp a p q=>fj K F a [.int p,.int q]|_=>True
theorem yX.ok.mono{K:⇑0}{F F':Hp}(h:aF F F'){a:yX}(q:a.ok K F):a.ok K F':=by cases a<;>first|exact h.tup q|trivial
mutual
def DA(K:⇑0)(F:Hp):TN->V->Prop|.none,v=>v=.non|.bool b,v=>v=.bl b|.int i,v=>v=.int i|.str x,v=>v=.str x|.tuple ds,v=>∃a xs,v=.ref a/\fj K F a xs/\aW K F ds xs|.list ds,v=>∃a xs,v=.ref a/\jU K F a xs/\aW K F ds xs|.dict kvs,v=>∃(a:TM) (m:List (Int×yX)),v=.ref a/\F a=some (.dK (m.map λp=>(VL p.1,p.2.toV)))/\kvs=m.map (λp=>(PyData.int p.1,p.2.toD))/\∀p∈m,p.2.ok K F
def aW(K:⇑0)(F:Hp):List TN->List V->Prop|[],xs=>xs=[]|d::ds,xs=>∃x r,xs=x::r/\DA K F d x/\aW K F ds r
end
mutual
theorem DA.mono{K:⇑0}{F F':Hp}(h:aF F F'):∀{d:TN}{v:V},DA K F d v->DA K F' d v|.none,_,q=>by simp only[DA]at q⊢;exact q|.bool b,_,q=>by simp only[DA]at q⊢;exact q|.int i,_,q=>by simp only[DA]at q⊢;exact q|.str x,_,q=>by simp only[DA]at q⊢;exact q|.tuple ds,_,q=>by simp only[DA]at q⊢;obtain⟨a,xs,e,s,r⟩:=q;exact⟨a,xs,e,h.tup s,aW.mono h r⟩|.list ds,_,q=>by simp only[DA]at q⊢;obtain⟨a,xs,e,s,r⟩:=q;exact⟨a,xs,e,h.seq s,aW.mono h r⟩|.dict _,_,q=>by simp only[DA]at q⊢;obtain⟨a,m,e,s,k,o⟩:=q;exact⟨a,m,e,h _ _ s,k,λp hp=>(o p hp).mono h⟩
theorem aW.mono{K:⇑0}{F F':Hp}(h:aF F F'):∀{ds:List TN}{xs:List V},aW K F ds xs->aW K F' ds xs|[],_,q=>by simp only[aW]at q⊢;exact q|d::ds,_,q=>by simp only[aW]at q⊢;obtain⟨x,r,e,a,b⟩:=q;exact⟨x,r,e,DA.mono h a,aW.mono h b⟩
end
section
variable{K:⇑0}{F:Hp}
theorem aW.len:∀{ds:List TN}{xs:List V},aW K F ds xs->ds.length=xs.length|[],_,q=>by simp only[aW]at q;subst q;rfl|d::ds,_,q=>by simp only[aW]at q;obtain⟨x,r,e,a,b⟩:=q;subst e;simp[aW.len b]
theorem aW.get:∀{ds:List TN}{xs:List V}{i:Nat}{d:TN},aW K F ds xs->ds[i]?=some d->∃v,xs[i]?=some v/\DA K F d v|[],_,_,_,_,h=>by simp at h|d::ds,_,i,d',q,h=>by simp only[aW]at q;obtain⟨x,r,e,a,b⟩:=q;subst e;cases i with|zero=>simp at h;subst h;exact⟨x,rfl,a⟩|succ i=>obtain⟨v,h1,h2⟩:=aW.get (i:=i) b (by simpa using h);exact⟨v,by simpa using h1,h2⟩
theorem aW.append:∀{ds es:List TN}{xs ys:List V},aW K F ds xs->aW K F es ys->aW K F (ds++es) (xs++ys)|[],_,_,_,q,s=>by simp only[aW]at q;subst q;simpa using s|d::ds,es,_,ys,q,s=>by simp only[aW]at q;obtain⟨x,r,e,a,b⟩:=q;subst e;simp only[VQ,aW];exact⟨x,_,rfl,a,aW.append b s⟩
theorem aW.one{d:TN}{v:V}(h:DA K F d v):aW K F [d] [v]:=by simp only[aW];exact⟨_,_,rfl,h,rfl⟩
theorem aW.nil:aW K F [] []:=by simp only[aW]
theorem aW.cons{d:TN}{v:V}{ds:List TN}{vs:List V}(h:DA K F d v)(r:aW K F ds vs):aW K F (d::ds) (v::vs):=by simp only[aW];exact⟨_,_,rfl,h,r⟩
theorem aW.drop:∀{ds:List TN}{xs:List V}(n:Nat),aW K F ds xs->aW K F (ds.drop n) (xs.drop n)|_,_,0,q=>q|[],_,n+1,q=>by simp only[aW]at q;subst q;exact aW.nil|d::ds,_,n+1,q=>by simp only[aW]at q;obtain⟨x,r,e,a,b⟩:=q;subst e;simpa using aW.drop n b
theorem aW.take:∀{ds:List TN}{xs:List V}(n:Nat),aW K F ds xs->aW K F (ds.take n) (xs.take n)|_,_,0,q=>by simpa using aW.nil|[],_,n+1,q=>by simp only[aW]at q;subst q;exact aW.nil|d::ds,_,n+1,q=>by simp only[aW]at q;obtain⟨x,r,e,a,b⟩:=q;subst e;simpa using aW.cons a (aW.take n b)
theorem aW.set{d:TN}{v:V}(h:DA K F d v):∀{ds:List TN}{xs:List V}(n:Nat),aW K F ds xs->aW K F (ds.set n d) (xs.set n v)|[],_,_,q=>by simp only[aW]at q;subst q;exact aW.nil|e::ds,_,n,q=>by simp only[aW]at q;obtain⟨x,r,e,a,b⟩:=q;subst e;cases n with|zero=>exact aW.cons h b|succ n=>exact aW.cons a (aW.set h n b)
theorem aW.erase:∀{ds:List TN}{xs:List V}(n:Nat),aW K F ds xs->aW K F (ds.eraseIdx n) (xs.eraseIdx n)|[],_,_,q=>by simp only[aW]at q;subst q;exact aW.nil|e::ds,_,n,q=>by simp only[aW]at q;obtain⟨x,r,e,a,b⟩:=q;subst e;cases n with|zero=>exact b|succ n=>exact aW.cons a (aW.erase n b)
theorem aW.ints:∀{ns:List Int}{xs:List V},aW K F (ns.map .int) xs↔xs=ns.map V.int
 |[],xs=>by simp[aW]|n::ns,xs=>by
  simp only[Uo,aW,DA];constructor;·rintro⟨x,r,e,rfl,q⟩;rw[e,aW.ints.mp q]
  ·rintro rfl;exact⟨_,_,rfl,rfl,aW.ints.mpr rfl⟩
theorem aW.bools:∀{ns:List Bool}{xs:List V},aW K F (ns.map .bool) xs↔xs=ns.map V.bl
 |[],xs=>by simp[aW]|n::ns,xs=>by
  simp only[Uo,aW,DA];constructor;·rintro⟨x,r,e,rfl,q⟩;rw[e,aW.bools.mp q]
  ·rintro rfl;exact⟨_,_,rfl,rfl,aW.bools.mpr rfl⟩
theorem bZ{i:Int}{v:V}:DA K F (.int i) v↔v=.int i:=by simp only[DA]
theorem gb{b:Bool}{v:V}:DA K F (.bool b) v↔v=.bl b:=by simp only[DA]
theorem lD{v:V}:DA K F .none v↔v=.non:=by simp only[DA]
theorem AV{x:Str}{v:V}:DA K F (.str x) v↔v=.str x:=by simp only[DA]
theorem dk{ds:List TN}{v:V}:DA K F (.tuple ds) v↔∃a xs,v=.ref a/\fj K F a xs/\aW K F ds xs:=by simp only[DA]
theorem dD{ds:List TN}{v:V}:DA K F (.list ds) v↔∃a xs,v=.ref a/\jU K F a xs/\aW K F ds xs:=by simp only[DA]
end
inductive Sv where|d (x:TN)|l (xs:List TN)/--a list of lists that nobody else holds -/|n (xss:List (List TN))
abbrev En:=List (Option Sv)
inductive Rv where|d (x:TN)|l (xs:List TN)|s (i:Nat)
def Fp(σ:L2.St)(e:En)(H:Hp)(i:Nat)(a:TM):Prop:=(∃xs:List TN,e[i]?=some (some (Sv.l xs))/\σ[i]?=some (some (.ref a)))\/∃(xss:List (List TN)) (l:TM) (bs:List TM),e[i]?=some (some (Sv.n xss))/\σ[i]?=some (some (.ref l))/\H l=some (.lst (bs.map V.ref))/\(a=l\/a∈bs)
def c9(σ:L2.St)(e:En)(H:Hp)(a:TM):Prop:=∃i,Fp σ e H i a
structure bz (K:⇑0) (F H:Hp) (σ:L2.St) (e:En):Prop where
 sm:aF F H
 len:σ.length=e.length
 dat:∀(i:Nat) (x:TN),e[i]?=some (some (.d x))->∃v,σ[i]?=some (some v)/\DA K F x v
 own:∀(i:Nat) (xs:List TN),e[i]?=some (some (.l xs))->∃l vs,σ[i]?=some (some (.ref l))/\F l=none/\H l=some (.lst vs)/\aW K F xs vs
 nst:∀(i:Nat) (xss:List (List TN)),e[i]?=some (some (.n xss))->∃(l:TM) (bs:List TM),σ[i]?=some (some (.ref l))/\F l=none/\H l=some (.lst (bs.map V.ref))/\bs.length=xss.length/\bs.Nodup/\l∉bs/\∀(k:Nat) (b:TM) (ys:List TN),bs[k]?=some b->xss[k]?=some ys->F b=none/\∃us,H b=some (.lst us)/\aW K F ys us
 fp:∀(i j:Nat) (a:TM),Fp σ e H i a->Fp σ e H j a->i=j
theorem bz.inj{K:⇑0}{F H:Hp}{σ:L2.St}{e:En}(R:bz K F H σ e)(i j:Nat)(xs ys:List TN)(l:TM)(h1:e[i]?=some (some (.l xs)))(h2:e[j]?=some (some (.l ys)))(h3:σ[i]?=some (some (.ref l)))(h4:σ[j]?=some (some (.ref l))):i=j:=R.fp i j l (.inl ⟨xs,h1,h3⟩) (.inl ⟨ys,h2,h4⟩)
theorem bz.fpAt{K:⇑0}{F H:Hp}{σ:L2.St}{e:En}(R:bz K F H σ e){i:Nat}{a:TM}(h:Fp σ e H i a):F a=none/\∃vs,H a=some (.lst vs):=by
 rcases h with⟨xs,h1,h2⟩|⟨xss,l,bs,h1,h2,h3,h4⟩;·obtain⟨l,vs,g1,g2,g3,_⟩:=R.own i xs h1;rw[h2]at g1;cases g1;exact⟨g2,vs,g3⟩
 ·obtain⟨l',bs',g1,g2,g3,g4,g5,g6,g7⟩:=R.nst i xss h1;rw[h2]at g1;cases g1;rw[h3]at g3;have e1:bs=bs':=by have:=HO.lst.inj (UH g3);exact List.map_inj_right (λ_ _ z=>V.ref.inj z)|>.mp this
  subst e1;rcases h4 with rfl|h4;·exact⟨g2,_,h3⟩
  ·obtain⟨k,hk⟩:=We h4;have hk2:k<xss.length:=by rw[<-g4];exact(TC hk).1
   obtain⟨c1,us,c2,_⟩:=g7 k a xss[k] hk (Um hk2);exact⟨c1,us,c2⟩
structure hV (σ:L2.St) (F H:Hp) (e:En) (F' H':Hp) (e':En):Prop where
 sf:aF F F'
 dom:∀a,H' a=none->H a=none
 fr:∀a vs,F a=none->H a=some (.lst vs)->¬c9 σ e H a->F' a=none
 lst:∀a vs,H a=some (.lst vs)->∃vs',H' a=some (.lst vs')tmp:∀a o,H a=some o->¬c9 σ e H a->H' a=some o
 shp:∀i:Nat,(∃xs,e'[i]?=some (some (.l xs)))↔(∃xs,e[i]?=some (some (.l xs)))ow:∀a,c9 σ e' H' a->c9 σ e H a\/H a=none
 fd:∀a m,F a=none->H a=some (.dK m)->¬c9 σ e H a->F' a=none
theorem hV.refl(σ:L2.St)(F H:Hp)(e:En):hV σ F H e F H e:=⟨aF.refl _,λ_ h=>h,λ_ _ h _ _=>h,λ_ vs h=>⟨vs,h⟩,λ_ _ h _=>h,λ_=>Iff.rfl,λ_ h=>.inl h,λ_ _ h _ _=>h⟩
theorem hV.trans{σ:L2.St}{F H F1 H1 F2 H2:Hp}{e e1 e2:En}(x:hV σ F H e F1 H1 e1)(y:hV σ F1 H1 e1 F2 H2 e2):hV σ F H e F2 H2 e2:=⟨x.sf.trans y.sf,λa h=>x.dom a (y.dom a h),λa vs h n no=>let⟨vs',q⟩:=x.lst a vs n;y.fr a vs' (x.fr a vs h n no) q (λz=>(x.ow a z).elim no λz=>by rw[n]at z;cases z),λa vs h=>let⟨vs',q⟩:=x.lst a vs h;y.lst a vs' q,λa o h n=>y.tmp a o (x.tmp a o h n) (λz=>(x.ow a z).elim n λz=>by rw[h]at z;cases z),λi=>(y.shp i).trans (x.shp i),λa h=>(y.ow a h).elim (x.ow a) λz=>.inr (x.dom a z),λa m h n no=>y.fd a m (x.fd a m h n no) (x.tmp a _ n no) (λz=>(x.ow a z).elim no λz=>by rw[n]at z;cases z)⟩
def dt(K:⇑0)(σ:L2.St)(H0 F H:Hp)(e:En):Rv->V->Prop|.d x,v=>DA K F x v|.l xs,v=>∃l vs,v=.ref l/\H0 l=none/\F l=none/\H l=some (.lst vs)/\aW K F xs vs/\¬c9 σ e H l|.s i,v=>σ[i]?=some (some v)/\∃xs,e[i]?=some (some (.l xs))
section
variable{K:⇑0}{σ:L2.St}{H0 F H F' H':Hp}{e e':En}{r:Rv}{v:V}
theorem dt.ext(h:dt K σ H0 F H e r v)(x:hV σ F H e F' H' e'):dt K σ H0 F' H' e' r v:=by cases r with|d y=>exact DA.mono x.sf h|l xs=>obtain⟨l,vs,e1,h1,h2,h3,h4,h5⟩:=h;exact⟨l,vs,e1,h1,x.fr l _ h2 h3 h5,x.tmp l _ h3 h5,aW.mono x.sf h4,λz=>(x.ow l z).elim h5 λz=>by rw[h3]at z;cases z⟩|s i=>exact⟨h.1,(x.shp i).mpr h.2⟩
theorem dt.weak{H1:Hp}(h:dt K σ H1 F H e r v)(d:∀a,H1 a=none->H0 a=none):dt K σ H0 F H e r v:=by cases r with|d y=>exact h|l xs=>obtain⟨l,vs,e1,h1,r⟩:=h;exact⟨l,vs,e1,d l h1,r⟩|s i=>exact h
theorem bz.ownH(R:bz K F H σ e)(a:TM)(h:c9 σ e H a):H a≠none:=by obtain⟨i,h⟩:=h;obtain⟨_,vs,h2⟩:=R.fpAt h;rw[h2];simp
theorem bz.freeF(R:bz K F H σ e){p:TM}(hp:H p=none):F p=none:=R.sm.free hp
theorem Ho(R:bz K F H σ e)(h:∀l bs,H l=some (.lst bs)->c9 σ e H l->H' l=some (.lst bs)){i:Nat}{a:TM}:Fp σ e H' i a↔Fp σ e H i a:=by
 have key:∀xss l,e[i]?=some (some (.n xss))->σ[i]?=some (some (.ref l))->H' l=H l:=λxss l h1 h2=>by obtain⟨l',bs,g1,g2,g3,_⟩:=R.nst i xss h1;rw[h2]at g1;cases g1;rw[g3];exact h l _ g3 ⟨i,.inr ⟨xss,l,bs,h1,h2,g3,.inl rfl⟩⟩
 constructor
 ·rintro(h1|⟨xss,l,bs,h1,h2,h3,h4⟩);·exact .inl h1
  ·exact .inr ⟨xss,l,bs,h1,h2,by rw[<-key xss l h1 h2];exact h3,h4⟩
 ·rintro(h1|⟨xss,l,bs,h1,h2,h3,h4⟩);·exact .inl h1
  ·exact .inr ⟨xss,l,bs,h1,h2,by rw[key xss l h1 h2];exact h3,h4⟩
theorem bz.keep(R:bz K F H σ e)(sF:aF F F')(sm:aF F' H')(hf:∀a,c9 σ e H a->F' a=none)(hh:∀a o,c9 σ e H a->H a=some o->H' a=some o):bz K F' H' σ e/\∀a,c9 σ e H' a↔c9 σ e H a:=by
 have fs:∀{i a},Fp σ e H' i a↔Fp σ e H i a:=fun{i a}=>Ho R λl bs h1 h2=>hh l _ h2 h1;refine⟨⟨sm,R.len,λi x h=>let⟨v,h1,h2⟩:=R.dat i x h;⟨v,h1,DA.mono sF h2⟩,λi xs h=>?_,λi xss h=>?_,λi j a h1 h2=>R.fp i j a (fs.mp h1) (fs.mp h2)⟩,λa=>⟨λ⟨i,h⟩=>⟨i,fs.mp h⟩,λ⟨i,h⟩=>⟨i,fs.mpr h⟩⟩⟩;·obtain⟨l,vs,h1,h2,h3,h4⟩:=R.own i xs h;have o:c9 σ e H l:=⟨i,.inl ⟨xs,h,h1⟩⟩;exact⟨l,vs,h1,hf l o,hh l _ o h3,h4.mono sF⟩
 ·obtain⟨l,bs,h1,h2,h3,h4,h5,h6,h7⟩:=R.nst i xss h;have o:c9 σ e H l:=⟨i,.inr ⟨xss,l,bs,h,h1,h3,.inl rfl⟩⟩;refine⟨l,bs,h1,hf l o,hh l _ o h3,h4,h5,h6,λk b ys g1 g2=>?_⟩;obtain⟨c1,us,c2,c3⟩:=h7 k b ys g1 g2;have ob:c9 σ e H b:=⟨i,.inr ⟨xss,l,bs,h,h1,h3,.inr (TK g1)⟩⟩;exact⟨hf b ob,us,hh b _ ob c2,c3.mono sF⟩
theorem bz.same(R:bz K F H σ e)(s:aF H H'):bz K F H' σ e/\hV σ F H e F H' e:=by obtain⟨R',o'⟩:=R.keep (aF.refl F) (R.sm.trans s) (λa⟨i,h⟩=>(R.fpAt h).1) λa o _ h=>s a o h;exact⟨R',⟨aF.refl _,λa h=>s.free h,λ_ _ h _ _=>h,λa vs h=>⟨vs,s _ _ h⟩,λa o h _=>s a o h,λ_=>Iff.rfl,λa h=>.inl ((o' a).mp h),λ_ _ h _ _=>h⟩⟩
theorem bz.freeze(R:bz K F H σ e){p:TM}{o:HO}(hF:F p=none)(hp:H p=some o)(hn:¬c9 σ e H p):bz K (cg F p o) H σ e/\aF F (cg F p o):=by
 have sF:aF F (cg F p o):=aF.new hF;refine⟨(R.keep sF (λb u q=>?_) (λa ha=>?_) λ_ _ _ h=>h).1,sF⟩
 ·by_cases z:b=p;·subst z;rw[aH]at q;cases q;exact hp
  ·rw[aJ z]at q;exact R.sm _ _ q
 ·obtain⟨i,hi⟩:=ha;have z:a≠p:=λz=>hn ⟨i,by rw[<-z];exact hi⟩;rw[aJ z];exact(R.fpAt hi).1
theorem bz.notOwn(R:bz K F H σ e){p:TM}{o:HO}(hp:H p=some o)(hl:∀vs,o≠.lst vs):¬c9 σ e H p:=λ⟨i,h⟩=>by obtain⟨_,vs,g⟩:=R.fpAt h;rw[hp]at g;cases g;exact hl _ rfl
theorem bz.newT(R:bz K F H σ e){p:TM}{vs:List V}(hp:H p=none):bz K (cg F p (.tup vs)) (cg H p (.tup vs)) σ e/\hV σ F H e (cg F p (.tup vs)) (cg H p (.tup vs)) e:=by have hF:=R.freeF hp;obtain⟨R1,X1⟩:=R.same (aF.new hp (o:=.tup vs));obtain⟨R2,s2⟩:=R1.freeze (p:=p) hF aH (R1.notOwn aH (λ_ z=>nomatch z));refine⟨R2,⟨s2,X1.dom,λa ws h n _=>?_,X1.lst,X1.tmp,X1.shp,X1.ow,λa ws h n _=>?_⟩⟩;all_goals
 have z:a≠p:=λz=>by rw[z,hp]at n;cases n
 rw[aJ z];exact h
theorem bz.sameOwn(R:bz K F H σ e)(s:aF H H')(a:TM):c9 σ e H' a↔c9 σ e H a:=(R.keep (aF.refl F) (R.sm.trans s) (λa⟨i,h⟩=>(R.fpAt h).1) λa o _ h=>s a o h).2 a
theorem bz.newL(R:bz K F H σ e){p:TM}{vs:List V}(hp:H p=none):bz K F (cg H p (.lst vs)) σ e/\hV σ F H e F (cg H p (.lst vs)) e/\F p=none/\¬c9 σ e (cg H p (.lst vs)) p:=⟨(R.same (aF.new hp)).1,(R.same (aF.new hp)).2,R.freeF hp,λz=>R.ownH p ((R.sameOwn (aF.new hp) p).mp z) hp⟩
theorem bz.growT(R:bz K F H σ e){p:TM}{xs:List V}(s:aF H H')(hp:fj K H' p xs):∃F',bz K F' H' σ e/\hV σ F H e F' H' e/\fj K F' p xs:=by
 obtain⟨R1,X1⟩:=R.same s;rcases hp with hp|hp
 ·have key:∀o,H' p=some o->(∀vs,o≠.lst vs)->(∀m,o≠.dK m)->(∀G:Hp,G p=some o->Rd G p (.tup xs))->∃F',bz K F' H' σ e/\hV σ F H e F' H' e/\fj K F' p xs:=by intro o ho hl hm hr;cases q:F p with|some u=>have:=R1.sm _ _ q;rw[ho]at this;cases this;exact⟨F,R1,X1,.inl (hr F q)⟩|none=>
    obtain⟨R2,s2⟩:=R1.freeze q ho (R1.notOwn ho hl);refine⟨_,R2,⟨s2,X1.dom,λa ws h n _=>?_,X1.lst,X1.tmp,X1.shp,X1.ow,λa ws h n _=>?_⟩,.inl (hr _ aH)⟩
    ·have z:a≠p:=λz=>by rw[z]at n;rw[s _ _ n]at ho;cases ho;exact hl _ rfl
     rw[aJ z];exact h
    ·have z:a≠p:=λz=>by rw[z]at n;rw[s _ _ n]at ho;cases ho;exact hm _ rfl
     rw[aJ z];exact h
  rcases hp with hp|⟨ob,hp⟩;·exact key _ hp (λ_ z=>nomatch z) (λ_ z=>nomatch z) λG g=>.inl g
  ·exact key _ hp (λ_ z=>nomatch z) (λ_ z=>nomatch z) λG g=>.inr ⟨ob,g⟩
 ·exact⟨F,R1,X1,.inr hp⟩
theorem dt.frozen(R:bz K F H σ e){xs:List TN}(h:dt K σ H0 F H e (.l xs) v):∃F',bz K F' H σ e/\aF F F'/\DA K F' (.list xs) v/\(∀a,F a=none->H0 a≠none->F' a=none):=by
 obtain⟨l,vs,rfl,h1,h2,h3,h4,h5⟩:=h;obtain⟨R2,s2⟩:=R.freeze h2 h3 h5;refine⟨_,R2,s2,?_,λa ha hn=>?_⟩;·rw[dD];exact⟨l,vs,rfl,.inl (.inl aH),aW.mono s2 h4⟩
 ·have z:a≠l:=λz=>hn (by rw[z];exact h1);rw[aJ z];exact ha
def iS(e:En):Rv->Option (Bool×List TN)
 |.d (.tuple xs)=>some (false,xs)|.d (.list xs)=>some (true,xs)|.l xs=>some (true,xs)|.s i=>match e[i]? with|some (some (.l xs))=>some (true,xs)|_=>none
 |_=>none
theorem iq(R:bz K F H σ e)(h:dt K σ H0 F H e r v){b:Bool}{xs:List TN}(q:iS e r=some (b,xs)):∃p vs,v=.ref p/\aW K F xs vs/\(if b=true then jU K H p vs else fj K H p vs):=by cases r with
 |d x=>cases x with|tuple ds=>cases q;obtain⟨a,ys,e1,e2,e3⟩:=dk.mp h;exact⟨a,ys,e1,e3,R.sm.tup e2⟩|list ds=>cases q;obtain⟨a,ys,e1,e2,e3⟩:=dD.mp h;exact⟨a,ys,e1,e3,R.sm.seq e2⟩|_=>cases q
 |l ys=>cases q;obtain⟨l,vs,e1,h1,h2,h3,h4,_⟩:=h;exact⟨l,vs,e1,h4,.inl (.inl h3)⟩|s i=>obtain⟨h1,ys,h2⟩:=h;simp only[iS,h2]at q;cases q;obtain⟨l,vs,e1,e2,e3,e4⟩:=R.own i _ h2;rw[h1]at e1;cases e1;exact⟨l,vs,rfl,e4,.inl (.inl e3)⟩
end
abbrev FE:=En->Option (Rv×En)
abbrev FT:=En->Option (Bool×En)
abbrev FA:=En->Option (List Rv×En)
def eC(K:⇑0)(σ:L2.St)(H0 F H:Hp)(e:En):List Rv->List V->Prop|[],vs=>vs=[]|r::rs,vs=>∃v ws,vs=v::ws/\dt K σ H0 F H e r v/\eC K σ H0 F H e rs ws
def fE(K:⇑0)(f:FE):TE:=λσ H Q=>∃F e r e',bz K F H σ e/\f e=some (r,e')/\∀F' H' v,hV σ F H e F' H' e'->bz K F' H' σ e'->dt K σ H F' H' e' r v->Q v H'
def fT(K:⇑0)(f:FT):TT:=λσ H Q=>∃F e b e',bz K F H σ e/\f e=some (b,e')/\∀F' H',hV σ F H e F' H' e'->bz K F' H' σ e'->Q b H'
def fA(K:⇑0)(f:FA):TA:=λσ H Q=>∃F e rs e',bz K F H σ e/\f e=some (rs,e')/\∀F' H' vs,hV σ F H e F' H' e'->bz K F' H' σ e'->eC K σ H F' H' e' rs vs->Q vs H'
theorem PE.mono{X:Cx}{e:TU}{t t':TE}(h:PE X e t)(m:∀σ H Q,t' σ H Q->t σ H Q):PE X e t':=λpins s σ H Q I q=>h pins s σ H Q I (m σ H Q q)
theorem PT.mono{X:Cx}{e:TU}{t t':TT}(h:PT X e t)(m:∀σ H Q,t' σ H Q->t σ H Q):PT X e t':=λpins s σ H Q I q=>h pins s σ H Q I (m σ H Q q)
theorem PW.mono{X:Cx}{e:TU}{t t':TT}(h:PW X e t)(m:∀σ H Q,t' σ H Q->t σ H Q):PW X e t':=λwh pins s σ H Q I q=>h wh pins s σ H Q I (m σ H Q q)
theorem PA.mono{X:Cx}{es:List TU}{t t':TA}(h:PA X es t)(m:∀σ H Q,t' σ H Q->t σ H Q):PA X es t':=λpos pins s σ H Q I q=>h pos pins s σ H Q I (m σ H Q q)
section
variable{K:⇑0}{σ:L2.St}{H0 F H F' H':Hp}{e e':En}
theorem eC.weak{H1:Hp}(d:∀a,H1 a=none->H0 a=none):∀{rs:List Rv}{vs:List V},eC K σ H1 F H e rs vs->eC K σ H0 F H e rs vs|[],_,h=>h|r::rs,_,h=>by obtain⟨v,ws,rfl,h1,h2⟩:=h;exact⟨v,ws,rfl,h1.weak d,eC.weak d h2⟩
theorem hV.frz{F'':Hp}(x:hV σ F H e F' H' e')(s:aF F' F'')(h:∀a,F' a=none->H a≠none->F'' a=none):hV σ F H e F'' H' e':=⟨x.sf.trans s,x.dom,λa vs h1 h2 h3=>h a (x.fr a vs h1 h2 h3) (by rw[h2];simp),x.lst,x.tmp,x.shp,x.ow,λa m h1 h2 h3=>h a (x.fd a m h1 h2 h3) (by rw[h2];simp)⟩
def jx:List Rv->Option (List TN)|[]=>some []|.d x::rs=>(jx rs).map (x::·)|.l xs::rs=>(jx rs).map (.list xs::·)|.s _::_=>none
theorem eC.frozen:∀{rs:List Rv}{vs:List V}{ds:List TN}{F:Hp},bz K F H σ e->eC K σ H0 F H e rs vs->jx rs=some ds->∃F',bz K F' H σ e/\aF F F'/\aW K F' ds vs/\(∀a,F a=none->H0 a≠none->F' a=none)|[],_,_,F,R,h,q=>by cases q;have h':_=[]:=h;subst h';exact⟨F,R,aF.refl _,aW.nil,λ_ h _=>h⟩|.d x::rs,_,ds,F,R,h,q=>by obtain⟨v,ws,rfl,h1,h2⟩:=h;obtain⟨ds',q1,rfl⟩:=TB q;obtain⟨F',R',s',d',f'⟩:=eC.frozen R h2 q1;exact⟨F',R',s',.cons (DA.mono s' h1) d',f'⟩|.l xs::rs,_,ds,F,R,h,q=>by obtain⟨v,ws,rfl,h1,h2⟩:=h;obtain⟨ds',q1,rfl⟩:=TB q;obtain⟨F',R',s',d',f'⟩:=eC.frozen R h2 q1;obtain⟨l,us,rfl,g1,g2,g3,g4,g5⟩:=h1;cases hl:F' l with|none=>have h1':dt K σ H0 F' H e (.l xs) (.ref l):=⟨l,us,rfl,g1,hl,g3,aW.mono s' g4,g5⟩;obtain⟨F2,R2,s2,d2,f2⟩:=h1'.frozen R';exact⟨F2,R2,s'.trans s2,.cons d2 (aW.mono s2 d'),λa ha hn=>f2 a (f' a ha hn) hn⟩|some o=>have:=R'.sm _ _ hl;rw[g3]at this;cases this;exact⟨F',R',s',.cons (dD.mpr ⟨l,us,rfl,.inl (.inl hl),aW.mono s' g4⟩) d',f'⟩
end
section
variable{X:Cx}{K:⇑0}{a b c:TU}{fa fb:FE}{ft fu:FT}{pos:Pos}{es:List TU}{fs:FA}
def ac(i:Nat):FE:=λe=>match e[i]? with|some (some (.d x))=>some (.d x,e)|some (some (.l _))=>some (.s i,e)|_=>none
def vC(x:TN):FE:=λe=>some (.d x,e)
theorem Jr{i:Nat}{σ:L2.St}{H:Hp}{Q:VK}(h:fE K (ac i) σ H Q):Nn i σ H Q:=by obtain⟨F,e,r,e',R,hf,q⟩:=h;unfold ac at hf;match h1:e[i]?,hf with|some (some (.d x)),hf=>cases hf;obtain⟨v,h2,h3⟩:=R.dat i x h1;exact⟨v,h2,q F H v (hV.refl _ _ _ _) R h3⟩|some (some (.n _)),hf=>cases hf|some (some (.l xs)),hf=>cases hf;obtain⟨l,vs,h2,h3⟩:=R.own i xs h1;exact⟨_,h2,q F H _ (hV.refl _ _ _ _) R ⟨h2,xs,h1⟩⟩|some none,hf=>cases hf|none,hf=>cases hf
theorem qv(i:Nat){x:Str}{pos:Pos}(hN:X.N[i]?=some x)(hv:G6 X.env.scope x)(hd:(x==("__debug__":Str))=false)(hcd:(x==("__classdict__":Str))=false):PE X (.Name x pos) (fE K (ac i)):=(qM hN hv hd hcd).mono λ_ _ _ h=>Jr h
theorem GO{x:TN}{v:V}{σ:L2.St}{H:Hp}{Q:VK}(hx:∀F,DA K F x v)(h:fE K (vC x) σ H Q):tC v σ H Q:=by obtain⟨F,e,r,e',R,hf,q⟩:=h;cases hf;exact q F H v (hV.refl _ _ _ _) R (hx F)
theorem ae{i j pos}:PE X (.Constant (.int i) j pos) (fE K (vC (.int i))):=Fu.mono λ_ _ _ h=>GO (λ_=>bZ.mpr rfl) h
theorem dQ{b j pos}:PE X (.Constant (.bool b) j pos) (fE K (vC (.bool b))):=MQ.mono λ_ _ _ h=>GO (λ_=>gb.mpr rfl) h
theorem ed{x:Str}{v:V}{u:TL}{pos:Pos}{y:TN}(hg:Gl X x)(hm:X.mg x=some u)(r:bY v u)(hy:∀F,DA K F y v)(hd:(x==("__debug__":Str))=false):PE X (.Name x pos) (fE K (vC y)):=(Iq hg hm r hd).mono λ_ _ _ h=>GO hy h
def lR(K:⇑0)(r:R2)(g:En->Rv->Rv->Option Rv):Prop:=∀(σ:L2.St) (H0 F H:Hp) (e:En) (x y z:Rv) (v u:V) (Q:VK),bz K F H σ e->dt K σ H0 F H e x v->dt K σ H0 F H e y u->g e x y=some z->(∀F' H' w,hV σ F H e F' H' e->bz K F' H' σ e->dt K σ H F' H' e z w->Q w H')->r v u H Q
def ay(g:En->Rv->Rv->Option Rv)(fa fb:FE):FE:=λe=>(fa e).bind λp=>(fb p.2).bind λq=>(g q.2 p.1 q.1).map λz=>(z,q.2)
theorem yR{r:R2}{g:En->Rv->Rv->Option Rv}(ho:lR K r g){σ:L2.St}{H:Hp}{Q:VK}(h:fE K (ay g fa fb) σ H Q):Nj r (fE K fa) (fE K fb) σ H Q:=by obtain⟨F,e,z,e2,R,hf,q⟩:=h;unfold ay at hf;obtain⟨⟨x,e1⟩,h1,hf⟩:=Tz hf;obtain⟨⟨y,e2'⟩,h2,hf⟩:=Tz hf;obtain⟨z',h3,hf⟩:=TB hf;cases hf;refine⟨F,e,x,e1,R,h1,λF1 H1 v X1 R1 A1=>⟨F1,e1,y,_,R1,h2,λF2 H2 u X2 R2 A2=>?_⟩⟩;have X12:=X1.trans X2;refine ho σ H F2 H2 _ x y _ v u Q R2 (A1.ext X2) (A2.weak X1.dom) h3 λF3 H3 w X3 R3 A3=>?_;exact q F3 H3 w (X12.trans X3) R3 (A3.weak X12.dom)
theorem wW{op:Operator}{r:R2}{g:En->Rv->Rv->Option Rv}(hr:lS X (Vg op) r)(ho:lR K r g)(ha:PE X a (fE K fa))(hb:PE X b (fE K fb)):PE X (.BinOp a op b pos) (fE K (ay g fa fb)):=(JX hr ha hb).mono λ_ _ _ h=>yR ho h
theorem Lw{op:CmpOp}{r:R2}{g:En->Rv->Rv->Option Rv}(hr:lS X (VC op) r)(ho:lR K r g)(ha:PE X a (fE K fa))(hb:PE X b (fE K fb))(hm:WD op b=false):PE X (.Compare a [op] [b] pos) (fE K (ay g fa fb)):=(Ip hr ha hb hm).mono λ_ _ _ h=>yR ho h
theorem MW{r:R2}{g:En->Rv->Rv->Option Rv}(hr:G3 X r)(ho:lR K r g)(ha:PE X a (fE K fa))(hb:PE X b (fE K fb))(hs:sI b):PE X (.Subscript a b pos) (fE K (ay g fa fb)):=(JW hr ha hb hs).mono λ_ _ _ h=>yR ho h
def si(g:En->Rv->Option Rv)(fa:FE):FE:=λe=>(fa e).bind λp=>(g p.2 p.1).map λz=>(z,p.2)
def Mf(K:⇑0)(r:V->Hp->VK->Prop)(g:En->Rv->Option Rv):Prop:=∀(σ:L2.St) (H0 F H:Hp) (e:En) (x z:Rv) (v:V) (Q:VK),bz K F H σ e->dt K σ H0 F H e x v->g e x=some z->(∀F' H' w,hV σ F H e F' H' e->bz K F' H' σ e->dt K σ H F' H' e z w->Q w H')->r v H Q
theorem GU{r:V->Hp->VK->Prop}{g:En->Rv->Option Rv}(ho:Mf K r g){σ:L2.St}{H:Hp}{Q:VK}(h:fE K (si g fa) σ H Q):OH r (fE K fa) σ H Q:=by obtain⟨F,e,z,e2,R,hf,q⟩:=h;unfold si at hf;obtain⟨⟨x,e1⟩,h1,hf⟩:=Tz hf;obtain⟨z',h3,hf⟩:=TB hf;cases hf;refine⟨F,e,x,_,R,h1,λF1 H1 v X1 R1 A1=>?_⟩;refine ho σ H F1 H1 _ x _ v Q R1 A1 h3 λF3 H3 w X3 R3 A3=>?_;exact q F3 H3 w (X1.trans X3) R3 (A3.weak X1.dom)
theorem MX{op:UnaryOp}{r:V->Hp->VK->Prop}{g:En->Rv->Option Rv}(hr:NC X (unaryOp op) r)(ho:Mf K r g)(ha:PE X a (fE K fa)):PE X (.UnaryOp op a pos) (fE K (si g fa)):=(MR hr ha).mono λ_ _ _ h=>GU ho h
def cW:Rv->Option Bool|.d (.bool b)=>some b|_=>none
theorem kQ{σ:L2.St}{H0 F H:Hp}{e:En}{r:Rv}{v:V}{b:Bool}(h:dt K σ H0 F H e r v)(q:cW r=some b):v=.bl b:=by
 unfold cW at q;split at q;·cases q;exact gb.mp (show DA K F (.bool _) v from h)
 ·cases q
theorem jg{σ:L2.St}{H0 F H:Hp}{e:En}{b:Bool}:dt K σ H0 F H e (.d (.bool b)) (.bl b):=(gb (K:=K) (F:=F)).mpr rfl
def aI(f:FE):FT:=λe=>(f e).bind λp=>(cW p.1).map λb=>(b,p.2)
theorem AD{σ:L2.St}{H:Hp}{Q:Bool->Hp->Prop}(h:fT K (aI fa) σ H Q):fE K fa σ H λx H'=>∃k,x=.bl k/\Q k H':=by obtain⟨F,e,b,e1,R,hf,q⟩:=h;unfold aI at hf;obtain⟨⟨x,e1'⟩,h1,hf⟩:=Tz hf;obtain⟨b',h3,hf⟩:=TB hf;cases hf;exact⟨F,e,x,_,R,h1,λF1 H1 v X1 R1 A1=>⟨_,kQ A1 h3,q F1 H1 X1 R1⟩⟩
theorem LB{op:CmpOp}{r:R2}{g:En->Rv->Rv->Option Rv}(hr:lS X (VC op) r)(ho:lR K r g)(ha:PE X a (fE K fa))(hb:PE X b (fE K fb))(hm:WD op b=false):PT X (.Compare a [op] [b] pos) (fT K (aI (ay g fa fb))):=(II hr ha hb hm).mono λσ H Q h=>by obtain⟨F,e,z,e2,R,hf,q⟩:=AD h;exact yR ho ⟨F,e,z,e2,R,hf,q⟩
theorem gJ{e:TU}(h:PE X e (fE K fa))(he:∀whole,isTrue e X.env whole=(do let v<-whole;Wh e.pos;VR [v] (truthy v))):PT X e (fT K (aI fa)):=(Lr h he).mono λ_ _ _ h=>AD h
def l7(f g:FT):FT:=λe=>(f e).bind λp=>if p.1=true then g p.2 else some (false,p.2)
def yS(f g:FT):FT:=λe=>(f e).bind λp=>if p.1=true then some (true,p.2) else g p.2
def l8(f:FT):FT:=λe=>(f e).map λp=>(!p.1,p.2)
theorem Jo{σ:L2.St}{H:Hp}{Q:Bool->Hp->Prop}(h:fT K (l7 ft fu) σ H Q):Na (fT K ft) (fT K fu) σ H Q:=by obtain⟨F,e,b,e1,R,hf,q⟩:=h;unfold l7 at hf;obtain⟨⟨x,e1'⟩,h1,hf⟩:=Tz hf;refine⟨F,e,x,e1',R,h1,λF1 H1 X1 R1=>?_⟩;cases x with|true=>exact⟨F1,e1',b,e1,R1,hf,λF2 H2 X2 R2=>q F2 H2 (X1.trans X2) R2⟩|false=>cases hf;exact q F1 H1 X1 R1
theorem L5{σ:L2.St}{H:Hp}{Q:Bool->Hp->Prop}(h:fT K (yS ft fu) σ H Q):OG (fT K ft) (fT K fu) σ H Q:=by obtain⟨F,e,b,e1,R,hf,q⟩:=h;unfold yS at hf;obtain⟨⟨x,e1'⟩,h1,hf⟩:=Tz hf;refine⟨F,e,x,e1',R,h1,λF1 H1 X1 R1=>?_⟩;cases x with|false=>exact⟨F1,e1',b,e1,R1,hf,λF2 H2 X2 R2=>q F2 H2 (X1.trans X2) R2⟩|true=>cases hf;exact q F1 H1 X1 R1
theorem Jq{σ:L2.St}{H:Hp}{Q:Bool->Hp->Prop}(h:fT K (l8 ft) σ H Q):Nh (fT K ft) σ H Q:=by obtain⟨F,e,b,e1,R,hf,q⟩:=h;unfold l8 at hf;obtain⟨⟨x,e1'⟩,h1,hf⟩:=TB hf;cases hf;exact⟨F,e,x,_,R,h1,λF1 H1 X1 R1=>q F1 H1 X1 R1⟩
variable{iL:List TU}
theorem sX(ha:PT X a (fT K ft)):PW X (.BoolOp .And [a] pos) (fT K ft):=IL ha
theorem qP(ha:PT X a (fT K ft)):PW X (.BoolOp .Or [a] pos) (fT K ft):=Lu ha
theorem uw(ha:PT X a (fT K ft))(hb:PW X (.BoolOp .And (b::iL) pos) (fT K fu)):PW X (.BoolOp .And (a::b::iL) pos) (fT K (l7 ft fu)):=(Ls ha hb).mono λ_ _ _ h=>Jo h
theorem uA(ha:PT X a (fT K ft))(hb:PW X (.BoolOp .Or (b::iL) pos) (fT K fu)):PW X (.BoolOp .Or (a::b::iL) pos) (fT K (yS ft fu)):=(MV ha hb).mono λ_ _ _ h=>L5 h
theorem oO(ha:PT X a (fT K ft)):PT X (.UnaryOp .Not a pos) (fT K (l8 ft)):=(Lq ha).mono λ_ _ _ h=>Jq h
theorem vM{e:TU}(h:PW X e (fT K ft)):PT X e (fT K ft):=h.pt
def iU(f g:FE):FE:=λe=>(f e).bind λp=>(cW p.1).bind λb=>if b=true then g p.2 else some (.d (.bool false),p.2)
def AC(f g:FE):FE:=λe=>(f e).bind λp=>(cW p.1).bind λb=>if b=true then some (.d (.bool true),p.2) else g p.2
def jQ(f:FE):FE:=λe=>(f e).bind λp=>(cW p.1).map λb=>(.d (.bool (!b)),p.2)
theorem yz(ha:PE X a (fE K fa))(hb:PE X (.BoolOp .And (b::iL) pos) (fE K fb)):PE X (.BoolOp .And (a::b::iL) pos) (fE K (iU fa fb)):=(Lg ha hb).mono λσ H Q h=>by obtain⟨F,e,z,e2,R,hf,q⟩:=h;unfold iU at hf;obtain⟨⟨x,e1⟩,h1,hf⟩:=Tz hf;obtain⟨b,h2,hf⟩:=Tz hf;refine⟨F,e,x,e1,R,h1,λF1 H1 v X1 R1 A1=>⟨b,kQ A1 h2,?_⟩⟩;cases b with|true=>exact⟨F1,e1,z,e2,R1,hf,λF2 H2 w X2 R2 A2=>q F2 H2 w (X1.trans X2) R2 (A2.weak X1.dom)⟩|false=>cases hf;exact q F1 H1 _ X1 R1 jg
theorem yA{op}(h:PE X a (fE K fa)):PE X (.BoolOp op [a] pos) (fE K fa):=Li h
theorem FV(ha:PE X a (fE K fa)):PE X (.UnaryOp .Not a pos) (fE K (jQ fa)):=(Lh ha).mono λσ H Q h=>by obtain⟨F,e,z,e2,R,hf,q⟩:=h;unfold jQ at hf;obtain⟨⟨x,e1⟩,h1,hf⟩:=Tz hf;obtain⟨b,h2,hf⟩:=TB hf;cases hf;exact⟨F,e,x,_,R,h1,λF1 H1 v X1 R1 A1=>⟨b,kQ A1 h2,q F1 H1 _ X1 R1 jg⟩⟩
def vU(t:FT)(f g:FE):FE:=λe=>(t e).bind λp=>if p.1=true then f p.2 else g p.2
theorem mL{c:TU}(hc:PT X c (fT K ft))(ha:PE X a (fE K fa))(hb:PE X b (fE K fb)):PE X (.IfExp c a b pos) (fE K (vU ft fa fb)):=(Ft hc ha hb).mono λσ H Q h=>by obtain⟨F,e,z,e2,R,hf,q⟩:=h;unfold vU at hf;obtain⟨⟨x,e1⟩,h1,hf⟩:=Tz hf;refine⟨F,e,x,e1,R,h1,λF1 H1 X1 R1=>?_⟩;cases x with|true=>exact⟨F1,e1,z,e2,R1,hf,λF2 H2 w X2 R2 A2=>q F2 H2 w (X1.trans X2) R2 (A2.weak X1.dom)⟩|false=>exact⟨F1,e1,z,e2,R1,hf,λF2 H2 w X2 R2 A2=>q F2 H2 w (X1.trans X2) R2 (A2.weak X1.dom)⟩
def ah:FA:=λe=>some ([],e)
def aa(fa:FE)(fs:FA):FA:=λe=>(fa e).bind λp=>(fs p.2).map λq=>(p.1::q.1,q.2)
theorem ab:PA X [] (fA K ah):=qL.mono λσ H Q h=>by obtain⟨F,e,r,e',R,hf,q⟩:=h;cases hf;exact q F H [] (hV.refl _ _ _ _) R rfl
theorem Of(ha:PE X a (fE K fa))(hr:PA X es (fA K fs))(h:Xl a=false):PA X (a::es) (fA K (aa fa fs)):=(Im ha hr h).mono λσ H Q h=>by obtain⟨F,e,z,e2,R,hf,q⟩:=h;unfold aa at hf;obtain⟨⟨x,e1⟩,h1,hf⟩:=Tz hf;obtain⟨⟨xs,e2'⟩,h2,hf⟩:=TB hf;cases hf;refine⟨F,e,x,e1,R,h1,λF1 H1 v X1 R1 A1=>⟨F1,e1,xs,_,R1,h2,λF2 H2 vs X2 R2 A2=>?_⟩⟩;exact q F2 H2 (v::vs) (X1.trans X2) R2 ⟨v,vs,rfl,A1.ext X2,A2.weak X1.dom⟩
def bH(fs:FA):FE:=λe=>(fs e).bind λp=>(jx p.1).bind λds=>if ds.length<=1000 then some (.d (.tuple ds),p.2) else none
def dq(fs:FA):FE:=λe=>(fs e).bind λp=>(jx p.1).bind λds=>if ds.length<=1000 then some (.l ds,p.2) else none
theorem aU{x1}(h:PA X es (fA K fs)):PE X (.Tuple es x1 pos) (fE K (bH fs)):=(Lj h).mono λσ H Q h=>by
 obtain⟨F,e,z,e2,R,hf,q⟩:=h;unfold bH at hf;obtain⟨⟨rs,e1⟩,h1,hf⟩:=Tz hf;obtain⟨ds,h2,hf⟩:=Tz hf;split at hf;case isFalse=>cases hf
 case isTrue hl=>cases hf;refine⟨F,e,rs,_,R,h1,λF1 H1 vs X1 R1 A1=>?_⟩;obtain⟨F2,R2,s2,d2,f2⟩:=eC.frozen R1 A1 h2;have hlen:=d2.len;refine⟨WK (xg ↥0),λp hp=>?_⟩;obtain⟨R3,X3⟩:=R2.newT (vs:=vs) hp;exact q _ _ _ ((X1.frz s2 f2).trans X3) R3 (dk.mpr ⟨p,vs,rfl,.inl (.inl aH),aW.mono X3.sf d2⟩)
theorem bS(h:PA X es (fA K fs)):PE X (.List es pos) (fE K (dq fs)):=(Fv h).mono λσ H Q h=>by
 obtain⟨F,e,z,e2,R,hf,q⟩:=h;unfold dq at hf;obtain⟨⟨rs,e1⟩,h1,hf⟩:=Tz hf;obtain⟨ds,h2,hf⟩:=Tz hf;split at hf;case isFalse=>cases hf
 case isTrue hl=>cases hf;refine⟨F,e,rs,_,R,h1,λF1 H1 vs X1 R1 A1=>?_⟩;obtain⟨F2,R2,s2,d2,f2⟩:=eC.frozen R1 A1 h2;have hlen:=d2.len;refine⟨WK (xg ↥0),λp hp=>?_⟩;obtain⟨R3,X3,hF,no⟩:=R2.newL (vs:=vs) hp;exact q _ _ _ ((X1.frz s2 f2).trans X3) R3 ⟨p,vs,rfl,X1.dom p hp,hF,aH,d2,no⟩
def gX(K:⇑0)(r:List V->Hp->VK->Prop)(g:En->List Rv->Option Rv):Prop:=∀(σ:L2.St) (H0 F H:Hp) (e:En) (xs:List Rv) (z:Rv) (vs:List V) (Q:VK),bz K F H σ e->eC K σ H0 F H e xs vs->g e xs=some z->(∀F' H' w,hV σ F H e F' H' e->bz K F' H' σ e->dt K σ H F' H' e z w->Q w H')->r vs H Q
def aL(g:En->List Rv->Option Rv)(fs:FA):FE:=λe=>(fs e).bind λp=>(g p.2 p.1).map λz=>(z,p.2)
theorem Az{r:List V->Hp->VK->Prop}{g:En->List Rv->Option Rv}(ho:gX K r g){σ:L2.St}{H:Hp}{Q:VK}(h:fE K (aL g fs) σ H Q):Ol r (fA K fs) σ H Q:=by obtain⟨F,e,z,e2,R,hf,q⟩:=h;unfold aL at hf;obtain⟨⟨x,e1⟩,h1,hf⟩:=Tz hf;obtain⟨z',h3,hf⟩:=TB hf;cases hf;refine⟨F,e,x,_,R,h1,λF1 H1 vs X1 R1 A1=>?_⟩;refine ho σ H F1 H1 _ x _ vs Q R1 A1 h3 λF3 H3 w X3 R3 A3=>?_;exact q F3 H3 w (X1.trans X3) R3 (A3.weak X1.dom)
theorem FU{x:Str}{p pos:Pos}{id:String}{r:List V->Hp->VK->Prop}{g:En->List Rv->Option Rv}(hc:fR X (.builtin id) r)(ho:gX K r g)(hg:Gl X x)(hm:X.mg x=none)(hv:Vu x=some (.builtin id))(ha:PA X (a::es) (fA K fs))(hn:x≠"__name__")(hdb:(x==("__debug__":Str))=false)(he:Ue (a::es) X.env=(false,Ui a X.env)::Ue es X.env)(hpl:(UD pos (Ue es X.env)).any (·.1)=false):PE X (.Call (.Name x p) (a::es) [] pos) (fE K (aL g fs)):=(uu hc hg hm hv ha hn hdb he hpl).mono λ_ _ _ h=>Az ho h
theorem Ds{x:Str}{p pos:Pos}{T:String}{r:List V->Hp->VK->Prop}{g:En->List Rv->Option Rv}(hc:fR X (.type T) r)(ho:gX K r g)(hg:Gl X x)(hm:X.mg x=none)(hv:Vu x=some (.type T))(ha:PA X (a::es) (fA K fs))(hn:x≠"__name__")(hdb:(x==("__debug__":Str))=false)(he:Ue (a::es) X.env=(false,Ui a X.env)::Ue es X.env)(hpl:(UD pos (Ue es X.env)).any (·.1)=false):PE X (.Call (.Name x p) (a::es) [] pos) (fE K (aL g fs)):=(Do hc hg hm hv ha hn hdb he hpl).mono λ_ _ _ h=>Az ho h
end
mutual
theorem DA.reads{X:Cx}{pins:List (TM×Obj)}{σ:L2.St}{H:Hp}{s:TQ}(I:aM X pins σ H s):∀{d:TN}{v:V}{u:TL},d.canLay0=true->DA X.K H d v->bY v u->∃as,Reads s.heap u d as|.none,_,_,_,q,r=>by simp only[DA]at q;subst q;cases r;exact⟨_,.none⟩|.bool b,_,_,_,q,r=>by simp only[DA]at q;subst q;cases r;exact⟨_,.bool b⟩|.int i,_,_,_,q,r=>by simp only[DA]at q;subst q;obtain⟨t,rfl⟩:=r;exact⟨_,.int i t⟩|.str x,_,_,_,q,r=>by simp only[DA]at q;subst q;obtain⟨t,rfl⟩:=r;exact⟨_,.str x t⟩|.tuple ds,_,_,c,q,r=>by simp only[DA]at q;obtain⟨a,xs,e,hs,rr⟩:=q;subst e;cases r;obtain⟨its,rv,⟨o,ho,hc,n,hd⟩,hz⟩:=I.tuple hs;obtain⟨as,q⟩:=aW.reads I (by simpa[Vi]using c) rr rv;exact⟨_,.tuple ho hc hd q⟩|.list ds,_,_,c,q,r=>by simp only[DA]at q;obtain⟨a,xs,e,hs,rr⟩:=q;subst e;cases r;obtain⟨its,rv,ht,hz⟩:=I.list hs;obtain⟨o,ho,hc,n,hd⟩:=ht.isList;obtain⟨as,q⟩:=aW.reads I (by simpa[Vi]using c) rr rv;exact⟨_,.list ho hc hd q⟩|.dict _,_,_,c,_,_=>by simp[Vi]at c
theorem aW.reads{X:Cx}{pins:List (TM×Obj)}{σ:L2.St}{H:Hp}{s:TQ}(I:aM X pins σ H s):∀{ds:List TN}{xs:List V}{us:List TL},Vy ds=true->aW X.K H ds xs->bc xs us->∃as,ReadsAll s.heap us ds as|[],_,_,_,q,r=>by simp only[aW]at q;subst q;cases r;exact⟨_,.nil⟩|d::ds,_,_,c,q,r=>by simp only[aW]at q;simp only[Vy,Uw]at c;obtain⟨x,rr,e,a,b⟩:=q;subst e;cases r with|cons p p'=>obtain⟨as,q1⟩:=DA.reads I c.1 a p;obtain⟨bs,q2⟩:=aW.reads I c.2 b p';exact⟨_,.cons q1 q2⟩
end
def kW(e:En):Rv->Option TN|.d x=>some x|.l xs=>some (.list xs)|.s i=>match e[i]? with|some (some (.l xs))=>some (.list xs)|_=>none
theorem pv{K:⇑0}{σ:L2.St}{H0 F H:Hp}{e:En}{r:Rv}{v:V}{d:TN}(R:bz K F H σ e)(h:dt K σ H0 F H e r v)(q:kW e r=some d):DA K H d v:=by cases r with|d x=>cases q;exact DA.mono R.sm h|l xs=>cases q;obtain⟨l,vs,rfl,h1,h2,h3,h4,_⟩:=h;exact dD.mpr ⟨l,vs,rfl,.inl (.inl h3),aW.mono R.sm h4⟩|s i=>obtain⟨h1,ys,h2⟩:=h;simp only[kW,h2]at q;cases q;obtain⟨l,vs,e1,e2,e3,e4⟩:=R.own i _ h2;rw[h1]at e1;cases e1;exact dD.mpr ⟨l,vs,rfl,.inl (.inl e3),aW.mono R.sm e4⟩
section
variable{X:Cx}{K:⇑0}
def bU:Rv->Option Int|.d (.int i)=>some i|_=>none
theorem cN{σ:L2.St}{H0 F H:Hp}{e:En}{r:Rv}{v:V}{i:Int}(h:dt K σ H0 F H e r v)(q:bU r=some i):v=.int i:=by
 unfold bU at q;split at q;·cases q;exact bZ.mp (show DA K F (.int _) v from h)
 ·cases q
theorem qT{σ:L2.St}{H0 F H:Hp}{e:En}{i:Int}:dt K σ H0 F H e (.d (.int i)) (.int i):=(bZ (K:=K) (F:=F)).mpr rfl
def gI(C:Int->Int->Bool)(f:Int->Int->TN):En->Rv->Rv->Option Rv:=λ_ x y=>(bU x).bind λi=>(bU y).bind λj=>if C i j=true then some (.d (f i j)) else none
theorem zW{C:Int->Int->Prop}{c:Int->Int->Bool}{g:Int->Int->V}{f:Int->Int->TN}(hc:∀i j,c i j=true->C i j)(hf:∀F i j,DA K F (f i j) (g i j)):lR K (rI C g) (gI c f):=by
 intro σ H0 F H e x y z v u Q R A B hg q;unfold gI at hg;obtain⟨i,h1,hg⟩:=Tz hg;obtain⟨j,h2,hg⟩:=Tz hg;split at hg;case isFalse=>cases hg
 case isTrue hh=>cases hg;exact⟨i,j,cN A h1,cN B h2,hc i j hh,q F H _ (hV.refl _ _ _ _) R (hf F i j)⟩
theorem oI{g:Int->Int->V}{f:Int->Int->TN}(hf:∀F i j,DA K F (f i j) (g i j)):lR K (Dt g) (gI (λ_ _=>true) f):=by intro σ H0 F H e x y z v u Q R A B hg q;obtain⟨i,j,h1,h2,h3,h4⟩:=zW (K:=K) (C:=λ_ _=>True) (c:=λ_ _=>true) (g:=g) (f:=f) (λ_ _ _=>trivial) hf σ H0 F H e x y z v u Q R A B hg q;exact⟨i,j,h1,h2,h4⟩
def DU(g g':En->Rv->Rv->Option Rv):En->Rv->Rv->Option Rv:=λe x y=>(g e x y).or (g' e x y)
theorem lR.or{r r':R2}{g g':En->Rv->Rv->Option Rv}(h:lR K r g)(h':lR K r' g'):lR K (λx y H Q=>r x y H Q\/r' x y H Q) (DU g g'):=by intro σ H0 F H e x y z v u Q R A B hg q;unfold DU at hg;cases e1:g e x y with|some w=>rw[e1]at hg;cases hg;exact .inl (h σ H0 F H e x y _ v u Q R A B e1 q)|none=>rw[e1]at hg;exact .inr (h' σ H0 F H e x y _ v u Q R A B hg q)
def ED:=gI (λ_ _=>true) λi j=>.int (i+j)
def my:=gI (λ_ _=>true) λi j=>.int (i-j)
def lO(i:Int):Bool:=decide (-(2^64)<i)&&decide (i<2^64)
def Mj(n:Nat)(i:Int):Bool:=decide (i.natAbs<2^n)
theorem lA{n:Nat}{i:Int}:Mj n i=true↔Bt n i:=by unfold Mj Bt;exact decide_eq_true_iff
def oF(i j:Int):Bool:=lO i||lO j||(Mj 4000 i&&Mj 4000 j)
def tU:=gI oF λi j=>.int (i*j)
def gY:=gI (λ_ j=>j !=0&&Mj 8000 j) λi j=>.int (i.fdiv j)
def bx:=gI (λ_ j=>j !=0) λi j=>.int (i.fmod j)
def FJ(i j:Int):Bool:=decide (0<=j)&&decide (j<=1000000)&&lO i
def A0:=gI FJ λi j=>.int (i^j.toNat)
theorem oQ{i:Int}(h:lO i=true):-(2^64)<i/\i<2^64:=by unfold lO at h;rw[Uw,decide_eq_true_iff,decide_eq_true_iff]at h;exact h
theorem IE{i j:Int}(h:FJ i j=true):Kd i j:=by unfold FJ at h;rw[Uw,Uw,decide_eq_true_iff,decide_eq_true_iff]at h;have:=oQ h.2;exact⟨h.1.1,h.1.2,by lia⟩
def BG(i j:Int):Prop:=G_ i j\/Jx i j
theorem Ii:lS X (Vg .Mult) (rI BG λi j=>.int (i*j)):=by
 intro pins s σ H x y v u Q I rx ry h;obtain⟨i,j,e1,e2,h1,q⟩:=h;rcases h1 with h1|h1;·exact La pins s σ H x y v u Q I rx ry ⟨i,j,e1,e2,h1,q⟩
 ·exact Ij pins s σ H x y v u Q I rx ry ⟨i,j,e1,e2,h1,q⟩
theorem HS{i j:Int}(h:oF i j=true):BG i j:=by
 unfold oF at h;rw[Bool.or_eq_true,Bool.or_eq_true,Uw]at h;rcases h with (h|h)|h;·exact .inl (.inl (oQ h))
 ·exact .inl (.inr (oQ h))
 ·exact .inr ⟨lA.mp h.1,lA.mp h.2⟩
theorem KZ:lR K (rI BG λi j=>.int (i*j)) tU:=zW (λ_ _ h=>HS h) λ_ _ _=>bZ.mpr rfl
theorem M8:lR K (Dt λi j=>.int (i-j)) my:=oI λ_ _ _=>bZ.mpr rfl
theorem Ks:lR K (rI Jw λi j=>.int (i.fdiv j)) gY:=zW (λi j h=>by rw[Uw]at h;exact⟨by simpa using h.1,lA.mp h.2⟩) λ_ _ _=>bZ.mpr rfl
theorem MH:lR K (rI (λ_ j=>j≠0) λi j=>.int (i.fmod j)) bx:=zW (λi j h=>by simpa using h) λ_ _ _=>bZ.mpr rfl
theorem MS:lR K (rI Kd λi j=>.int (i^j.toNat)) A0:=zW (λ_ _ h=>IE h) λ_ _ _=>bZ.mpr rfl
def zt:En->Rv->Rv->Option Rv:=λe x y=>match iS e x,iS e y with|some (false,xs),some (false,ys)=>if xs.length+ys.length<=1000000 then some (.d (.tuple (xs++ys))) else none|_,_=>none
theorem Kq:lR K (FY K) zt:=by intro σ H0 F H e x y z v u Q R A B hg q;unfold zt at hg;match h1:iS e x,h2:iS e y,hg with
 |some (false,xs),some (false,ys),hg=>
  obtain⟨p,vs,rfl,d1,s1⟩:=iq R A h1;obtain⟨p',us,rfl,d2,s2⟩:=iq R B h2;dsimp only at hg;split at hg;case isFalse=>cases hg
  case isTrue hl=>cases hg;have l1:=d1.len;have l2:=d2.len;have sl:Uj=16777216:=VD;refine⟨p,p',vs,us,rfl,rfl,s1,s2,by lia,λt H' sm hT=>?_⟩;obtain⟨F',R',X',hF⟩:=R.growT sm hT;exact q F' H' _ X' R' (dk.mpr ⟨t,_,rfl,hF,(d1.append d2).mono X'.sf⟩)
def Bc(e:En):Rv->Option (List TN)
 |.l xs=>some xs|.s i=>match e[i]? with|some (some (.l xs))=>some xs|_=>none
 |_=>none
theorem yi{σ:L2.St}{H0 F H:Hp}{e:En}{r:Rv}{v:V}(R:bz K F H σ e)(h:dt K σ H0 F H e r v){xs:List TN}(q:Bc e r=some xs):∃p vs,v=.ref p/\F p=none/\H p=some (.lst vs)/\aW K F xs vs:=by cases r with|d x=>cases q|l ys=>cases q;obtain⟨l,vs,e1,h1,h2,h3,h4,_⟩:=h;exact⟨l,vs,e1,h2,h3,h4⟩|s i=>obtain⟨h1,ys,h2⟩:=h;simp only[Bc,h2]at q;cases q;obtain⟨l,vs,e1,e2,e3,e4⟩:=R.own i _ h2;rw[h1]at e1;cases e1;exact⟨l,vs,rfl,e2,e3,e4⟩
def BX:En->Rv->Rv->Option Rv:=λe x y=>(Bc e x).bind λxs=>(Bc e y).bind λys=>if xs.length+ys.length<=1000000 then some (.l (xs++ys)) else none
theorem Kp:lR K LC BX:=by
 intro σ H0 F H e x y z v u Q R A B hg q;unfold BX at hg;obtain⟨xs,h1,hg⟩:=Tz hg;obtain⟨ys,h2,hg⟩:=Tz hg;split at hg;case isFalse=>cases hg
 case isTrue hl=>cases hg;obtain⟨p,vs,rfl,f1,s1,d1⟩:=yi R A h1;obtain⟨p',us,rfl,f2,s2,d2⟩:=yi R B h2;have l1:=d1.len;have l2:=d2.len;have sl:Uj=16777216:=VD;refine⟨p,p',vs,us,rfl,rfl,s1,s2,by lia,λt ht=>?_⟩;obtain⟨R3,X3,hF,no⟩:=R.newL (vs:=vs++us) ht;exact q _ _ _ X3 R3 ⟨t,_,rfl,ht,hF,aH,d1.append d2,no⟩
def cy:En->Rv->Rv->Option Rv:=DU ED (DU zt BX)
def J1(K:⇑0):R2:=λx y H Q=>Dt (λi j=>.int (i+j)) x y H Q\/(FY K x y H Q\/LC x y H Q)
theorem Ib:lS X (Vg .Add) (J1 X.K):=Fj.or (Ic.or K9)
theorem Mh:lR K (J1 K) cy:=lR.or (oI λ_ _ _=>bZ.mpr rfl) (lR.or Kq Kp)
def tV:En->Rv->Rv->Option Rv:=λe x y=>match iS e x,bU y with|some (false,[d]),some k=>if 0<=k/\k<=100000 then some (.d (.tuple (Ug k.toNat d))) else none|_,_=>none
theorem aW.rep{F:Hp}{d:TN}{v:V}(h:DA K F d v):∀n,aW K F (Ug n d) (Ug n v)|0=>aW.nil|n+1=>aW.cons h (aW.rep h n)
theorem LI:lR K (F8 K) tV:=by intro σ H0 F H e x y z v u Q R A B hg q;unfold tV at hg;match h1:iS e x,h2:bU y,hg with
 |some (false,[d]),some k,hg=>
  obtain⟨p,vs,rfl,d1,s1⟩:=iq R A h1;dsimp only at hg;split at hg;case isFalse=>cases hg
  case isTrue hl=>cases hg;have hd:=d1;simp only[aW]at hd;obtain⟨w,r,e1,hw,e2⟩:=hd;subst e2 e1;refine⟨p,k,w,rfl,cN B h2,s1,hl.1,hl.2,λt H' sm hT=>?_⟩;obtain⟨F',R',X',hF⟩:=R.growT sm hT;exact q F' H' _ X' R' (dk.mpr ⟨t,_,rfl,hF,(aW.rep hw _).mono X'.sf⟩)
def zx:En->Rv->Rv->Option Rv:=λe x y=>(Bc e x).bind λxs=>(bU y).bind λk=>if-100000<=k/\k<=100000/\xs.length*k.toNat<=1000000 then some (.l (Ug k.toNat xs).flatten) else none
theorem aW.reps{F:Hp}{ds:List TN}{vs:List V}(h:aW K F ds vs):∀n,aW K F (Ug n ds).flatten (Ug n vs).flatten|0=>aW.nil|n+1=>by simpa[Wm]using aW.append h (aW.reps h n)
theorem LH:lR K LG zx:=by
 intro σ H0 F H e x y z v u Q R A B hg q;unfold zx at hg;obtain⟨xs,h1,hg⟩:=Tz hg;obtain⟨k,h2,hg⟩:=Tz hg;split at hg;case isFalse=>cases hg
 case isTrue hl=>cases hg;obtain⟨p,vs,rfl,f1,s1,d1⟩:=yi R A h1;have l1:=d1.len;have sl:Uj=16777216:=VD;refine⟨p,k,vs,rfl,cN B h2,s1,by lia,by lia,by rw[<-l1];lia,λt ht=>?_⟩;obtain⟨R3,X3,hF,no⟩:=R.newL (vs:=(Ug k.toNat vs).flatten) ht;exact q _ _ _ X3 R3 ⟨t,_,rfl,ht,hF,aH,aW.reps d1 _,no⟩
def cL:En->Rv->Rv->Option Rv:=DU tU (DU tV zx)
def J3(K:⇑0):R2:=λx y H Q=>rI BG (λi j=>.int (i*j)) x y H Q\/(F8 K x y H Q\/LG x y H Q)
theorem Ih:lS X (Vg .Mult) (J3 X.K):=Ii.or (Il.or Ld)
theorem MI:lR K (J3 K) cL:=lR.or KZ (lR.or LI LH)
def DT:=gI (λ_ _=>true) λi j=>.bool (decide (i<j))
def OT:=gI (λ_ _=>true) λi j=>.bool (decide (i<=j))
def Ht:=gI (λ_ _=>true) λi j=>.bool (decide (j<i))
def G7:=gI (λ_ _=>true) λi j=>.bool (decide (j<=i))
theorem Oc:lR K (Dt λi j=>.bl (decide (i<j))) DT:=oI λ_ _ _=>gb.mpr rfl
theorem N5:lR K (Dt λi j=>.bl (decide (j<i))) Ht:=oI λ_ _ _=>gb.mpr rfl
theorem N4:lR K (Dt λi j=>.bl (decide (j<=i))) G7:=oI λ_ _ _=>gb.mpr rfl
def LD(K:⇑0)(neg:Bool):R2:=λx y H Q=>∃a b,DA K H a x/\DA K H b y/\Vj a=true/\Vj b=true/\Q (.bl (if neg then !PyData.eqv a b else Vk a b)) H
theorem K_{k:Nat}(hr:eB k X.A):lS X (VC .Eq) (LD X.K false):=by intro pins s σ H x y v u Q I rx ry h;obtain⟨a,b,ha,hb,s1,s2,q⟩:=h;obtain⟨as,ra⟩:=DA.reads I (Yp s1) ha rx;obtain⟨bs,rb⟩:=DA.reads I (Yp s2) hb ry;exact SeqAt.compareEq_shaped ra rb s1 s2 hr.units ⟨.bl _,H,I,rfl,q⟩
theorem Lb{k:Nat}(hr:eB k X.A):lS X (VC .NotEq) (LD X.K true):=by intro pins s σ H x y v u Q I rx ry h;obtain⟨a,b,ha,hb,s1,s2,q⟩:=h;obtain⟨as,ra⟩:=DA.reads I (Yp s1) ha rx;obtain⟨bs,rb⟩:=DA.reads I (Yp s2) hb ry;exact SeqAt.compareNe_shaped ra rb s1 s2 hr.units ⟨.bl _,H,I,rfl,q⟩
def bR(neg:Bool):En->Rv->Rv->Option Rv:=λe x y=>(kW e x).bind λa=>(kW e y).bind λb=>if (Vj a&&Vj b)=true then some (.d (.bool (if neg then !PyData.eqv a b else Vk a b))) else none
theorem JI{neg:Bool}:lR K (LD K neg) (bR neg):=by
 intro σ H0 F H e x y z v u Q R A B hg q;unfold bR at hg;obtain⟨a,h1,hg⟩:=Tz hg;obtain⟨b,h2,hg⟩:=Tz hg;split at hg;case isFalse=>cases hg
 case isTrue hl=>cases hg;rw[Uw]at hl;exact⟨a,b,pv R A h1,pv R B h2,hl.1,hl.2,q F H _ (hV.refl _ _ _ _) R jg⟩
def MZ(K:⇑0)(neg:Bool):R2:=λx y H Q=>∃a xs,DA K H a x/\(DA K H (.list xs) y\/DA K H (.tuple xs) y)/\a.canLay0=true/\a.depth<=60/\Vy xs=true/\Q (.bl (if neg then !(xs.any λy=>Vk y a) else xs.any λy=>Vk y a)) H
theorem K'{k:Nat}(hr:eB k X.A):lS X (VC .In) (MZ X.K false):=by
 intro pins s σ H x y v u Q I rx ry h;obtain⟨a,xs,ha,hb,s1,s2,s3,q⟩:=h;obtain⟨as,ra⟩:=DA.reads I s1 ha rx;have hu:=hr.units;rcases hb with hb|hb;·obtain⟨bs,rb⟩:=DA.reads I (by simpa[Vi]using s3) hb ry;exact PySem.SeqAt.in_list_reads rb ra s3 s1 ↥0 ⟨.bl _,H,I,rfl,q⟩
 ·obtain⟨bs,rb⟩:=DA.reads I (by simpa[Vi]using s3) hb ry;exact PySem.SeqAt.in_tuple_reads rb ra s3 s1 ↥0 ⟨.bl _,H,I,rfl,q⟩
def Hu(neg:Bool):En->Rv->Rv->Option Rv:=λe x y=>(kW e x).bind λa=>(iS e y).bind λp=>if (a.canLay0&&decide (a.depth<=60)&&Vy p.2)=true then some (.d (.bool (if neg then !(p.2.any λy=>Vk y a) else p.2.any λy=>Vk y a))) else none
theorem N9{neg:Bool}:lR K (MZ K neg) (Hu neg):=by
 intro σ H0 F H e x y z v u Q R A B hg q;unfold Hu at hg;obtain⟨a,h1,hg⟩:=Tz hg;obtain⟨⟨b,xs⟩,h2,hg⟩:=Tz hg;split at hg;case isFalse=>cases hg
 case isTrue hl=>cases hg;rw[Uw,Uw,decide_eq_true_iff]at hl;obtain⟨p,vs,rfl,d1,s1⟩:=iq R B h2;refine⟨a,xs,pv R A h1,?_,hl.1.1,hl.1.2,hl.2,q F H _ (hV.refl _ _ _ _) R jg⟩;cases b with|true=>exact .inl (dD.mpr ⟨p,vs,rfl,s1,d1.mono R.sm⟩)|false=>exact .inr (dk.mpr ⟨p,vs,rfl,s1,d1.mono R.sm⟩)
def xW:TN->Bool|.none=>true|_=>false
theorem CU{F:Hp}{d:TN}{v:V}(h:DA K F d v):decide (v=.non)=xW d:=by cases d with|none=>rw[lD.mp h];rfl|bool b=>rw[gb.mp h];rfl|int b=>rw[bZ.mp h];rfl|str b=>rw[AV.mp h];rfl|tuple b=>obtain⟨a,_,e,_⟩:=dk.mp h;rw[e];rfl|list b=>obtain⟨a,_,e,_⟩:=dD.mp h;rw[e];rfl|dict b=>simp only[DA]at h;obtain⟨a,m,rfl,_⟩:=h;rfl
def Kv(neg:Bool):En->Rv->Rv->Option Rv:=λe x y=>(kW e x).bind λa=>match y with|.d .none=>some (.d (.bool (if neg then !xW a else xW a)))|_=>none
def Ku(neg:Bool):En->Rv->Rv->Option Rv:=λe x y=>(cW x).bind λa=>(cW y).bind λb=>some (.d (.bool (if neg then !(a==b) else a==b)))
theorem K1:lR K (λx y H Q=>y=.non/\Q (.bl (!decide (x=.non))) H) (Kv true):=by
 intro σ H0 F H e x y z v u Q R A B hg q;unfold Kv at hg;obtain⟨a,h1,hg⟩:=Tz hg;split at hg;·cases hg;refine⟨lD.mp (show DA K F .none u from B),?_⟩;rw[CU (pv R A h1)];exact q F H _ (hV.refl _ _ _ _) R jg
 ·cases hg
theorem EL:lR K (λx y H Q=>∃b c,x=.bl b/\y=.bl c/\Q (.bl (!(b==c))) H) (Ku true):=by intro σ H0 F H e x y z v u Q R A B hg q;unfold Ku at hg;obtain⟨a,h1,hg⟩:=Tz hg;obtain⟨b,h2,hg⟩:=Tz hg;cases hg;exact⟨a,b,kQ A h1,kQ B h2,q F H _ (hV.refl _ _ _ _) R jg⟩
def qD:En->Rv->Rv->Option Rv:=DU (Kv true) (Ku true)
def Cm:R2:=λx y H Q=>(y=.non/\Q (.bl (!decide (x=.non))) H)\/∃b c,x=.bl b/\y=.bl c/\Q (.bl (!(b==c))) H
theorem Dj:lS X (VC .IsNot) Cm:=Ik.or Dl
theorem Hy:lR K Cm qD:=lR.or K1 EL
def bF:En->Rv->Rv->Option Rv:=λe x y=>(iS e x).bind λp=>(bU y).bind λi=>(atI p.2 i).map .d
def M0(K:⇑0):R2:=λx y H Q=>LF K x y H Q\/M1 K x y H Q
theorem N':G3 X (M0 X.K):=B9.or KD
theorem aW.atI{F:Hp}{ds:List TN}{vs:List V}(h:aW K F ds vs){i:Int}{d:TN}(q:atI ds i=some d):∃v,L2.atI vs i=some v/\DA K F d v:=by unfold L2.atI at q⊢;obtain⟨j,h1,h2⟩:=Tz q;obtain⟨v,h3,h4⟩:=h.get h2;exact⟨v,by rw[<-h.len,h1];exact h3,h4⟩
theorem Oa:lR K (M0 K) bF:=by intro σ H0 F H e x y z v u Q R A B hg q;unfold bF at hg;obtain⟨⟨b,xs⟩,h1,hg⟩:=Tz hg;obtain⟨i,h2,hg⟩:=Tz hg;obtain⟨d,h3,hg⟩:=TB hg;cases hg;obtain⟨p,vs,rfl,d1,s1⟩:=iq R A h1;obtain⟨w,h4,h5⟩:=d1.atI h3;have fin:=q F H w (hV.refl _ _ _ _) R h5;cases b with|true=>exact .inl ⟨p,vs,i,w,rfl,cN B h2,s1,h4,fin⟩|false=>exact .inr ⟨p,vs,i,w,rfl,cN B h2,s1,h4,fin⟩
end
end L2
namespace HT
open PySem PySem.Spec PyProof.Rows
section
variable{prog:Uc}{w:TX}{A:Ud}{E:TL->TQ->Prop}{s:TQ}
theorem getItem_tuple_all{t sl:TM}{items:Array TL}{vl vu:TL}{lo hi:Option Int}{Q:TL->TQ->Prop}(ht:IsTup s.heap t items)(hs:s.heap.IsSliceOf sl vl vu .none)(pl:IsPart vl lo)(pu:IsPart vu hi)(hw:sIx items.size 0 lo=0/\sIx items.size items.size hi=items.size)(h:Q (.ref t) s):TY (TZ prog w) A (getItem (.ref t) (.ref sl)) Q E s:=by
 obtain⟨os,hos,hcs,hds⟩:=id hs;have hTs:s.TypeIs (.ref sl) "slice":=⟨os,hos,hcs⟩;unfold getItem;try with_reducible refine WL ?_
 first|refine TV (Uh ?_)|skip
 refine TV (wpAny_sequenceKey ht.typeIs ⋯ ?_);refine TV (WR (name:=Vh "__getitem__") ht.typeIs WS (Wu WS ht.typeIs entry_tuple_getitem ?_ (args_tuple_getitem _ _)));show TY _ _ (Za (.ref t)>>=_) _ _ s;refine TV (tupleItemsOf_ ht ?_);refine TV (wpAny_typeOf hTs ?_);rw[if_pos ⋯];refine TV (li hs pl pu ?_);have hno:(((sIx items.size 0 lo:Nat):Int)==0&&(1:Int)==1&&(sIx items.size items.size hi-sIx items.size 0 lo)==items.size)=true:=by rw[hw.1,hw.2];simp
 show TY _ _ (if (((sIx items.size 0 lo:Nat):Int)==0&&(1:Int)==1&&(sIx items.size items.size hi-sIx items.size 0 lo)==items.size)=true then _ else _) _ _ s;rw[if_pos hno];unfold Builtin.Tuple.tupleIsExact;refine TV (TV (wpAny_typeOf ht.typeIs (Uh ?_)));rw[if_pos ⋯];exact TV (WC (Uh ⟨_,rfl,Uh h⟩))
end
end HT
namespace L2
open PySem PySem.Spec PyProof.Rows
section
variable{X:Cx}{K:⇑0}{a:TU}{fa:FE}{lo hi:Option TU}{pos p2:Pos}
def cutD(xs:List TN)(lo hi:Option Int):List TN:=(xs.drop (HT.sIx xs.length 0 lo)).take (HT.sIx xs.length xs.length hi-HT.sIx xs.length 0 lo)
def M6(K:⇑0):V->Option Int->Option Int->Hp->VK->Prop:=λx lo hi H Q=>∃a xs,x=.ref a/\fj K H a xs/\(HT.sIx xs.length 0 lo=0/\HT.sIx xs.length xs.length hi=xs.length)/\Q (.ref a) H
theorem I0:Hb X (M6 X.K):=by
 intro pins s σ H x v vl vu lo hi sl Q I rx hs pl pu h;obtain⟨a,xs,rfl,hx,hw,q⟩:=h;cases rx;obtain⟨its,r,ht,hz⟩:=I.tuple hx;have hlen:its.toArray.size=xs.length:=by rw[Uz];exact r.length.symm
 refine⟨"tuple",_,WS.lookup,ht.typeIs,?_⟩;exact HT.getItem_tuple_all ht hs pl pu (by rw[hlen];exact hw) ⟨.ref a,H,I,rfl,q⟩
def Og(K:⇑0):V->Option Int->Option Int->Hp->VK->Prop:=λx lo hi H Q=>M5 K x lo hi H Q\/(M6 K x lo hi H Q\/M4 K x lo hi H Q)
theorem Oi:Hb X (Og X.K):=LO.or (I0.or IZ)
abbrev FO:=En->Option (Option Int×En)
def fO(K:⇑0)(f:FO):TO:=λσ H Q=>∃F e o e',bz K F H σ e/\f e=some (o,e')/\∀F' H',hV σ F H e F' H' e'->bz K F' H' σ e'->Q o H'
theorem PO.mono{e:Option TU}{t t':TO}(h:PO X e t)(m:∀σ H Q,t' σ H Q->t σ H Q):PO X e t':=λpins s σ H Q I q=>h pins s σ H Q I (m σ H Q q)
def g_:FO:=λe=>some (none,e)
def gG(f:FE):FO:=λe=>(f e).bind λp=>(bU p.1).map λi=>(some i,p.2)
theorem je:PO X none (fO K g_):=IB.mono λσ H Q h=>by obtain⟨F,e,o,e',R,hf,q⟩:=h;cases hf;exact q F H (hV.refl _ _ _ _) R
theorem jf(h:PE X a (fE K fa)):PO X (some a) (fO K (gG fa)):=(IC h).mono λσ H Q h=>by obtain⟨F,e,o,e',R,hf,q⟩:=h;unfold gG at hf;obtain⟨⟨x,e1⟩,h1,hf⟩:=Tz hf;obtain⟨i,h2,hf⟩:=TB hf;cases hf;exact⟨F,e,x,_,R,h1,λF1 H1 v X1 R1 A1=>⟨i,cN A1 h2,q F1 H1 X1 R1⟩⟩
def NF(e:En)(x:Rv)(lo hi:Option Int):Option Rv:=(iS e x).map λp=>if p.1=true then .l (cutD p.2 lo hi) else .d (.tuple (cutD p.2 lo hi))
def xo(fa:FE)(fl fh:FO):FE:=λe=>(fa e).bind λp=>(fl p.2).bind λl=>(fh l.2).bind λh=>(NF h.2 p.1 l.1 h.1).map λz=>(z,h.2)
theorem Et{F:Hp}{ds:List TN}{vs:List V}(h:aW K F ds vs)(lo hi:Option Int):aW K F (cutD ds lo hi) (vg vs lo hi):=by unfold cutD vg;rw[h.len];exact(h.drop _).take _
theorem Hk{α:Type}{xs:List α}{lo hi:Option Int}(h:HT.sIx xs.length 0 lo=0/\HT.sIx xs.length xs.length hi=xs.length):(xs.drop (HT.sIx xs.length 0 lo)).take (HT.sIx xs.length xs.length hi-HT.sIx xs.length 0 lo)=xs:=by rw[h.1,h.2];simp
theorem FW{fl fh:FO}(he:PE X a (fE X.K fa))(hl:PO X lo (fO X.K fl))(hh:PO X hi (fO X.K fh)):PE X (.Subscript a (.Slice lo hi none p2) pos) (fE X.K (xo fa fl fh)):=(Fw Oi he hl hh).mono λσ H Q h=>by obtain⟨F,e,z,e',R,hf,q⟩:=h;unfold xo at hf;obtain⟨⟨x,e1⟩,h1,hf⟩:=Tz hf;obtain⟨⟨l,e2⟩,h2,hf⟩:=Tz hf;obtain⟨⟨u,e3⟩,h3,hf⟩:=Tz hf;obtain⟨z',h4,hf⟩:=TB hf;cases hf;refine⟨F,e,x,e1,R,h1,λF1 H1 v X1 R1 A1=>⟨F1,e1,l,e2,R1,h2,λF2 H2 X2 R2=>⟨F2,e2,u,_,R2,h3,λF3 H3 X3 R3=>?_⟩⟩⟩;have X12:=X1.trans X2;have X13:=X12.trans X3;have A3:=(A1.ext X2).ext X3;unfold NF at h4;obtain⟨⟨b,xs⟩,h5,h4⟩:=TB h4;obtain⟨p,vs,rfl,d1,s1⟩:=iq R3 A3 h5;cases b with|true=>rw[if_pos rfl]at h4;cases h4;refine .inr (.inr ⟨p,vs,rfl,s1,λt ht=>?_⟩);obtain⟨R4,X4,hF,no⟩:=R3.newL (vs:=vg vs l u) ht;exact q _ _ _ (X13.trans X4) R4 ⟨t,_,rfl,X13.dom _ ht,hF,aH,Et d1 l u,no⟩|false=>
 rw[if_neg ↥1]at h4;cases h4;by_cases hw:HT.sIx vs.length 0 l=0/\HT.sIx vs.length vs.length u=vs.length
 ·refine .inr (.inl ⟨p,vs,rfl,s1,hw,?_⟩);have e5:cutD xs l u=xs:=by unfold cutD;exact Hk (by rw[d1.len];exact hw)
  rw[e5]at q;obtain⟨F4,R4,X4,hF⟩:=R3.growT (aF.refl _) s1;exact q _ _ _ (X13.trans X4) R4 (dk.mpr ⟨p,vs,rfl,hF,d1.mono X4.sf⟩)
 ·refine .inl ⟨p,vs,rfl,s1,hw,λt ht=>?_⟩;obtain⟨R4,X4⟩:=R3.newT (vs:=vg vs l u) ht;exact q _ _ _ (X13.trans X4) R4 (dk.mpr ⟨t,_,rfl,.inl (.inl aH),(Et d1 l u).mono X4.sf⟩)
end
section
variable{X:Cx}{K:⇑0}
theorem pX{σ:L2.St}{H0 F H:Hp}{e:En}{x:Rv}{vs:List V}(h:eC K σ H0 F H e [x] vs):∃v,vs=[v]/\dt K σ H0 F H e x v:=by obtain⟨v,ws,rfl,h1,h2⟩:=h;have h2':ws=[]:=h2;subst h2';exact⟨v,rfl,h1⟩
theorem s_{σ:L2.St}{H0 F H:Hp}{e:En}{x y:Rv}{vs:List V}(h:eC K σ H0 F H e [x,y] vs):∃v u,vs=[v,u]/\dt K σ H0 F H e x v/\dt K σ H0 F H e y u:=by obtain⟨v,ws,rfl,h1,h2⟩:=h;obtain⟨u,rfl,h3⟩:=pX h2;exact⟨v,u,rfl,h1,h3⟩
def g1(g:En->Rv->Option Rv):En->List Rv->Option Rv:=λe xs=>match xs with|[x]=>g e x|_=>none
def g2(g:En->Rv->Rv->Option Rv):En->List Rv->Option Rv:=λe xs=>match xs with|[x,y]=>g e x y|_=>none
theorem lB{r:List V->Hp->VK->Prop}{g:En->Rv->Option Rv}(h:Mf K (λv H Q=>r [v] H Q) g):gX K r (g1 g):=by intro σ H0 F H e xs z vs Q R A hg q;unfold g1 at hg;match xs,hg with|[x],hg=>obtain⟨v,rfl,h1⟩:=pX A;exact h σ H0 F H e x z v Q R h1 hg q
theorem BS{r:List V->Hp->VK->Prop}{g:En->Rv->Rv->Option Rv}(h:lR K (λv u H Q=>r [v,u] H Q) g):gX K r (g2 g):=by intro σ H0 F H e xs z vs Q R A hg q;unfold g2 at hg;match xs,hg with|[x,y],hg=>obtain⟨v,u,rfl,h1,h2⟩:=s_ A;exact h σ H0 F H e x y z v u Q R h1 h2 hg q
def gU:En->Rv->Option Rv:=λe x=>(iS e x).map λp=>.d (.int p.2.length)
theorem MD:gX K (λxs H Q=>∃p ys,xs=[.ref p]/\(jU K H p ys\/fj K H p ys)/\Q (.int ys.length) H) (g1 gU):=lB λσ H0 F H e x z v Q R A hg q=>by
 obtain⟨⟨b,xs⟩,h5,h4⟩:=TB hg;obtain⟨p,vs,rfl,d1,s1⟩:=iq R A h5;cases h4;refine⟨p,vs,rfl,?_,?_⟩;·cases b with|true=>exact .inl s1|false=>exact .inr s1
 ·rw[<-d1.len];exact q F H _ (hV.refl _ _ _ _) R qT
def AZ:En->Rv->Option Rv:=λ_ x=>(bU x).map λi=>.d (.int (if i<0 then-i else i))
theorem Mg:gX K (λxs H Q=>∃i,xs=[.int i]/\Q (.int (if i<0 then-i else i)) H) (g1 AZ):=lB λσ H0 F H e x z v Q R A hg q=>by obtain⟨i,h5,h4⟩:=TB hg;cases h4;exact⟨i,by rw[cN A h5],q F H _ (hV.refl _ _ _ _) R qT⟩
def qC:En->Rv->Option Rv:=λ_ x=>match x with|.d (.int i)=>some (.d (.int i))|.d (.bool k)=>some (.d (.int (if k then 1 else 0)))|_=>none
theorem Mu:gX K (λxs H Q=>(∃i,xs=[.int i]/\Q (.int i) H)\/∃k,xs=[.bl k]/\Q (.int (if k then 1 else 0)) H) (g1 qC):=lB λσ H0 F H e x z v Q R A hg q=>by
 unfold qC at hg;split at hg;·cases hg;exact .inl ⟨_,by rw[bZ.mp (show DA K F (.int _) v from A)],q F H _ (hV.refl _ _ _ _) R qT⟩
 ·cases hg;exact .inr ⟨_,by rw[gb.mp (show DA K F (.bool _) v from A)],q F H _ (hV.refl _ _ _ _) R qT⟩
 ·cases hg
def EE:=gI (λ_ _=>true) λi j=>.int (if j<i then j else i)
def C0:=gI (λ_ _=>true) λi j=>.int (if j>i then j else i)
theorem MG:gX K (λxs H Q=>∃i j,xs=[.int i,.int j]/\Q (.int (if j<i then j else i)) H) (g2 EE):=BS λσ H0 F H e x y z v u Q R A B hg q=>by obtain⟨i,j,h1,h2,h3⟩:=oI (K:=K) (g:=λi j=>.int (if j<i then j else i)) (λ_ _ _=>bZ.mpr rfl) σ H0 F H e x y z v u Q R A B hg q;exact⟨i,j,by rw[h1,h2],h3⟩
theorem MF:gX K (λxs H Q=>∃i j,xs=[.int i,.int j]/\Q (.int (if j>i then j else i)) H) (g2 C0):=BS λσ H0 F H e x y z v u Q R A B hg q=>by obtain⟨i,j,h1,h2,h3⟩:=oI (K:=K) (g:=λi j=>.int (if j>i then j else i)) (λ_ _ _=>bZ.mpr rfl) σ H0 F H e x y z v u Q R A B hg q;exact⟨i,j,by rw[h1,h2],h3⟩
def cz:En->Rv->Option Rv:=λe x=>(iS e x).map λp=>.d (.tuple p.2)
theorem Jm:gX K (λxs H Q=>∃p ys,xs=[.ref p]/\((jU K H p ys/\∀l,H l=none->Q (.ref l) (cg H l (.tup ys)))\/(fj K H p ys/\Q (.ref p) H))) (g1 cz):=lB λσ H0 F H e x z v Q R A hg q=>by obtain⟨⟨b,xs⟩,h5,h4⟩:=TB hg;obtain⟨p,vs,rfl,d1,s1⟩:=iq R A h5;cases h4;refine⟨p,vs,rfl,?_⟩;cases b with|true=>refine .inl ⟨s1,λt ht=>?_⟩;obtain⟨R4,X4⟩:=R.newT (vs:=vs) ht;exact q _ _ _ X4 R4 (dk.mpr ⟨t,_,rfl,.inl (.inl aH),d1.mono X4.sf⟩)|false=>obtain⟨F4,R4,X4,hF⟩:=R.growT (aF.refl _) s1;exact .inr ⟨s1,q _ _ _ X4 R4 (dk.mpr ⟨p,vs,rfl,hF,d1.mono X4.sf⟩)⟩
def wL:List TN->Option (List Int)|[]=>some []|.int i::r=>(wL r).map (i::·)|_=>none
theorem t9:∀{ds:List TN}{ns:List Int},wL ds=some ns->ds=ns.map .int|[],_,h=>by cases h;rfl|.int i::r,_,h=>by obtain⟨ns,h1,rfl⟩:=TB h;rw[t9 h1];rfl
theorem qI:∀(ns:List Int),wL (ns.map .int)=some ns|[]=>rfl|i::r=>by simp[wL,qI r]
def ly:List TN->Option (List Bool)|[]=>some []|.bool i::r=>(ly r).map (i::·)|_=>none
theorem wk:∀{ds:List TN}{ns:List Bool},ly ds=some ns->ds=ns.map .bool|[],_,h=>by cases h;rfl|.bool i::r,_,h=>by obtain⟨ns,h1,rfl⟩:=TB h;rw[wk h1];rfl
theorem om:∀(ns:List Bool),ly (ns.map .bool)=some ns|[]=>rfl|i::r=>by simp[ly,om r]
def i4(g:List TN->Option TN):En->Rv->Option Rv:=λe x=>match iS e x with|some (true,xs)=>(g xs).map .d|_=>none
theorem Gv{r:List V->Hp->VK->Prop}{g:List TN->Option TN}(h:∀(F H:Hp) (p:TM) (xs:List TN) (vs:List V) (d:TN) (Q:VK),aW K F xs vs->jU K H p vs->g xs=some d->(∀v,(∀F,DA K F d v)->Q v H)->r [.ref p] H Q):gX K r (g1 (i4 g)):=lB λσ H0 F H e x z v Q R A hg q=>by
 unfold i4 at hg;split at hg;case h_2=>cases hg
 case h_1 xs h5=>obtain⟨p,vs,rfl,d1,s1⟩:=iq R A h5;obtain⟨d,h6,hg⟩:=TB hg;cases hg;exact h F H p xs vs d Q d1 s1 h6 λv hv=>q F H v (hV.refl _ _ _ _) R (hv F)
def wF:List TN->Option TN:=λxs=>(wL xs).map λns=>.int ns.sum
theorem M':gX K (λxs H Q=>∃(l:TM) (ns:List Int),xs=[.ref l]/\jU K H l (ns.map V.int)/\Q (.int ns.sum) H) (g1 (i4 wF)):=Gv λF H p xs vs d Q d1 s1 hg q=>by obtain⟨ns,h1,h2⟩:=TB hg;cases h2;rw[t9 h1]at d1;rw[aW.ints.mp d1]at s1;exact⟨p,ns,rfl,s1,q _ λ_=>bZ.mpr rfl⟩
def rS:List TN->Option TN:=λxs=>(ly xs).map λns=>.bool (ns.all id)
theorem Mi:gX K (λxs H Q=>∃(l:TM) (bs:List Bool),xs=[.ref l]/\jU K H l (bs.map V.bl)/\Q (.bl (bs.all id)) H) (g1 (i4 rS)):=Gv λF H p xs vs d Q d1 s1 hg q=>by obtain⟨ns,h1,h2⟩:=TB hg;cases h2;rw[wk h1]at d1;rw[aW.bools.mp d1]at s1;exact⟨p,ns,rfl,s1,q _ λ_=>gb.mpr rfl⟩
def lE:En->Rv->Option Rv:=λe x=>match iS e x with|some (false,xs)=>(wL xs).bind λns=>if ns.length<64 then some (.l ((mT ns).map .int)) else none|_=>none
def Ga(K:⇑0):List V->Hp->VK->Prop:=λxs H Q=>∃(a:TM) (ns:List Int),xs=[.ref a]/\fj K H a (ns.map V.int)/\ns.length<64/\∀(l:TM) (H':Hp),aF H H'->H l=none->H' l=some (.lst ((mT ns).map V.int))->Q (.ref l) H'
theorem AR:fR X (.builtin "sorted") (Ga X.K):=by intro pins s σ H xs us Q I rv h;obtain⟨a,ns,e1,e2,e3,q⟩:=h;exact y9 pins s σ H xs us Q I rv ⟨a,ns,e1,e2,e3,λl ns' H' sm hn hl hp hs=>q l H' sm hn (by rw[<-Gy hp hs];exact hl)⟩
theorem I_:gX K (Ga K) (g1 lE):=lB λσ H0 F H e x z v Q R A hg q=>by
 unfold lE at hg;split at hg;case h_2=>cases hg
 case h_1 xs h5=>
 obtain⟨p,vs,rfl,d1,s1⟩:=iq R A h5;obtain⟨ns,h6,hg⟩:=Tz hg;split at hg;case isFalse=>cases hg
 case isTrue hl=>cases hg;rw[t9 h6]at d1;have s1':fj K H p vs:=s1;rw[aW.ints.mp d1]at s1';refine⟨p,ns,rfl,s1',hl,λl H' sm hn hl'=>?_⟩;obtain⟨R4,X4⟩:=R.same sm;exact q F H' _ X4 R4 ⟨l,_,rfl,hn,R.freeF hn,hl',aW.ints.mpr rfl,λz=>R.ownH l ((R.sameOwn sm l).mp z) hn⟩
mutual
def jz:TN->Bool|.tuple ds=>jX ds|.list _=>false|.dict _=>false|_=>true
def jX:List TN->Bool|[]=>true|d::r=>jz d&&jX r
end
mutual
def oG:TN->Bool|.list _=>false|.tuple ds=>pP ds|_=>true
def pP:List TN->Bool|[]=>true|d::r=>oG d&&pP r
end
theorem uC{X:Cx}{pins:List (TM×Obj)}{σ:L2.St}{H:Hp}{s:TQ}(I:aM X pins σ H s):∀{m:List (Int×yX)}{es:List DictEntry}{vs:List (nY×TL)}{P:Uc}{w:TX},(∀p∈m,p.2.ok X.K H)->KV (m.map λp=>((VL p.1:nY),p.2.toV)) vs->Pairs (yj P w) es vs->ReadsAll s.heap (es.map (·.key)) (m.map λp=>PyData.int p.1) []/\ReadsAll s.heap (es.map (·.val)) (m.map λp=>p.2.toD) []|[],es,vs,P,w,_,r,q=>by cases r;cases q;exact⟨.nil,.nil⟩|p::m,es,vs,P,w,ok,r,q=>by rw[Uo]at r;cases r with|@cons a b as bs h1 t=>cases q with|@cons e kv es' kvs' h2 h3 h4=>
 obtain⟨z1,z2⟩:=h1;obtain⟨c1,c2⟩:=uC I (λp hp=>ok p (VW _ hp)) t h4;have k1:EQ (VL p.1) e.key=true:=by have:b.1=VL p.1:=z1.symm;rw[<-this];exact h2
 rcases ck k1 with⟨i,t',e1,e2⟩|⟨x,t',e1,e2⟩
 ·cases e1;refine⟨?_,?_⟩;·simp only[Uo,e2];exact ReadsAll.cons (as:=[]) (bs:=[]) (.int p.1 t') c1
  ·simp only[Uo,h3];refine ReadsAll.cons (as:=[]) (bs:=[]) ?_ c2;have ok0:=ok p (Wr ..);obtain⟨k,at_⟩:=p;cases at_ with
   |vp a x y=>rw[show b.2=Value.ref a from z2];obtain⟨its,rv,⟨o,ho,hc,n,hd⟩,hz⟩:=I.tuple (show fj X.K H a _ from ok0);match its,rv,hd with|_,.cons r1 (.cons r2 .nil),hd=>obtain⟨t1,rfl⟩:=r1;obtain⟨t2,rfl⟩:=r2;exact .tuple ho hc hd (ReadsAll.cons (as:=[]) (bs:=[]) (.int _ _) (ReadsAll.cons (as:=[]) (bs:=[]) (.int _ _) .nil))
   |vi n=>obtain⟨tk,z2⟩:=z2;rw[z2];exact .int n tk|vb x=>rw[show b.2=Value.bool x from z2];exact .bool x|vn=>rw[show b.2=Value.none from z2];exact .none
 ·cases e1
mutual
theorem DA.readsR{X:Cx}{pins:List (TM×Obj)}{σ:L2.St}{H:Hp}{s:TQ}(I:aM X pins σ H s):∀{d:TN}{v:V}{u:TL},DA X.K H d v->bY v u->∃as,Reads s.heap u d as/\(oG d=true->sysModules∉as)
 |.none,_,_,q,r=>by simp only[DA]at q;subst q;cases r;exact⟨_,.none,λ_=>by simp⟩|.bool b,_,_,q,r=>by simp only[DA]at q;subst q;cases r;exact⟨_,.bool b,λ_=>by simp⟩|.int i,_,_,q,r=>by simp only[DA]at q;subst q;obtain⟨t,rfl⟩:=r;exact⟨_,.int i t,λ_=>by simp⟩|.str x,_,_,q,r=>by simp only[DA]at q;subst q;obtain⟨t,rfl⟩:=r;exact⟨_,.str x t,λ_=>by simp⟩|.tuple ds,_,_,q,r=>by simp only[DA]at q;obtain⟨a,xs,e,hs,rr⟩:=q;subst e;cases r;obtain⟨its,rv,⟨o,ho,hc,n,hd⟩,hz⟩:=I.tuple hs;obtain⟨as,q,z⟩:=aW.readsR I rr rv;exact⟨_,.tuple ho hc hd q,λc=>z (by simpa[oG]using c)⟩|.list ds,_,_,q,r=>by simp only[DA]at q;obtain⟨a,xs,e,hs,rr⟩:=q;subst e;cases r;obtain⟨its,rv,ht,hz⟩:=I.list hs;obtain⟨o,ho,hc,n,hd⟩:=ht.isList;obtain⟨as,q,z⟩:=aW.readsR I rr rv;exact⟨_,.list ho hc hd q,λc=>by simp[oG]at c⟩|.dict kvs,_,_,q,r=>by
  simp only[DA]at q;obtain⟨a,m,e,hs,rfl,ok⟩:=q;subst e;cases r;obtain⟨_,hS,vs,kv,o,es,ep,ho,hx,hd,_,hp,_⟩:=(show jr X.prog X.w H s.heap a (.dK (m.map λp=>(VL p.1,p.2.toV))) from I.hok a _ hs);obtain⟨c1,c2⟩:=uC I ok kv hp;refine⟨_,Reads.dict (as:=[]) (bs:=[]) ho hx.1 hd ?_ ?_,λ_=>?_⟩;·rw[UJ];exact c1
  ·rw[UJ];exact c2
  ·have:a≠sysModules:=by simpa using hS
   simpa using this.symm
theorem aW.readsR{X:Cx}{pins:List (TM×Obj)}{σ:L2.St}{H:Hp}{s:TQ}(I:aM X pins σ H s):∀{ds:List TN}{xs:List V}{us:List TL},aW X.K H ds xs->bc xs us->∃as,ReadsAll s.heap us ds as/\(pP ds=true->sysModules∉as)|[],_,_,q,r=>by simp only[aW]at q;subst q;cases r;exact⟨_,.nil,λ_=>by simp⟩|d::ds,_,_,q,r=>by simp only[aW]at q;obtain⟨x,rr,e,a,b⟩:=q;subst e;cases r with|cons p p'=>
 obtain⟨as,q1,z1⟩:=DA.readsR I a p;obtain⟨bs,q2,z2⟩:=aW.readsR I b p';refine⟨_,.cons q1 q2,λc=>?_⟩;simp only[pP,Uw]at c;intro z;rcases TF z with z|z;·exact z1 c.1 z
 ·exact z2 c.2 z
end
def qe(d:TN):Bool:=(jz d||(!d.hasDict||oG d))&&d.showable&&decide (d.depth<=60)&&decide (d.shown.length<=Uj)
def rW:En->Rv->Option Rv:=λ_ x=>match x with|.d d=>if qe d=true then some (.d (.str d.shown)) else none|_=>none
def F_(K:⇑0):List V->Hp->VK->Prop:=λxs H Q=>∃x d,xs=[x]/\DA K H d x/\(d.hasDict=true->oG d=true)/\d.showable=true/\d.depth<=60/\d.shown.length<=Uj/\Q (.str d.shown) H
mutual
theorem rQ:∀(d:TN),jz d=true->d.hasDict=false|.none,_=>rfl|.bool _,_=>rfl|.int _,_=>rfl|.str _,_=>rfl|.tuple ds,h=>by simp only[PyData.hasDict];exact pB ds (by simpa[jz]using h)|.list ds,h=>by simp[jz]at h|.dict _,h=>by simp[jz]at h
theorem pB:∀(ds:List TN),jX ds=true->PyData.hasDictAll ds=false|[],_=>rfl|d::r,h=>by simp only[jX,Uw]at h;simp only[PyData.hasDictAll,rQ d h.1,pB r h.2,Bool.or_self]
end
theorem AQ{X:Cx}{k:Nat}(hr:eB k X.A):fR X (.builtin "repr") (F_ X.K):=by
 intro pins s σ H xs us Q I r h;obtain⟨x,d,rfl,ha,hdl,hsh,hdp,hsz,q⟩:=h;obtain⟨u,rfl,ru⟩:∃u,us=[u]/\bY x u:=by cases r with|cons p p'=>cases p';exact⟨_,rfl,p⟩
 have hun:=hr.un;obtain⟨as,rd,hm⟩:=DA.readsR I ha ru;have fin:∀a,u=.ref a->TY (TZ X.prog X.w) X.A (call (.builtin "repr") [u]) (EP X pins σ Q) X.xe s:=λa e=>by subst e;exact repr_of_reads' rd hsh (λz=>hm (hdl z)) hr.gd ↥0 (λ_ _ e=>e) (λh' u tk hk=>⟨.str _,H,I.kept hk,⟨_,rfl⟩,q⟩) hsz
 cases d with|none=>simp only[DA]at ha;subst ha;cases ru;exact P.repr_of_none ⟨.str _,H,I.tok _,⟨_,rfl⟩,q⟩|bool b=>simp only[DA]at ha;subst ha;cases ru;exact P.repr_of_bool ⟨.str _,H,I.tok _,⟨_,rfl⟩,q⟩|int i=>simp only[DA]at ha;subst ha;obtain⟨t,rfl⟩:=ru;simp only[XI,decide_eq_true_eq]at hsh;exact P.repr_of_int hsh ⟨.str _,H,I.tok _,⟨_,rfl⟩,q⟩|str y=>simp only[DA]at ha;subst ha;obtain⟨t,rfl⟩:=ru;exact P.repr_of_str ⟨.str _,H,I.tok _,⟨_,rfl⟩,q⟩ hsz|list ds=>obtain⟨a,_,e,_⟩:=dD.mp ha;subst e;exact fin a ru|dict ds=>simp only[DA]at ha;obtain⟨a,_,e,_⟩:=ha;subst e;exact fin a ru|tuple ds=>obtain⟨a,_,e,_⟩:=dk.mp ha;subst e;exact fin a ru
theorem LK:gX K (F_ K) (g1 rW):=lB λσ H0 F H e x z v Q R A hg q=>by
 unfold rW at hg;split at hg;case h_2=>cases hg
 case h_1 d=>
 split at hg;case isFalse=>cases hg
 case isTrue hl=>cases hg;unfold qe at hl;rw[Uw,Uw,Uw,decide_eq_true_iff,decide_eq_true_iff]at hl;refine⟨v,d,rfl,DA.mono R.sm A,λz=>?_,hl.1.1.2,hl.1.2,hl.2,q F H _ (hV.refl _ _ _ _) R ((AV (K:=K) (F:=F)).mpr rfl)⟩;have c:=hl.1.1.1;cases hf:jz d with|true=>rw[rQ d hf]at z;cases z|false=>rw[hf,z]at c;simpa using c
end
section
variable{K:⇑0}{σ:L2.St}{H0 F H F' H':Hp}{e e':En}
theorem bz.upd1(R:bz K F H σ e){σ':L2.St}(i:Nat)(hl:σ'.length=e'.length)(hσ:∀j,j≠i->σ'[j]?=σ[j]?)(he:∀j,j≠i->e'[j]?=e[j]?)(sF:aF F F')(sm:aF F' H')(hf:∀j a,j≠i->Fp σ e H j a->F' a=none)(hh:∀j a o,j≠i->Fp σ e H j a->H a=some o->H' a=some o)(hd:∀x,e'[i]?=some (some (.d x))->∃v,σ'[i]?=some (some v)/\DA K F' x v)(ho:∀xs,e'[i]?=some (some (.l xs))->∃l vs,σ'[i]?=some (some (.ref l))/\F' l=none/\H' l=some (.lst vs)/\aW K F' xs vs)(hn:∀xss,e'[i]?=some (some (.n xss))->∃(l:TM) (bs:List TM),σ'[i]?=some (some (.ref l))/\F' l=none/\H' l=some (.lst (bs.map V.ref))/\bs.length=xss.length/\bs.Nodup/\l∉bs/\∀(k:Nat) (b:TM) (ys:List TN),bs[k]?=some b->xss[k]?=some ys->F' b=none/\∃us,H' b=some (.lst us)/\aW K F' ys us)(hi:∀a j,j≠i->Fp σ' e' H' i a->¬Fp σ e H j a):bz K F' H' σ' e'/\∀j a,j≠i->(Fp σ' e' H' j a↔Fp σ e H j a):=by
 have fs:∀j a,j≠i->(Fp σ' e' H' j a↔Fp σ e H j a):=by
  intro j a hj;have key:∀xss l,e[j]?=some (some (.n xss))->σ[j]?=some (some (.ref l))->H' l=H l:=λxss l h1 h2=>by obtain⟨l',bs,g1,g2,g3,_⟩:=R.nst j xss h1;rw[h2]at g1;cases g1;rw[g3];exact hh j l _ hj (.inr ⟨xss,l,bs,h1,h2,g3,.inl rfl⟩) g3
  unfold Fp;rw[he j hj,hσ j hj];constructor
  ·rintro(h1|⟨xss,l,bs,h1,h2,h3,h4⟩);·exact .inl h1
   ·exact .inr ⟨xss,l,bs,h1,h2,by rw[<-key xss l h1 h2];exact h3,h4⟩
  ·rintro(h1|⟨xss,l,bs,h1,h2,h3,h4⟩);·exact .inl h1
   ·exact .inr ⟨xss,l,bs,h1,h2,by rw[key xss l h1 h2];exact h3,h4⟩
 refine⟨⟨sm,hl,λj x q=>?_,λj xs q=>?_,λj xss q=>?_,λj k a q1 q2=>?_⟩,fs⟩
 ·by_cases z:j=i;·subst z;exact hd x q
  ·rw[he j z]at q;obtain⟨v,h1,h2⟩:=R.dat j x q;exact⟨v,by rw[hσ j z];exact h1,DA.mono sF h2⟩
 ·by_cases z:j=i;·subst z;exact ho xs q
  ·rw[he j z]at q;obtain⟨l,vs,h1,h2,h3,h4⟩:=R.own j xs q;have o:Fp σ e H j l:=.inl ⟨xs,q,h1⟩;exact⟨l,vs,by rw[hσ j z];exact h1,hf j l z o,hh j l _ z o h3,h4.mono sF⟩
 ·by_cases z:j=i;·subst z;exact hn xss q
  ·rw[he j z]at q;obtain⟨l,bs,h1,h2,h3,h4,h5,h6,h7⟩:=R.nst j xss q;have o:Fp σ e H j l:=.inr ⟨xss,l,bs,q,h1,h3,.inl rfl⟩;refine⟨l,bs,by rw[hσ j z];exact h1,hf j l z o,hh j l _ z o h3,h4,h5,h6,λk b ys g1 g2=>?_⟩;obtain⟨c1,us,c2,c3⟩:=h7 k b ys g1 g2;have ob:Fp σ e H j b:=.inr ⟨xss,l,bs,q,h1,h3,.inr (TK g1)⟩;exact⟨hf j b z ob,us,hh j b _ z ob c2,c3.mono sF⟩
 ·by_cases zj:j=i
  ·subst zj;by_cases zk:k=j;·exact zk.symm
   ·exact absurd ((fs k a zk).mp q2) (hi a k zk q1)
  ·by_cases zk:k=i;·subst zk;exact absurd ((fs j a zj).mp q1) (hi a j zj q2)
   ·exact R.fp j k a ((fs j a zj).mp q1) ((fs k a zk).mp q2)
theorem bz.putL(R:bz K F H σ e){i:Nat}{xs ys:List TN}{l:TM}{vs:List V}(hi:e[i]?=some (some (.l xs)))(hl:σ[i]?=some (some (.ref l)))(hd:aW K F ys vs):bz K F (cg H l (.lst vs)) σ (e.set i (some (.l ys)))/\hV σ F H e F (cg H l (.lst vs)) (e.set i (some (.l ys))):=by
 obtain⟨l',vs',h1,h2,h3,h4⟩:=R.own i xs hi;rw[hl]at h1;cases h1;have hlt:i<e.length:=(TC hi).1;have fi:Fp σ e H i l:=.inl ⟨xs,hi,hl⟩;have gi:(e.set i (some (Sv.l ys)))[i]?=some (some (.l ys)):=UW hlt;obtain⟨R',fs⟩:=R.upd1 (F':=F) (H':=cg H l (.lst vs)) (e':=e.set i (some (.l ys))) i (by rw[VG];exact R.len) ↥4 (λj hj=>UA (UQ hj)) (aF.refl F) (λb o q=>by
  have z:b≠l:=λz=>by rw[z,h2]at q;cases q
  rw[aJ z];exact R.sm b o q) (λj a _ q=>(R.fpAt q).1) (λj a o hj q ha=>by have z:a≠l:=λz=>hj (R.fp j i a q (by rw[z];exact fi));rw[aJ z];exact ha) (λx q=>by rw[gi]at q;cases q) (λzs q=>by rw[gi]at q;cases q;exact⟨l,vs,hl,h2,aH,hd⟩) (λxss q=>by rw[gi]at q;cases q) (λa j hj q q2=>by
  rcases q with⟨zs,_,q⟩|⟨xss,_,_,q,_⟩;·rw[hl]at q;cases q;exact hj (R.fp j i _ q2 fi)
  ·rw[gi]at q;cases q);refine⟨R',⟨aF.refl _,λa q=>?_,λ_ _ q _ _=>q,λa ws q=>?_,λa o q n=>?_,λj=>?_,λa⟨j,q⟩=>?_,λ_ _ q _ _=>q⟩⟩
 ·by_cases z:a=l;·rw[z,aH]at q;cases q
  ·rw[aJ z]at q;exact q
 ·by_cases z:a=l;·rw[z];exact⟨vs,aH⟩
  ·rw[aJ z];exact⟨ws,q⟩
 ·have z:a≠l:=λz=>n ⟨i,by rw[z];exact fi⟩;rw[aJ z];exact q
 ·by_cases z:j=i;·subst z;rw[gi];exact⟨λ_=>⟨xs,hi⟩,λ_=>⟨ys,rfl⟩⟩
  ·rw[UA (UQ z)]
 ·by_cases z:j=i
  ·subst z;rcases q with⟨zs,_,q⟩|⟨xss,_,_,q,_⟩;·rw[hl]at q;cases q;exact .inl ⟨j,fi⟩
   ·rw[gi]at q;cases q
  ·exact .inl ⟨j,(fs j a z).mp q⟩
theorem bz.setD(R:bz K F H σ e)(i:Nat){x:TN}{v:V}(h:DA K F x v):bz K F H (σ.set i (some v)) (e.set i (some (.d x)))/\∀a,c9 (σ.set i (some v)) (e.set i (some (.d x))) H a->c9 σ e H a:=by
 have gi:∀s,(e.set i (some (Sv.d x)))[i]?=some (some s)->s=.d x/\i<e.length:=λs q=>by
  have hlt:i<e.length:=by have:=(TC q).1;simpa using this
  rw[UW hlt]at q;exact⟨(UH (UH q)).symm,hlt⟩
 have nofp:∀a,¬Fp (σ.set i (some v)) (e.set i (some (.d x))) H i a:=λa q=>by
  rcases q with⟨zs,q,_⟩|⟨xss,_,_,q,_⟩;·cases (gi _ q).1
  ·cases (gi _ q).1
 obtain⟨R',fs⟩:=R.upd1 (F':=F) (H':=H) (σ':=σ.set i (some v)) (e':=e.set i (some (.d x))) i (by rw[VG,VG];exact R.len) (λj hj=>UA (UQ hj)) (λj hj=>UA (UQ hj)) (aF.refl F) R.sm (λj a _ q=>(R.fpAt q).1) (λj a o _ _ ha=>ha) (λy q=>by obtain⟨z,hlt⟩:=gi _ q;cases z;exact⟨v,UW (by rw[R.len];exact hlt),h⟩) (λzs q=>by cases (gi _ q).1) (λxss q=>by cases (gi _ q).1) (λa j hj q=>absurd q (nofp a));refine⟨R',λa⟨j,q⟩=>?_⟩;by_cases z:j=i;·subst z;exact absurd q (nofp a)
 ·exact⟨j,(fs j a z).mp q⟩
theorem bz.setL(R:bz K F H σ e)(i:Nat){xs:List TN}{l:TM}{vs:List V}(h1:F l=none)(h2:H l=some (.lst vs))(h3:aW K F xs vs)(h4:¬c9 σ e H l):bz K F H (σ.set i (some (.ref l))) (e.set i (some (.l xs)))/\∀a,c9 (σ.set i (some (.ref l))) (e.set i (some (.l xs))) H a->c9 σ e H a\/a=l:=by
 have gi:∀s,(e.set i (some (Sv.l xs)))[i]?=some (some s)->s=.l xs/\i<e.length:=λs q=>by
  have hlt:i<e.length:=by have:=(TC q).1;simpa using this
  rw[UW hlt]at q;exact⟨(UH (UH q)).symm,hlt⟩
 have onefp:∀a,Fp (σ.set i (some (.ref l))) (e.set i (some (.l xs))) H i a->a=l:=λa q=>by
  rcases q with⟨zs,q,q2⟩|⟨xss,_,_,q,_⟩;·obtain⟨_,hlt⟩:=gi _ q;rw[UW (by rw[R.len];exact hlt)]at q2;cases q2;rfl
  ·cases (gi _ q).1
 obtain⟨R',fs⟩:=R.upd1 (F':=F) (H':=H) (σ':=σ.set i (some (.ref l))) (e':=e.set i (some (.l xs))) i (by rw[VG,VG];exact R.len) (λj hj=>UA (UQ hj)) (λj hj=>UA (UQ hj)) (aF.refl F) R.sm (λj a _ q=>(R.fpAt q).1) (λj a o _ _ ha=>ha) (λy q=>by cases (gi _ q).1) (λzs q=>by obtain⟨z,hlt⟩:=gi _ q;cases z;exact⟨l,vs,UW (by rw[R.len];exact hlt),h1,h2,h3⟩) (λxss q=>by cases (gi _ q).1) (λa j hj q q2=>h4 ⟨j,by rw[onefp a q]at q2;exact q2⟩);refine⟨R',λa⟨j,q⟩=>?_⟩;by_cases z:j=i;·subst z;exact .inr (onefp a q)
 ·exact .inl ⟨j,(fs j a z).mp q⟩
end
section
variable{X:Cx}{K:⇑0}{o a:TU}{es:List TU}{fo:FE}{fs:FA}{name:Str}{apos cpos:Pos}{id:String}
def BH(K:⇑0)(r:V->List V->Hp->VK->Prop)(g:List TN->List TN->Option (TN×List TN)):Prop:=∀(F H:Hp) (l:TM) (xs ys ds:List TN) (z:TN) (vs us:List V) (Q:VK),F l=none->aF F H->H l=some (.lst vs)->aW K F xs vs->aW K F ds us->g xs ds=some (z,ys)->(∀w ws,DA K F z w->aW K F ys ws->Q w (cg H l (.lst ws)))->r (.ref l) us H Q
def cS(g:List TN->List TN->Option (TN×List TN))(fo:FE)(fs:FA):FE:=λe=>(fo e).bind λp=>match p.1 with
 |.s i=>(fs p.2).bind λq=>(jx q.1).bind λds=>match q.2[i]? with|some (some (.l xs))=>(g xs ds).map λz=>(.d z.1,q.2.set i (some (.l z.2)))|_=>none
 |_=>none
theorem GP{r:V->List V->Hp->VK->Prop}{g:List TN->List TN->Option (TN×List TN)}(hm:BH K r g){σ:L2.St}{H:Hp}{Q:VK}(h:fE K (cS g fo fs) σ H Q):OF K "list" r (fE K fo) (fA K fs) σ H Q:=by obtain⟨F,e,z,e',R,hf,q⟩:=h;unfold cS at hf;obtain⟨⟨x,e1⟩,h1,hf⟩:=Tz hf;match x,h1,hf with|.s i,h1,hf=>dsimp only at hf;obtain⟨⟨rs,e2⟩,h2,hf⟩:=Tz hf;obtain⟨ds,h3,hf⟩:=Tz hf;refine⟨F,e,_,e1,R,h1,λF1 H1 v X1 R1 A1=>?_⟩;obtain⟨g1,zs,g2⟩:=A1;obtain⟨l,vs,c1,c2,c3,c4⟩:=R1.own i zs g2;rw[g1]at c1;cases c1;refine⟨.inl ⟨rfl,vs,.inl (.inl c3)⟩,F1,e1,rs,e2,R1,h2,λF2 H2 us X2 R2 A2=>?_⟩;match h4:e2[i]?,hf with|some (some (.l xs)),hf=>dsimp only at hf;obtain⟨⟨zd,ys⟩,h5,hf⟩:=TB hf;cases hf;obtain⟨F3,R3,s3,d3,f3⟩:=eC.frozen R2 A2 h3;obtain⟨l',vs',k1,k2,k3,k4⟩:=R3.own i xs h4;rw[g1]at k1;cases k1;refine hm F3 H2 l xs ys ds zd vs' us Q k2 R3.sm k3 k4 d3 h5 λw ws hw hws=>?_;obtain⟨R4,X4⟩:=R3.putL h4 g1 hws;exact q _ _ _ ((X1.trans (X2.frz s3 f3)).trans X4) R4 hw
theorem J0{r:V->List V->Hp->VK->Prop}{g:List TN->List TN->Option (TN×List TN)}(slot:Slot "list" name id)(hty:typeOf (.builtin id)=pure (.type "method_descriptor"))(hm:Ox X id r)(hf:BH X.K r g)(ho:PE X o (fE X.K fo))(ha:PA X (a::es) (fA X.K fs))(hbase:WU o name X.env (Ui o X.env)=Ui o X.env)(hfew:((UD cpos (Ue (a::es) X.env)).all (λx=>!x.1)&&(backToKw cpos (WV [] X.env)).all (λx=>x.1.isSome)&&decide ((a::es).length+([]:List Vn).length+(if ([]:List Vn).isEmpty then 0 else 1)<30))=true)(hline:(apos.endLine==cpos.line)=true)(hs:Ue (a::es) X.env=(false,Ui a X.env)::Ue es X.env)(hplain:(UD cpos (Ue es X.env)).any (·.1)=false):PE X (.Call (.Attribute o name apos) (a::es) [] cpos) (fE X.K (cS g fo fs)):=(Fq YU slot hty hm ho ha hbase hfew hline hs hplain).mono λ_ _ _ h=>GP hf h
def bG:List TN->List TN->Option (TN×List TN):=λxs ds=>match ds with|[d]=>if xs.length<1000000 then some (.none,xs++[d]) else none|_=>none
theorem D6:BH K Ck bG:=by intro F H l xs ys ds z vs us Q hF sm hl d1 d2 hg q;unfold bG at hg;match ds,hg,d2 with
 |[d],hg,d2=>
  simp only[aW]at d2;obtain⟨w,r,rfl,hw,rfl⟩:=d2;dsimp only at hg;split at hg;case isFalse=>cases hg
  case isTrue hlt=>cases hg;have:=d1.len;have sl:Uj=16777216:=VD;exact⟨l,vs,w,rfl,rfl,hl,by lia,q _ _ (lD.mpr rfl) (d1.append (aW.one hw))⟩
def zL:List TN->List TN->Option (TN×List TN):=λxs ds=>match ds with|[]=>(xs[xs.length-1]?).map λd=>(d,xs.dropLast)|_=>none
def gB:List TN->List TN->Option (TN×List TN):=λxs ds=>match ds with|[.int i]=>if 0<=i/\i<1000000000 then(xs[i.toNat]?).map λd=>(d,xs.eraseIdx i.toNat) else none|_=>none
theorem ID:BH K FZ gB:=by intro F H l xs ys ds z vs us Q hF sm hl d1 d2 hg q;unfold gB at hg;match ds,hg,d2 with
 |[.int i],hg,d2=>
  simp only[aW,DA]at d2;obtain⟨w,r,rfl,rfl,rfl⟩:=d2;dsimp only at hg;split at hg;case isFalse=>cases hg
  case isTrue hlt=>obtain⟨d,h1,h2⟩:=TB hg;cases h2;obtain⟨v,g1,g2⟩:=d1.get h1;have hlt2:i.toNat<vs.length:=(TC g1).1;exact⟨l,vs,i,i.toNat,v,rfl,rfl,hl,by lia,by lia,seqIndex_of hlt.1 ↥0,g1,q _ _ g2 (d1.erase _)⟩
end
inductive Fl where|nx (e:En)|bk (e:En)|ct (e:En)|rt (r:Rv) (e:En)
abbrev FS:=En->Option Fl
structure er (W:List Nat) (σ:L2.St) (F H:Hp) (e:En) (σ':L2.St) (F' H':Hp) (e':En):Prop where
 sf:aF F F'
 dom:∀a,H' a=none->H a=none
 fr:∀a vs,F a=none->H a=some (.lst vs)->¬c9 σ e H a->F' a=none
 lst:∀a vs,H a=some (.lst vs)->∃vs',H' a=some (.lst vs')tmp:∀a o,H a=some o->¬c9 σ e H a->H' a=some o
 own:∀a,c9 σ' e' H' a->c9 σ e H a\/H a=none
 wr:∀j,j∉W->σ'[j]?=σ[j]?
 fd:∀a m,F a=none->H a=some (.dK m)->¬c9 σ e H a->F' a=none
section
variable{K:⇑0}{W W1 W2:List Nat}{σ σ1 σ2 σ':L2.St}{H0 F H F1 H1 F2 H2 F' H':Hp}{e e1 e2 e':En}
theorem er.refl:er W σ F H e σ F H e:=⟨aF.refl _,λ_ h=>h,λ_ _ h _ _=>h,λ_ vs h=>⟨vs,h⟩,λ_ _ h _=>h,λ_ h=>.inl h,λ_ _=>rfl,λ_ _ h _ _=>h⟩
theorem hV.s(x:hV σ F H e F' H' e'):er W σ F H e σ F' H' e':=⟨x.sf,x.dom,x.fr,x.lst,x.tmp,x.ow,λ_ _=>rfl,x.fd⟩
theorem er.trans(x:er W σ F H e σ1 F1 H1 e1)(y:er W σ1 F1 H1 e1 σ2 F2 H2 e2):er W σ F H e σ2 F2 H2 e2:=⟨x.sf.trans y.sf,λa h=>x.dom a (y.dom a h),λa vs h n no=>let⟨vs',q⟩:=x.lst a vs n;y.fr a vs' (x.fr a vs h n no) q (λz=>(x.own a z).elim no λz=>by rw[n]at z;cases z),λa vs h=>let⟨vs',q⟩:=x.lst a vs h;y.lst a vs' q,λa o h n=>y.tmp a o (x.tmp a o h n) (λz=>(x.own a z).elim n λz=>by rw[h]at z;cases z),λa h=>(y.own a h).elim (x.own a) (λz=>.inr (x.dom a z)),λj h=>(y.wr j h).trans (x.wr j h),λa m h n no=>y.fd a m (x.fd a m h n no) (x.tmp a _ n no) (λz=>(x.own a z).elim no λz=>by rw[n]at z;cases z)⟩
theorem er.mono(x:er W1 σ F H e σ' F' H' e')(h:∀j,j∈W1->j∈W):er W σ F H e σ' F' H' e':=⟨x.sf,x.dom,x.fr,x.lst,x.tmp,x.own,λj n=>x.wr j λz=>n (h j z),x.fd⟩
end
def tR(K:⇑0)(W:List Nat)(σ:L2.St)(F H:Hp)(e:En)(D:yY):Fl->Prop|.nx e'=>∀F' H' σ',er W σ F H e σ' F' H' e'->bz K F' H' σ' e'->D.nx σ' H'|.bk e'=>∀F' H' σ',er W σ F H e σ' F' H' e'->bz K F' H' σ' e'->D.bk σ' H'|.ct e'=>∀F' H' σ',er W σ F H e σ' F' H' e'->bz K F' H' σ' e'->D.ct σ' H'|.rt r e'=>∀F' H' σ' v,er W σ F H e σ' F' H' e'->bz K F' H' σ' e'->dt K σ' H F' H' e' r v->D.rt v H'
def fS(K:⇑0)(f:FS)(W:List Nat):TS:=λD σ H=>∃F e fl,bz K F H σ e/\f e=some fl/\tR K W σ F H e D fl
theorem PS.mono{X:Cx}{st:Ub}{t t':TS}(h:PS X st t)(m:∀D σ H,t' D σ H->t D σ H):PS X st t':=λpins s σ H D I q=>h pins s σ H D I (m D σ H q)
theorem sk.mono{X:Cx}{st:List Ub}{t t':TS}(h:sk X st t)(m:∀D σ H,t' D σ H->t D σ H):sk X st t':=λpins s σ H D I q=>h pins s σ H D I (m D σ H q)
theorem tR.later{K:⇑0}{W W1 W2:List Nat}{σ σ1:L2.St}{F H F1 H1:Hp}{e e1:En}{D:yY}{fl:Fl}(h:tR K W σ F H e D fl)(x:er W1 σ F H e σ1 F1 H1 e1)(h1:∀j,j∈W1->j∈W)(h2:∀j,j∈W2->j∈W):tR K W2 σ1 F1 H1 e1 D fl:=by cases fl with|nx e'=>exactλF' H' σ' y R=>h F' H' σ' ((x.mono h1).trans (y.mono h2)) R|bk e'=>exactλF' H' σ' y R=>h F' H' σ' ((x.mono h1).trans (y.mono h2)) R|ct e'=>exactλF' H' σ' y R=>h F' H' σ' ((x.mono h1).trans (y.mono h2)) R|rt r e'=>exactλF' H' σ' v y R A=>h F' H' σ' v ((x.mono h1).trans (y.mono h2)) R (A.weak x.dom)
section
variable{X:Cx}{K:⇑0}{W W1 W2:List Nat}{st:Ub}{iL:List Ub}{f g:FS}{a b:TU}{fa:FE}{ft:FT}{pos:Pos}
def dm:FS:=λe=>some (.nx e)
def aC(f g:FS):FS:=λe=>(f e).bind λfl=>match fl with|.nx e1=>g e1|fl=>some fl
theorem bv:sk X [] (fS K dm []):=IG.mono λD σ H h=>by obtain⟨F,e,fl,R,hf,q⟩:=h;cases hf;exact q F H σ er.refl R
theorem ag(h1:PS X st (fS K f W1))(h2:sk X iL (fS K g W2)):sk X (st::iL) (fS K (aC f g) (W1++W2)):=(FN h1 h2).mono λD σ H h=>by obtain⟨F,e,fl,R,hf,q⟩:=h;unfold aC at hf;obtain⟨fl1,h1,hf⟩:=Tz hf;have s1:∀j,j∈W1->j∈W1++W2:=λj h=>Vq.mpr (.inl h);have s2:∀j,j∈W2->j∈W1++W2:=λj h=>Vq.mpr (.inr h);refine⟨F,e,fl1,R,h1,?_⟩;cases fl1 with|nx e1=>exactλF' H' σ' x R'=>⟨F',e1,fl,R',hf,q.later x s1 s2⟩|bk e1=>cases hf;exactλF' H' σ' x R'=>q F' H' σ' (x.mono s1) R'|ct e1=>cases hf;exactλF' H' σ' x R'=>q F' H' σ' (x.mono s1) R'|rt r e1=>cases hf;exactλF' H' σ' v x R' A=>q F' H' σ' v (x.mono s1) R' A
theorem aj(h1:PS X st (fS K f W)):sk X [st] (fS K f W):=IH h1
def dr(fa:FE):FS:=λe=>(fa e).map λp=>.nx p.2
theorem ee(he:PE X a (fE K fa))(hs:Ws a none pos.line X.env=pure false):PS X (.Expr a pos) (fS K (dr fa) []):=(IF he hs).mono λD σ H h=>by obtain⟨F,e,fl,R,hf,q⟩:=h;obtain⟨⟨x,e1⟩,h1,hf⟩:=TB hf;cases hf;exact⟨F,e,x,e1,R,h1,λF1 H1 v X1 R1 A1=>q F1 H1 σ X1.s R1⟩
def a_(fa:FE):FS:=λe=>(fa e).map λp=>.rt p.1 p.2
theorem az(he:PE X a (fE K fa)):PS X (.Return (some a) pos) (fS K (a_ fa) []):=(Lp he).mono λD σ H h=>by obtain⟨F,e,fl,R,hf,q⟩:=h;obtain⟨⟨x,e1⟩,h1,hf⟩:=TB hf;cases hf;exact⟨F,e,x,e1,R,h1,λF1 H1 v X1 R1 A1=>q F1 H1 σ v X1.s R1 A1⟩
def kD(ft:FT)(f g:FS):FS:=λe=>(ft e).bind λp=>if p.1=true then f p.2 else g p.2
theorem df{c:TU}{bs cs:List Ub}(hc:PT X c (fT K ft))(ha:sk X bs (fS K f W1))(hb:sk X cs (fS K g W2)):PS X (.If c bs cs pos) (fS K (kD ft f g) (W1++W2)):=(MT hc ha hb).mono λD σ H h=>by obtain⟨F,e,fl,R,hf,q⟩:=h;unfold kD at hf;obtain⟨⟨x,e1⟩,h1,hf⟩:=Tz hf;refine⟨F,e,x,e1,R,h1,λF1 H1 X1 R1=>?_⟩;cases x with|true=>exact⟨F1,e1,fl,R1,hf,q.later (W1:=[]) X1.s (λj h=>by cases h) λj h=>Vq.mpr (.inl h)⟩|false=>exact⟨F1,e1,fl,R1,hf,q.later (W1:=[]) X1.s (λj h=>by cases h) λj h=>Vq.mpr (.inr h)⟩
def vL(i:Nat)(r:Rv)(e:En):Option En:=match r with|.d x=>some (e.set i (some (.d x)))|.l xs=>some (e.set i (some (.l xs)))|.s _=>none
theorem Bn{σ:L2.St}{H F H1 F1:Hp}{e e1 e2:En}{i:Nat}{r:Rv}{v:V}(R:bz K F H σ e)(X1:hV σ F H e F1 H1 e1)(R1:bz K F1 H1 σ e1)(A1:dt K σ H F1 H1 e1 r v)(h:vL i r e1=some e2):er [i] σ F H e (σ.set i (some v)) F1 H1 e2/\bz K F1 H1 (σ.set i (some v)) e2:=by
 have wr:∀j,j∉[i]->(σ.set i (some v))[j]?=σ[j]?:=λj n=>UA (λz=>n (by simp[z]))
 cases r with|d x=>cases h;obtain⟨R2,o2⟩:=R1.setD i A1;exact⟨⟨X1.sf,X1.dom,X1.fr,X1.lst,X1.tmp,λa h=>X1.ow a (o2 a h),wr,X1.fd⟩,R2⟩|l xs=>
  cases h;obtain⟨l,vs,rfl,h1,h2,h3,h4,h5⟩:=A1;obtain⟨R2,o2⟩:=R1.setL i h2 h3 h4 h5;refine⟨⟨X1.sf,X1.dom,X1.fr,X1.lst,X1.tmp,λa h=>?_,wr,X1.fd⟩,R2⟩;rcases o2 a h with z|z;·exact X1.ow a z
  ·exact .inr (by rw[z];exact h1)|s j=>cases h
def a8(i:Nat)(fa:FE):FS:=λe=>(fa e).bind λp=>(vL i p.1 p.2).map .nx
theorem aE{i:Nat}{x:Str}{pos':Pos}(hN:X.N.Nodup)(hi:X.N[i]?=some x)(hx:Kg X.env.scope x)(he:PE X a (fE K fa))(hs:Ws a (some (.Name x pos')) pos.line X.env=pure false)(hf:X.fn x=true\/X.env.scope.names.lookup x=some .local):PS X (.Assign [.Name x pos'] a pos) (fS K (a8 i fa) [i]):=(FK hN hi hx he hs hf).mono λD σ H h=>by obtain⟨F,e,fl,R,hf,q⟩:=h;unfold a8 at hf;obtain⟨⟨r,e1⟩,h1,hf⟩:=Tz hf;obtain⟨e2,h2,hf⟩:=TB hf;cases hf;refine⟨F,e,r,e1,R,h1,λF1 H1 v X1 R1 A1=>?_⟩;obtain⟨x,R2⟩:=Bn R X1 R1 A1 h2;exact q F1 H1 _ x R2
abbrev FG:=TN->En->Option En
def fG(K:⇑0)(g:FG)(W:List Nat):TG:=λv σ H Q=>∃F e x e',bz K F H σ e/\DA K F x v/\g x e=some e'/\∀σ',er W σ F H e σ' F H e'->bz K F H σ' e'->Q σ' H
abbrev Jy:=List TN->En->Option En
def NE(K:⇑0)(g:Jy)(W:List Nat):G5:=λvs σ H Q=>∃F e xs e',bz K F H σ e/\aW K F xs vs/\g xs e=some e'/\∀σ',er W σ F H e σ' F H e'->bz K F H σ' e'->Q σ' H
theorem PG.mono{tg:TU}{t t':TG}(h:PG X tg t)(m:∀v σ H Q,t' v σ H Q->t v σ H Q):PG X tg t':=λpins s σ H v u Q I r q=>h pins s σ H v u Q I r (m v σ H Q q)
theorem DR.mono{tg:List TU}{t t':G5}(h:DR X tg t)(m:∀v σ H Q,t' v σ H Q->t v σ H Q):DR X tg t':=λpins s σ H v u Q I r q=>h pins s σ H v u Q I r (m v σ H Q q)
def af(i:Nat):FG:=λx e=>some (e.set i (some (.d x)))
def aN:Jy:=λxs e=>match xs with|[]=>some e|_=>none
def am(g:FG)(gs:Jy):Jy:=λxs e=>match xs with|x::r=>(g x e).bind λe1=>gs r e1|_=>none
def aO(gs:Jy):FG:=λx e=>match x with|.tuple xs=>gs xs e|_=>none
theorem aq{i:Nat}{x:Str}(hN:X.N.Nodup)(hi:X.N[i]?=some x)(hx:Kg X.env.scope x)(hf:X.fn x=true\/X.env.scope.names.lookup x=some .local):PG X (.Name x pos) (fG K (af i) [i]):=(Iu hN hi hx hf).mono λv σ H Q h=>by obtain⟨F,e,x,e',R,hx,hg,q⟩:=h;cases hg;obtain⟨R2,o2⟩:=R.setD i hx;exact q _ ⟨aF.refl _,λ_ h=>h,λ_ _ h _ _=>h,λ_ vs h=>⟨vs,h⟩,λ_ _ h _=>h,λa h=>.inl (o2 a h),λj n=>UA (λz=>n (by simp[z])),λ_ _ h _ _=>h⟩ R2
theorem bB:DR X [] (NE K aN []):=Iy.mono λv σ H Q h=>by
 obtain⟨F,e,x,e',R,hx,hg,q⟩:=h;unfold aN at hg;split at hg;·cases hg;simp only[aW]at hx;exact⟨hx,q σ er.refl R⟩
 ·cases hg
theorem au{es:List TU}{g1:FG}{gs:Jy}(h1:PG X a (fG K g1 W1))(h2:DR X es (NE K gs W2))(hs:(Vv (a::es) X.env).map (·.2)=Vr a X.env::(Vv es X.env).map (·.2)):DR X (a::es) (NE K (am g1 gs) (W1++W2)):=(Fz h1 h2 hs).mono λv σ H Q h=>by obtain⟨F,e,xs,e',R,hx,hg,q⟩:=h;unfold am at hg;match xs,hg,hx with|x::r,hg,hx=>simp only[aW]at hx;obtain⟨w,ws,e1,hw,hr⟩:=hx;dsimp only at hg;obtain⟨e1',h3,h4⟩:=Tz hg;refine⟨w,ws,e1,F,e,x,e1',R,hw,h3,λσ1 x1 R1=>⟨F,e1',r,e',R1,hr,h4,λσ2 x2 R2=>?_⟩⟩;exact q σ2 ((x1.mono λj h=>Vq.mpr (.inl h)).trans (x2.mono λj h=>Vq.mpr (.inr h))) R2
theorem ce{es:List TU}{k n:Nat}{gs:Jy}(hK:X.K=K)(hc:X.calm=true)(h:DR X es (NE K gs W))(hl:∀xs e e',gs xs e=some e'->xs.length=n)(hn:(Vv es X.env).length=n)(hst:(Vv es X.env).findIdx? (·.1)=none):PG X (.Tuple es k pos) (fG K (aO gs) W):=(Iw hK hc h hn hst).mono λv σ H Q h=>by obtain⟨F,e,x,e',R,hx,hg,q⟩:=h;unfold aO at hg;match x,hg,hx with|.tuple xs,hg,hx=>obtain⟨p,vs,e1,e2,e3⟩:=dk.mp hx;exact⟨p,vs,e1,R.sm.tup e2,by rw[<-e3.len];exact hl xs e e' hg,F,e,xs,e',R,e3,hg,q⟩
theorem b_(xs:List TN)(e e':En)(h:aN xs e=some e'):xs.length=0:=by
 unfold aN at h;split at h;·rfl
 ·cases h
theorem aB{g:FG}{gs:Jy}{n:Nat}(hl:∀xs e e',gs xs e=some e'->xs.length=n)(xs:List TN)(e e':En)(h:am g gs xs e=some e'):xs.length=n+1:=by unfold am at h;match xs,h with|x::r,h=>obtain⟨e1,h3,h4⟩:=Tz h;simp[hl r e1 e' h4]
def ky(fa:FE)(g:FG):FS:=λe=>(fa e).bind λp=>match p.1 with|.d x=>(g x p.2).map .nx|_=>none
theorem jF{tg:TU}{g:FG}(he:PE X a (fE K fa))(hg:PG X tg (fG K g W))(hs:Xg [tg] a pos.line X.env=pure false)(hw:Xh [tg] a X.env=pure none)(h1:(Vv [tg] X.env).map (·.2)=[Vr tg X.env]):PS X (.Assign [tg] a pos) (fS K (ky fa g) W):=(Bm he hg hs hw h1).mono λD σ H h=>by obtain⟨F,e,fl,R,hf,q⟩:=h;unfold ky at hf;obtain⟨⟨r,e1⟩,h1,hf⟩:=Tz hf;match r,h1,hf with|.d x,h1,hf=>obtain⟨e2,h2,hf⟩:=TB hf;cases hf;exact⟨F,e,_,e1,R,h1,λF1 H1 v X1 R1 A1=>⟨F1,e1,x,e2,R1,A1,h2,λσ' x2 R2=>q F1 H1 σ' (X1.s.trans x2) R2⟩⟩
def sE(i j:Nat)(fs:FA):FS:=λe=>(fs e).bind λp=>match p.1 with|[.d x,.d y]=>some (.nx ((p.2.set i (some (.d x))).set j (some (.d y))))|_=>none
theorem FX{i j:Nat}{x y:Str}{fs:FA}{px py pt:Pos}{kt k2 pt2}(hc:X.calm=true)(hN:X.N.Nodup)(hi:X.N[i]?=some x)(hj:X.N[j]?=some y)(hij:i≠j)(hx:X.env.scope.names.lookup x=some .local)(hy:X.env.scope.names.lookup y=some .local)(ha:PA X [a,b] (fA K fs))(hw:Xh [.Tuple [.Name x px,.Name y py] kt pt] (.Tuple [a,b] k2 pt2) X.env=pure (some [x,y]))(hs:Xg [.Tuple [.Name x px,.Name y py] kt pt] (.Tuple [a,b] k2 pt2) pos.line X.env=pure false):PS X (.Assign [.Tuple [.Name x px,.Name y py] kt pt] (.Tuple [a,b] k2 pt2) pos) (fS K (sE i j fs) [i,j]):=(Lo hc hN hi hj hij hx hy ha hw hs).mono λD σ H h=>by obtain⟨F,e,fl,R,hf,q⟩:=h;unfold sE at hf;obtain⟨⟨rs,e1⟩,h1,hf⟩:=Tz hf;refine⟨F,e,rs,e1,R,h1,λF1 H1 vs X1 R1 A1=>?_⟩;match rs,hf,A1 with|[.d x,.d y],hf,A1=>cases hf;obtain⟨v,u,rfl,a1,a2⟩:=s_ A1;obtain⟨R2,o2⟩:=R1.setD i a1;obtain⟨R3,o3⟩:=R2.setD j a2;refine⟨v,u,rfl,q F1 H1 _ ⟨X1.sf,X1.dom,X1.fr,X1.lst,X1.tmp,λa h=>X1.ow a (o2 a (o3 a h)),λm n=>?_,X1.fd⟩ R3⟩;rw[UA (λz=>n (by simp[z])),UA (λz=>n (by simp[z]))]
def ox:Rv->Option TN|.d x=>some x|.l xs=>some (.list xs)|.s _=>none
theorem m5{r:Rv}{d:TN}(h:ox r=some d):jx [r]=some [d]:=by cases r with|d x=>cases h;rfl|l xs=>cases h;rfl|s i=>cases h
def lN(e:En):Rv->Option (Nat×List TN)
 |.s n=>match e[n]? with|some (some (.l xs))=>some (n,xs)|_=>none
 |_=>none
theorem xf{e:En}{r:Rv}{n:Nat}{xs:List TN}(h:lN e r=some (n,xs)):r=.s n/\e[n]?=some (some (.l xs)):=by
 unfold lN at h;split at h
 ·split at h;·rename_i heq;cases h;exact⟨rfl,heq⟩
  ·cases h
 ·cases h
def vO(fa fo fi:FE):FS:=λe=>(fa e).bind λp=>(ox p.1).bind λd=>(fo p.2).bind λo=>(fi o.2).bind λi=>(bU i.1).bind λk=>(lN i.2 o.1).bind λs=>(oz s.2.length k).map λj=>.nx (i.2.set s.1 (some (.l (s.2.set j d))))
theorem yB{o i:TU}{fo fi:FE}{ps:Pos}(he:PE X a (fE K fa))(ho:PE X o (fE K fo))(hi:PE X i (fE K fi))(ha:∀v,Vr (.Subscript o i ps) X.env v=(do
 let ov<-VR [v] (Ui o X.env)let iv<-VR [v,ov] (Ui i X.env)Wh ps
 VR [v,ov,iv] (setItem ov iv v)release [v,ov,iv] []))(hs:Xg [.Subscript o i ps] a pos.line X.env=pure false)(hw:Xh [.Subscript o i ps] a X.env=pure none)(h1:(Vv [.Subscript o i ps] X.env).map (·.2)=[Vr (.Subscript o i ps) X.env]):PS X (.Assign [.Subscript o i ps] a pos) (fS K (vO fa fo fi) []):=(Bm he (Fy ho hi An ha) hs hw h1).mono λD σ H h=>by obtain⟨F,e,fl,R,hf,q⟩:=h;unfold vO at hf;obtain⟨⟨r,e1⟩,g1,hf⟩:=Tz hf;obtain⟨d,g2,hf⟩:=Tz hf;obtain⟨⟨ro,e2⟩,g3,hf⟩:=Tz hf;obtain⟨⟨ri,e3⟩,g4,hf⟩:=Tz hf;obtain⟨k,g5,hf⟩:=Tz hf;obtain⟨⟨n,xs⟩,g6,hf⟩:=Tz hf;obtain⟨j,g7,hf⟩:=TB hf;cases hf;obtain⟨z6,g6'⟩:=xf g6;dsimp only at z6 g6';subst z6;refine⟨F,e,r,e1,R,g1,λF1 H1 v X1 R1 A1=>?_⟩;refine⟨F1,e1,_,e2,R1,g3,λF2 H2 u X2 R2 A2=>⟨F2,e2,ri,e3,R2,g4,λF3 H3 w X3 R3 A3=>?_⟩⟩;have X12:=X1.trans X2;have X13:=X12.trans X3;have A1':=(A1.ext X2).ext X3;obtain⟨F4,R4,s4,d4,f4⟩:=eC.frozen R3 (rs:=[r]) (vs:=[v]) ⟨v,[],rfl,A1',rfl⟩ (m5 g2);obtain⟨h1,_⟩:=A2;obtain⟨l,vs,k1,k2,k3,k4⟩:=R4.own n xs g6';rw[h1]at k1;cases k1;simp only[aW]at d4;obtain⟨v',r',e',hv,_⟩:=d4;cases e';refine⟨l,vs,k,j,rfl,cN A3 g5,k3,by rw[<-k4.len];exact g7,?_⟩;obtain⟨R5,X5⟩:=R4.putL g6' h1 (k4.set hv j);exact q _ _ σ ((X13.frz s4 f4).trans X5).s R5
def lP(ft:FT)(f:FS):Nat->FS|0,_=>none|n+1,e=>(ft e).bind λp=>if p.1=true then(f p.2).bind λfl=>match fl with|.nx e1=>lP ft f n e1|.ct e1=>lP ft f n e1|.bk e1=>some (.nx e1)|.rt r e1=>some (.rt r e1)else some (.nx p.2)
def eZ(n:Nat)(ft:FT)(f:FS):FS:=lP ft f n
theorem jG{n:Nat}{c:TU}{body:List Ub}(hp:PassesOwn (TZ X.prog X.w) X.A X.env X.xe)(hc:PT X c (fT K ft))(hb:sk X body (fS K f W)):PS X (.While c body [] pos) (fS K (eZ n ft f) W):=(FL hp hc hb).mono λD σ H h=>by refine⟨λm σ H=>∃F e fl,bz K F H σ e/\lP ft f m e=some fl/\tR K W σ F H e D fl,⟨n,h⟩,?_⟩;rintro m σ H⟨F,e,fl,R,hf,q⟩;cases m with|zero=>cases hf|succ m=>
 unfold lP at hf;obtain⟨⟨x,e1⟩,h1,hf⟩:=Tz hf;refine⟨F,e,x,e1,R,h1,λF1 H1 X1 R1=>?_⟩;have sub:∀j,j∈([]:List Nat)->j∈W:=λj h=>by cases h
 cases x with|false=>rw[if_neg ↥1]at hf;cases hf;exact HA (q F1 H1 σ X1.s R1)|true=>rw[if_pos rfl]at hf;refine HB ?_;obtain⟨fl1,h2,hf⟩:=Tz hf;have q1:tR K W σ F1 H1 e1 D fl:=q.later (W1:=[]) X1.s sub λj h=>h;refine⟨λσ' H'=>∃F' e',bz K F' H' σ' e'/\lP ft f m e'=some fl/\tR K W σ' F' H' e' D fl,λσ' H'⟨F',e',r1,r2,r3⟩=>⟨m,Nat.lt_succ_self m,F',e',fl,r1,r2,r3⟩,F1,e1,fl1,R1,h2,?_⟩;cases fl1 with|nx e2=>exactλF2 H2 σ2 x R2=>⟨F2,e2,R2,hf,q1.later x (λj h=>h) λj h=>h⟩|ct e2=>exactλF2 H2 σ2 x R2=>⟨F2,e2,R2,hf,q1.later x (λj h=>h) λj h=>h⟩|bk e2=>cases hf;exactλF2 H2 σ2 x R2=>q1 F2 H2 σ2 x R2|rt r e2=>cases hf;exactλF2 H2 σ2 v x R2 A=>q1 F2 H2 σ2 v x R2 A
end
theorem PI.mono{X:Cx}{tg iter:TU}{t t':TI}(h:PI X tg iter t)(m:∀σ H R,t' σ H R->t σ H R):PI X tg iter t':=λpins s σ H R I q=>h pins s σ H R I (m σ H R q)
theorem PI.or{X:Cx}{tg iter:TU}{t t':TI}(h:PI X tg iter t)(h':PI X tg iter t'):PI X tg iter (λσ H R=>t σ H R\/t' σ H R):=λpins s σ H R I q=>by
 rcases q with q|q;·exact h pins s σ H R I q
 ·exact h' pins s σ H R I q
abbrev kG:=List (Nat×List TN)
def CH(K:⇑0)(σ:L2.St)(F H:Hp)(own:kG):Prop:=∀p∈own,∃l vs,σ[p.1]?=some (some (.ref l))/\H l=some (.lst vs)/\aW K F p.2 vs
def AI(K:⇑0)(σ:L2.St)(J:It)(items:List TN)(own:kG)(F0:Hp):Prop:=∀F H,aF F0 F->aF F H->CH K σ F H own->(∀i,i<items.length->J.go i H)/\(∀i,items.length<=i->J.stop i H)/\∀i d x H',items[i]?=some d->J.yld i H x H'->∃F',aF H H'/\aF F F'/\aF F' H'/\(∀a,F a=none->H a≠none->F' a=none)/\DA K F' d x
abbrev FI:=En->Option (List TN×kG×En)
def keeps(own:kG)(e:En):Prop:=∀p∈own,e[p.1]?=some (some (.l p.2))
def fI(K:⇑0)(f:FI):TI:=λσ H R=>∃F e items own e',bz K F H σ e/\f e=some (items,own,e')/\∀J F' H',hV σ F H e F' H' e'->bz K F' H' σ e'->keeps own e'->AI K σ J items own F'->R J H'
section
variable{K:⇑0}{σ:L2.St}{H0 F H F' H':Hp}{e e':En}
theorem bz.held(R:bz K F H σ e){own:kG}(h:keeps own e):CH K σ F H own:=λp hp=>by obtain⟨l,vs,h1,h2,h3,h4⟩:=R.own p.1 p.2 (h p hp);exact⟨l,vs,h1,h3,h4⟩
theorem bz.step(R:bz K F H σ e)(s:aF H H')(sF:aF F F')(sm:aF F' H')(fz:∀a,F a=none->H a≠none->F' a=none):bz K F' H' σ e/\hV σ F H e F' H' e:=by obtain⟨R',o'⟩:=R.keep sF sm (λa⟨i,h⟩=>by obtain⟨h1,vs,h2⟩:=R.fpAt h;exact fz a h1 (by rw[h2];simp)) λa o _ h=>s a o h;exact⟨R',⟨sF,λa h=>s.free h,λa vs h1 h2 _=>fz a h1 (by rw[h2];simp),λa vs h=>⟨vs,s _ _ h⟩,λa o h _=>s a o h,λ_=>Iff.rfl,λa h=>.inl ((o' a).mp h),λa m h1 h2 _=>fz a h1 (by rw[h2];simp)⟩⟩
inductive D2 (K:⇑0) (σ:L2.St) (F:Hp) (p:TM):Bool->List TN->kG->Prop|tup{xs vs}:fj K F p vs->aW K F xs vs->D2 K σ F p false xs []|lst{xs vs}:jU K F p vs->aW K F xs vs->D2 K σ F p true xs []|own{i xs}:σ[i]?=some (some (.ref p))->D2 K σ F p true xs [(i,xs)]
theorem D2.at{p:TM}{b:Bool}{xs:List TN}{own:kG}{F0:Hp}(h:D2 K σ F0 p b xs own)(s0:aF F0 F)(s1:aF F H){own':kG}(hh:CH K σ F H own')(hs:∀q∈own,q∈own'):∃vs,aW K F xs vs/\(if b=true then jU K H p vs else fj K H p vs):=by cases h with|tup h1 h2=>exact⟨_,h2.mono s0,(s0.trans s1).tup h1⟩|lst h1 h2=>exact⟨_,h2.mono s0,(s0.trans s1).seq h1⟩|@own i xs h1=>obtain⟨l,vs,g1,g2,g3⟩:=hh (i,xs) (hs (i,xs) ↥1);dsimp only at g1 g3;rw[h1]at g1;cases g1;exact⟨vs,g3,.inl (.inl g2)⟩
def Ja(e:En):Rv->Option (Bool×List TN×kG)
 |.d (.tuple xs)=>some (false,xs,[])|.d (.list xs)=>some (true,xs,[])|.l xs=>some (true,xs,[])|.s i=>match e[i]? with|some (some (.l xs))=>some (true,xs,[(i,xs)])|_=>none
 |_=>none
theorem yF{r:Rv}{v:V}{b:Bool}{xs:List TN}{own:kG}(R:bz K F H σ e)(A:dt K σ H0 F H e r v)(h:Ja e r=some (b,xs,own)):∃F' p,bz K F' H σ e/\aF F F'/\(∀a,F a=none->H0 a≠none->F' a=none)/\v=.ref p/\D2 K σ F' p b xs own/\keeps own e:=by cases r with
 |d x=>cases x with|tuple ds=>cases h;obtain⟨a,ys,e1,e2,e3⟩:=dk.mp A;exact⟨F,a,R,aF.refl _,λ_ h _=>h,e1,.tup e2 e3,λp hp=>by cases hp⟩|list ds=>cases h;obtain⟨a,ys,e1,e2,e3⟩:=dD.mp A;exact⟨F,a,R,aF.refl _,λ_ h _=>h,e1,.lst e2 e3,λp hp=>by cases hp⟩|_=>cases h
 |l ys=>cases h;obtain⟨F',R',s',d',f'⟩:=A.frozen R;obtain⟨a,ys,e1,e2,e3⟩:=dD.mp d';exact⟨F',a,R',s',f',e1,.lst e2 e3,λp hp=>by cases hp⟩|s i=>obtain⟨h1,ys,h2⟩:=A;simp only[Ja,h2]at h;cases h;obtain⟨l,vs,e1,e2,e3,e4⟩:=R.own i _ h2;rw[h1]at e1;cases e1;exact⟨F,l,R,aF.refl _,λ_ h _=>h,rfl,.own h1,λp hp=>by simp only[YN]at hp;subst hp;exact h2⟩
theorem wM{p:TM}{xs:List TN}{own:kG}{F0:Hp}(h:D2 K σ F0 p true xs own):AI K σ (NN K p) xs own F0:=by intro F H s0 s1 hh;obtain⟨vs,d,q⟩:=h.at s0 s1 hh λ_ h=>h;have q:jU K H p vs:=q;refine⟨λi hi=>⟨vs,vs[i]'(by rw[<-d.len];exact hi),q,Um _⟩,λi hi=>⟨vs,q,by rw[<-d.len];exact hi⟩,λi x v H' hx hy=>?_⟩;obtain⟨rfl,hy⟩:=hy;obtain⟨w,g1,g2⟩:=d.get hx;have e:=hy vs q;rw[g1]at e;cases e;exact⟨F,aF.refl _,aF.refl _,s1,λ_ h _=>h,g2⟩
theorem EM{p:TM}{xs:List TN}{own:kG}{F0:Hp}(h:D2 K σ F0 p false xs own):AI K σ (NO K p) xs own F0:=by intro F H s0 s1 hh;obtain⟨vs,d,q⟩:=h.at s0 s1 hh λ_ h=>h;have q:fj K H p vs:=q;refine⟨λi hi=>⟨vs,vs[i]'(by rw[<-d.len];exact hi),q,Um _⟩,λi hi=>⟨vs,q,by rw[<-d.len];exact hi⟩,λi x v H' hx hy=>?_⟩;obtain⟨rfl,hy⟩:=hy;obtain⟨w,g1,g2⟩:=d.get hx;have e:=hy vs q;rw[g1]at e;cases e;exact⟨F,aF.refl _,aF.refl _,s1,λ_ h _=>h,g2⟩
theorem zN{p:TM}{x y:V}{a b:TN}(s1:aF F H)(hp:H p=none)(hx:DA K F a x)(hy:DA K F b y):∃F',aF H (cg H p (.tup [x,y]))/\aF F F'/\aF F' (cg H p (.tup [x,y]))/\(∀c,F c=none->H c≠none->F' c=none)/\DA K F' (.tuple [a,b]) (.ref p):=by
 have hF:F p=none:=s1.free hp;have sF:aF F (cg F p (.tup [x,y])):=aF.new hF;refine⟨cg F p (.tup [x,y]),aF.new hp,sF,λb o q=>?_,λc h n=>?_,dk.mpr ⟨p,_,rfl,.inl (.inl aH),.cons (DA.mono sF hx) (.one (DA.mono sF hy))⟩⟩
 ·by_cases z:b=p;·subst z;rw[aH]at q⊢;exact q
  ·rw[aJ z]at q⊢;exact s1 _ _ q
 ·have z:c≠p:=λz=>n (by rw[z];exact hp);rw[aJ z];exact h
def jW:Nat->List TN->List TN|_,[]=>[]|n,x::r=>.tuple [.int n,x]::jW (n+1) r
theorem m7:∀{xs:List TN}{n i:Nat},(jW n xs)[i]?=(xs[i]?).map λx=>.tuple [.int ((n+i:Nat):Int),x]|[],n,i=>by simp[jW]|x::r,n,0=>by simp[jW]|x::r,n,i+1=>by simp only[jW,YV];rw[m7 (xs:=r) (n:=n+1) (i:=i)];congr 1;funext y;rw[show n+1+i=n+(i+1) by lia]
theorem m8:∀(xs:List TN) (n:Nat),(jW n xs).length=xs.length|[],_=>rfl|x::r,n=>by simp[jW,m8 r (n+1)]
def cI:List TN->List TN->List TN|x::r,y::s=>.tuple [x,y]::cI r s|_,_=>[]
theorem mZ:∀{xs ys:List TN}{i:Nat}{d:TN},(cI xs ys)[i]?=some d->∃x y,xs[i]?=some x/\ys[i]?=some y/\d=.tuple [x,y]|[],ys,i,d,h=>by simp[cI]at h|x::r,[],i,d,h=>by simp[cI]at h|x::r,y::s,0,d,h=>by simp only[cI,List.getElem?_cons_zero]at h;cases h;exact⟨x,y,rfl,rfl,rfl⟩|x::r,y::s,i+1,d,h=>by simp only[cI,YV]at h;obtain⟨a,b,h1,h2,h3⟩:=mZ h;exact⟨a,b,by simpa using h1,by simpa using h2,h3⟩
theorem iV:∀(xs ys:List TN),(cI xs ys).length=min xs.length ys.length|[],ys=>by simp[cI]|x::r,[]=>by simp[cI]|x::r,y::s=>by simp[cI,iV r s]
theorem zA{P Q:Hp->TM->List V->Prop}{J:It}{l1 l2:TM}{b1 b2:Bool}{xs ys:List TN}{own1 own2:kG}{F0:Hp}(h1:D2 K σ F0 l1 b1 xs own1)(h2:D2 K σ F0 l2 b2 ys own2)(hP:∀H vs,(if b1=true then jU K H l1 vs else fj K H l1 vs)->P H l1 vs)(hQ:∀H vs,(if b2=true then jU K H l2 vs else fj K H l2 vs)->Q H l2 vs)(go:∀i H vs us x y,P H l1 vs->Q H l2 us->vs[i]?=some x->us[i]?=some y->J.go i H)(stop:∀i H vs us,P H l1 vs->Q H l2 us->(vs.length<=i\/us.length<=i)->J.stop i H)(yld:∀i H v H',J.yld i H v H'->∃p x y,v=.ref p/\H p=none/\H'=cg H p (.tup [x,y])/\∀xs ys,P H l1 xs->Q H l2 ys->xs[i]?=some x/\ys[i]?=some y):AI K σ J (cI xs ys) (own1++own2) F0:=by intro F H s0 s1 hh;obtain⟨vs,d1,q1⟩:=h1.at s0 s1 hh λ_ h=>Vq.mpr (.inl h);obtain⟨us,d2,q2⟩:=h2.at s0 s1 hh λ_ h=>Vq.mpr (.inr h);have q1:=hP H vs q1;have q2:=hQ H us q2;have l1':=d1.len;have l2':=d2.len;rw[iV];refine⟨λi hi=>go i H vs us (vs[i]'↥0) (us[i]'↥0) q1 q2 (Um _) (Um _),λi hi=>stop i H vs us q1 q2 ↥0,λi x v H' hx hy=>?_⟩;obtain⟨t,a,b,rfl,ht,rfl,hy3⟩:=yld i H v H' hy;obtain⟨x',y',hx2,hy',rfl⟩:=mZ hx;obtain⟨w,g1,g2⟩:=d1.get hx2;obtain⟨w',g3,g4⟩:=d2.get hy';obtain⟨e1,e2⟩:=hy3 vs us q1 q2;rw[g1]at e1;cases e1;rw[g3]at e2;cases e2;exact zN s1 ht g2 g4
def bP(lo:Int)(n:Nat):List TN:=(Uu n).map fun(i:Nat)=>.int (lo+(i:Int))
theorem A7{lo:Int}{n:Nat}{F0:Hp}:AI K σ (Ny lo n) (bP lo n) [] F0:=by intro F H s0 s1 hh;unfold bP;rw[Uq,List.length_range];refine⟨λi hi=>hi,λi hi=>hi,λi x v H' hx hy=>?_⟩;obtain⟨rfl,rfl⟩:=hy;rw[Ut]at hx;obtain⟨k,h1,rfl⟩:=TB hx;have h2:=(TC h1).2;simp at h2;subst h2;exact⟨F,aF.refl _,aF.refl _,s1,λ_ h _=>h,bZ.mpr rfl⟩
end
inductive NK (K:⇑0) (own:kG) (σ0:L2.St) (F1:Hp) (P:En->Prop) (G:L2.St->Hp->Hp->En->Prop) (σ:L2.St) (H:Hp):Prop|mk{F:Hp}{e:En}(R:bz K F H σ e) (kp:keeps own e) (hσ:∀p∈own,σ[p.1]?=σ0[p.1]?) (sF:aF F1 F) (hf:P e) (q:G σ F H e):NK K own σ0 F1 P G σ H
section
variable{X:Cx}{K:⇑0}{tg a b:TU}{es:List TU}{fa:FE}{fs:FA}{pos p tp:Pos}{k0:Nat}
def eE(fa:FE):FI:=λe=>(fa e).bind λp=>(Ja p.2 p.1).map λs=>(s.2.1,s.2.2,p.2)
theorem cf(hK:X.K=K)(h:PE X a (fE K fa)):PI X tg a (fI K (eE fa)):=((zX (tg:=tg) hK h).or (IA (tg:=tg) hK h)).mono λσ H R hh=>by obtain⟨F,e,items,own,e',R0,hf,q⟩:=hh;unfold eE at hf;obtain⟨⟨r,e1⟩,h1,hf⟩:=Tz hf;obtain⟨⟨b,xs,ow⟩,h2,hf⟩:=TB hf;cases hf;cases b with|true=>refine .inl ⟨F,e,r,e1,R0,h1,λF1 H1 v X1 R1 A1=>?_⟩;obtain⟨F2,p,R2,s2,f2,rfl,sc,kp⟩:=yF R1 A1 h2;obtain⟨vs,_,c⟩:=sc.at (aF.refl _) R2.sm (R2.held kp) λ_ h=>h;exact⟨p,rfl,⟨vs,c⟩,q _ F2 H1 (X1.frz s2 f2) R2 kp (wM sc)⟩|false=>refine .inr ⟨F,e,r,e1,R0,h1,λF1 H1 v X1 R1 A1=>?_⟩;obtain⟨F2,p,R2,s2,f2,rfl,sc,kp⟩:=yF R1 A1 h2;obtain⟨vs,_,c⟩:=sc.at (aF.refl _) R2.sm (R2.held kp) λ_ h=>h;exact⟨p,rfl,⟨vs,c⟩,q _ F2 H1 (X1.frz s2 f2) R2 kp (EM sc)⟩
def B1(fs:FA):FI:=λe=>(fs e).bind λp=>match p.1 with|[r]=>(Ja p.2 r).map λs=>(jW 0 s.2.1,s.2.2,p.2)|_=>none
def Gg(j:Int):Bool:=decide (-1000000<=j)&&decide (j<=1000000)
theorem Gh{j:Int}(h:Gg j=true):-1000000<=j/\j<=1000000:=by unfold Gg at h;rw[Uw,decide_eq_true_iff,decide_eq_true_iff]at h;exact h
def eS(fs:FA):FI:=λe=>(fs e).bind λp=>match p.1 with|[r]=>(bU r).bind λj=>if Gg j=true then some (bP 0 j.toNat,[],p.2) else none|_=>none
theorem fL(hg:Gl X "range")(hm:X.mg "range"=none)(ha:PA X [a] (fA K fs))(hs:Ue [a] X.env=[(false,Ui a X.env)]):PI X tg (.Call (.Name "range" p) [a] [] pos) (fI K (eS fs)):=(Dq hg hm ha hs).mono λσ H R hh=>by obtain⟨F,e,items,own,e',R0,hf,q⟩:=hh;unfold eS at hf;obtain⟨⟨rs,e1⟩,h1,hf⟩:=Tz hf;match rs,h1,hf with
 |[r],h1,hf=>
 obtain⟨j,h2,hf⟩:=Tz hf;split at hf;case isFalse=>cases hf
 case isTrue hj=>cases hf;refine⟨F,e,_,e1,R0,h1,λF1 H1 vs X1 R1 A1=>?_⟩;obtain⟨v,rfl,A2⟩:=pX A1;have:=Gh hj;exact⟨j,by rw[cN A2 h2],by lia,by lia,q _ F1 H1 X1 R1 (λ_ h=>by cases h) A7⟩
open Classical in
def iX(own:kG)(g:FG)(f:FS):List TN->FS|[],e=>some (.nx e)|x::r,e=>(g x e).bind λe1=>(f e1).bind λfl=>match fl with|.nx e2=>if keeps own e2 then iX own g f r e2 else none|.ct e2=>if keeps own e2 then iX own g f r e2 else none|.bk e2=>some (.nx e2)|.rt v e2=>some (.rt v e2)
def cH(W:List Nat)(fi:FI)(g:FG)(f:FS):FS:=λe=>(fi e).bind λp=>if (p.2.1.all λq=>!W.contains q.1)=true then iX p.2.1 g f p.1 p.2.2 else none
theorem cZ{W1 W2:List Nat}{iter:TU}{body:List Ub}{fi:FI}{g:FG}{f:FS}(hp:PassesOwn (TZ X.prog X.w) X.A X.env X.xe)(hc:X.calm=true)(hi:PI X tg iter (fI K fi))(hg:PG X tg (fG K g W1))(hb:sk X body (fS K f W2))(hs:∀x,Va iter X.env x=pure x):PS X (.For tg iter body [] pos) (fS K (cH (W1++W2) fi g f) (W1++W2)):=(Ln hp hc hi hg hb hs).mono λD σ0 H0 hh=>by
 obtain⟨F0,e0,fl,R0,hf,q0⟩:=hh;unfold cH at hf;obtain⟨⟨items,own,e1⟩,h1,hf⟩:=Tz hf;dsimp only at hf;split at hf;case isFalse=>cases hf
 case isTrue hW=>
 have hW':∀p∈own,p.1∉W1++W2:=λp hp=>by have:=Vd.mp hW p hp;simpa using this
 refine⟨F0,e0,items,own,e1,R0,h1,λJ F1 H1 X1 R1 kp ok=>?_⟩;have s1:∀j,j∈W1->j∈W1++W2:=λj h=>Vq.mpr (.inl h);have s2:∀j,j∈W2->j∈W1++W2:=λj h=>Vq.mpr (.inr h);have q1:tR K (W1++W2) σ0 F1 H1 e1 D fl:=q0.later (W1:=[]) X1.s (λj h=>by cases h) λj h=>h;refine⟨λi m σ H=>m=items.length-i/\i<=items.length/\NK K own σ0 F1 (λe=>iX own g f (items.drop i) e=some fl) (λσ F H e=>tR K (W1++W2) σ F H e D fl) σ H,⟨items.length,by simp,Wv _,.mk R1 kp ↥4 (aF.refl _) hf q1⟩,?_⟩;rintro i m σ H⟨rfl,hi,⟨R,kp,hσ,sF,hf,q⟩⟩;rename_i F e;have held:CH K σ0 F H own:=λp hp=>by obtain⟨l,vs,g1,g2⟩:=R.held kp p hp;exact⟨l,vs,by rw[<-hσ p hp];exact g1,g2⟩
 obtain⟨go,stop,yld⟩:=ok F H sF R.sm held;by_cases hlt:i<items.length
 ·have hd:items.drop i=items[i]::items.drop (i+1):=Yq hlt;rw[hd]at hf;unfold iX at hf;obtain⟨e2,h2,hf⟩:=Tz hf;obtain⟨fl2,h3,hf⟩:=Tz hf;refine .inr ⟨go i hlt,NK K own σ0 F1 (λe=>iX own g f (items.drop (i+1)) e=some fl) (λσ F H e=>tR K (W1++W2) σ F H e D fl),λσ' H' r=>⟨items.length-(i+1),by lia,rfl,hlt,r⟩,λx H' hy=>?_⟩;obtain⟨F',sH,sF',sm',fz,hx⟩:=yld i items[i] x H' (Um hlt) hy;obtain⟨R',X'⟩:=R.step sH sF' sm' fz;refine⟨F',e,items[i],e2,R',hx,h2,λσ2 x2 R2=>⟨F',e2,fl2,R2,h3,?_⟩⟩;have q2:tR K (W1++W2) σ2 F' H' e2 D fl:=(q.later (W1:=[]) (W2:=W1++W2) X'.s (λj h=>by cases h) λj h=>h).later x2 s1 λj h=>h
  have w2:∀p∈own,σ2[p.1]?=σ0[p.1]?:=λp hp=>(x2.wr p.1 λz=>hW' p hp (s1 _ z)).trans (hσ p hp);cases fl2 with|nx e3=>
   intro F3 H3 σ3 x3 R3;dsimp only at hf;split at hf;case isFalse=>cases hf
   case isTrue kp3=>exact .mk R3 kp3 (λp hp=>(x3.wr p.1 λz=>hW' p hp (s2 _ z)).trans (w2 p hp)) (sF.trans (sF'.trans x3.sf)) hf (q2.later x3 s2 λj h=>h)|ct e3=>
   intro F3 H3 σ3 x3 R3;dsimp only at hf;split at hf;case isFalse=>cases hf
   case isTrue kp3=>exact .mk R3 kp3 (λp hp=>(x3.wr p.1 λz=>hW' p hp (s2 _ z)).trans (w2 p hp)) (sF.trans (sF'.trans x3.sf)) hf (q2.later x3 s2 λj h=>h)|bk e3=>cases hf;exactλF3 H3 σ3 x3 R3=>q2 F3 H3 σ3 (x3.mono s2) R3|rt r e3=>cases hf;exactλF3 H3 σ3 v x3 R3 A3=>q2 F3 H3 σ3 v (x3.mono s2) R3 A3
 ·have hd:items.drop i=[]:=Yr ↥0;rw[hd]at hf;cases hf;exact .inl ⟨stop i ↥0,q F H σ er.refl R⟩
end
def A4:Option (Option Sv)->Bool|some (some (.l _))=>true|_=>false
theorem B5{s:Option (Option Sv)}:A4 s=true↔∃xs,s=some (some (.l xs)):=by
 unfold A4;split;·simp
 ·rename_i h;constructor;·intro z;cases z
  ·rintro⟨xs,rfl⟩;exact absurd rfl (h xs)
def oT(pos:Nat->Option Nat)(ei e:En):En:=e.mapIdx λi s=>match s with
 |some (.l xs)=>match pos i with|some k=>(ei[k]?).join|none=>some (.l xs)
 |s=>s
theorem bX{pos:Nat->Option Nat}{ei e:En}{i:Nat}:(oT pos ei e)[i]?=(e[i]?).map λs=>match s with
 |some (.l xs)=>match pos i with|some k=>(ei[k]?).join|none=>some (.l xs)
 |s=>s:=by unfold oT;rw[List.getElem?_mapIdx]
structure y0 (σ:L2.St) (e:En) (σi:L2.St) (ei:En) (pos:Nat->Option Nat):Prop where
 a:∀(i k:Nat) (xs:List TN),e[i]?=some (some (.l xs))->pos i=some k->σi[k]?=σ[i]?
 b:∀(k:Nat) (ys:List TN),ei[k]?=some (some (.l ys))->∃(i:Nat) (xs:List TN),e[i]?=some (some (.l xs))/\pos i=some k/\σi[k]?=σ[i]?
section
variable{K:⇑0}{σ σi σi':L2.St}{F H F' H':Hp}{e ei ei':En}{pos:Nat->Option Nat}
def L_(e:En):Prop:=∀(i:Nat) (xss:List (List TN)),e[i]?≠some (some (.n xss))
theorem y0.own(s:y0 σ e σi ei pos)(hn:L_ ei){a:TM}{H H':Hp}(h:c9 σi ei H a):∃(i k:Nat) (xs:List TN),e[i]?=some (some (.l xs))/\pos i=some k/\σ[i]?=some (some (.ref a)):=by
 obtain⟨k,⟨ys,h1,h2⟩|⟨xss,_,_,h1,_⟩⟩:=h;·obtain⟨i,xs,g1,g2,g3⟩:=s.b k ys h1;exact⟨i,k,xs,g1,g2,by rw[<-g3];exact h2⟩
 ·exact absurd h1 (hn k xss)
theorem uT(R:bz K F H σ e)(s:y0 σ e σi ei pos)(hnn:L_ ei)(sf:aF F F')(dom:∀a,H' a=none->H a=none)(fr:∀a vs,F a=none->H a=some (.lst vs)->¬c9 σi ei H a->F' a=none)(lst:∀a vs,H a=some (.lst vs)->∃vs',H' a=some (.lst vs'))(tmp:∀a o,H a=some o->¬c9 σi ei H a->H' a=some o)(fd:∀a m,F a=none->H a=some (.dK m)->¬c9 σi ei H a->F' a=none)(R':bz K F' H' σi' ei')(hσ:∀(i k:Nat) (xs:List TN),e[i]?=some (some (.l xs))->pos i=some k->σi'[k]?=σi[k]?)(hsh:∀(i k:Nat) (xs:List TN),e[i]?=some (some (.l xs))->pos i=some k->∃ys,ei'[k]?=some (some (.l ys))):bz K F' H' σ (oT pos ei' e)/\hV σ F H e F' H' (oT pos ei' e)/\∀a,c9 σ (oT pos ei' e) H' a->c9 σ e H a:=by
 have shp:∀i:Nat,(∃xs,(oT pos ei' e)[i]?=some (some (.l xs)))↔(∃xs,e[i]?=some (some (.l xs))):=by intro i;rw[bX];match h:e[i]? with
  |none=>simp|some none=>simp|some (some (.d x))=>simp|some (some (.n x))=>simp|some (some (.l xs))=>
   simp only[VB];constructor;·intro _;exact⟨xs,rfl⟩
   ·intro _;match hp:pos i with|none=>exact⟨xs,rfl⟩|some k=>obtain⟨ys,g⟩:=hsh i k xs h hp;exact⟨ys,by show some ((ei'[k]?).join)=_;rw[g];rfl⟩
 have oth:∀(i:Nat) (s:Sv),(∀xs,s≠.l xs)->((oT pos ei' e)[i]?=some (some s)↔e[i]?=some (some s)):=by
  intro i s hs;constructor;·intro h;rw[bX]at h;match h1:e[i]?,h with
   |some (some (.d y)),h=>exact h|some (some (.n y)),h=>exact h|some (some (.l ys)),h=>simp only[VB,WJ]at h;match hp:pos i,h with|none,h=>cases h;exact absurd rfl (hs _)|some k,h=>obtain⟨zs,g⟩:=hsh i k ys h1 hp;change (ei'[k]?).join=_ at h;rw[g]at h;cases h;exact absurd rfl (hs _)
   |some none,h=>simp at h|none,h=>simp at h
  ·intro h;rw[bX,h];cases s with|d y=>rfl|n y=>rfl|l y=>exact absurd rfl (hs y)
 have out:∀i a,Fp σ e H i a->(∀k xs,e[i]?=some (some (.l xs))->pos i≠some k)->¬c9 σi ei H a:=by intro i a hi hp z;obtain⟨j,k,ws,d1,d2,d3⟩:=s.own hnn (H':=H') z;have:i=j:=R.fp i j a hi (.inl ⟨ws,d1,d3⟩);subst this;exact hp k ws d1 d2
 have keep:∀i a o,Fp σ e H i a->(∀k xs,e[i]?=some (some (.l xs))->pos i≠some k)->H a=some o->H' a=some o:=λi a o hi hp ha=>tmp a o ha (out i a hi hp);have sown:∀a,c9 σi ei H a->c9 σ e H a:=λa z=>by obtain⟨j,k,ws,d1,d2,d3⟩:=s.own hnn (H':=H') z;exact⟨j,.inl ⟨ws,d1,d3⟩⟩
 have fs:∀i a,Fp σ (oT pos ei' e) H' i a↔Fp σ e H i a:=by
  intro i a;have key:∀xss l,e[i]?=some (some (.n xss))->σ[i]?=some (some (.ref l))->H' l=H l:=λxss l h1 h2=>by obtain⟨l',bs,g1,g2,g3,_⟩:=R.nst i xss h1;rw[h2]at g1;cases g1;rw[g3];exact keep i l _ (.inr ⟨xss,l,bs,h1,h2,g3,.inl rfl⟩) (λk xs z=>by rw[h1]at z;cases z) g3
  constructor
  ·rintro(⟨xs,h1,h2⟩|⟨xss,l,bs,h1,h2,h3,h4⟩);·obtain⟨ys,h⟩:=(shp i).mp ⟨xs,h1⟩;exact .inl ⟨ys,h,h2⟩
   ·have h1':=(oth i (.n xss) (λ_ z=>nomatch z)).mp h1;exact .inr ⟨xss,l,bs,h1',h2,by rw[<-key xss l h1' h2];exact h3,h4⟩
  ·rintro(⟨xs,h1,h2⟩|⟨xss,l,bs,h1,h2,h3,h4⟩);·obtain⟨ys,h⟩:=(shp i).mpr ⟨xs,h1⟩;exact .inl ⟨ys,h,h2⟩
   ·exact .inr ⟨xss,l,bs,(oth i (.n xss) (λ_ z=>nomatch z)).mpr h1,h2,by rw[key xss l h1 h2];exact h3,h4⟩
 refine⟨⟨R'.sm,?_,λi x h=>?_,λi xs h=>?_,λi xss h=>?_,λi j a h1 h2=>R.fp i j a ((fs i a).mp h1) ((fs j a).mp h2)⟩,⟨sf,dom,λa vs h1 h2 n=>fr a vs h1 h2 λz=>n (sown a z),lst,λa o h n=>tmp a o h λz=>n (sown a z),shp,λa⟨i,h⟩=>.inl ⟨i,(fs i a).mp h⟩,λa m h1 h2 n=>fd a m h1 h2 λz=>n (sown a z)⟩,λa⟨i,h⟩=>⟨i,(fs i a).mp h⟩⟩;·unfold oT;rw[List.length_mapIdx];exact R.len
 ·obtain⟨v,g1,g2⟩:=R.dat i x ((oth i (.d x) (λ_ z=>nomatch z)).mp h);exact⟨v,g1,DA.mono sf g2⟩
 ·obtain⟨ys,h1⟩:=(shp i).mp ⟨xs,h⟩;obtain⟨l,vs,g1,g2,g3,g4⟩:=R.own i ys h1;rw[bX,h1]at h;simp only[VB,WJ]at h;match hp:pos i,h with
  |none,h=>
   cases h;have np:∀k xs,e[i]?=some (some (Sv.l xs))->pos i≠some k:=λk xs _ z=>by rw[hp]at z;cases z
   have fi:Fp σ e H i l:=.inl ⟨_,h1,g1⟩;exact⟨l,vs,g1,fr l vs g2 g3 (out i l fi np),keep i l _ fi np g3,g4.mono sf⟩|some k,h=>obtain⟨zs,c1⟩:=hsh i k ys h1 hp;change (ei'[k]?).join=_ at h;rw[c1]at h;cases h;obtain⟨l',vs',d1,d2,d3,d4⟩:=R'.own k _ c1;rw[hσ i k ys h1 hp,s.a i k ys h1 hp]at d1;exact⟨l',vs',d1,d2,d3,d4⟩
 ·have h1:=(oth i (.n xss) (λ_ z=>nomatch z)).mp h;obtain⟨l,bs,g1,g2,g3,g4,g5,g6,g7⟩:=R.nst i xss h1;have np:∀k xs,e[i]?=some (some (Sv.l xs))->pos i≠some k:=λk xs z=>by rw[h1]at z;cases z
  have fi:Fp σ e H i l:=.inr ⟨xss,l,bs,h1,g1,g3,.inl rfl⟩;refine⟨l,bs,g1,fr l _ g2 g3 (out i l fi np),keep i l _ fi np g3,g4,g5,g6,λk b ys q1 q2=>?_⟩;obtain⟨c1,us,c2,c3⟩:=g7 k b ys q1 q2;have fb:Fp σ e H i b:=.inr ⟨xss,l,bs,h1,g1,g3,.inr (TK q1)⟩;exact⟨fr b _ c1 c2 (out i b fb np),us,keep i b _ fb np c2,c3.mono sf⟩
end
def cK(e:En):List Rv->Option (List Sv)|[]=>some []|.d x::r=>(cK e r).map (.d x::·)|.l xs::r=>(cK e r).map (.d (.list xs)::·)|.s i::r=>match e[i]? with|some (some (.l xs))=>(cK e r).map (.l xs::·)|_=>none
def aT:List Rv->List Nat|[]=>[]|.s i::r=>i::aT r|.d _::r=>aT r|.l _::r=>aT r
def oM(rs:List Rv)(i:Nat):Option Nat:=rs.findIdx? λr=>match r with|.s j=>j==i|_=>false
def noS:Rv->Prop|.s _=>False|_=>True
abbrev FM:=List Sv->Option (Rv×List Sv)
def eu(K:⇑0)(n:Nat)(m:FM):Sp:=λvs H Q _=>vs.length=n/\∃F as r as',bz K F H (vs.map some) (as.map some)/\L_ (as.map some)/\m as=some (r,as')/\noS r/\∀F' H' v,hV (vs.map some) F H (as.map some) F' H' (as'.map some)->bz K F' H' (vs.map some) (as'.map some)->dt K (vs.map some) H F' H' (as'.map some) r v->Q v H'
def bC:List Rv->List Sv->Bool|[],[]=>true|.s _::r,.l _::s=>bC r s|.d _::r,_::s=>bC r s|.l _::r,_::s=>bC r s|_,_=>false
def yl:Rv->Bool|.s _=>false|_=>true
def fm:List Rv->List Sv->En->En|.s i::r,.l ys::s,e=>fm r s (e.set i (some (.l ys)))|.d _::r,_::s,e=>fm r s e|.l _::r,_::s,e=>fm r s e|_,_,e=>e
def bA(n:Nat)(m:FM)(fs:FA):FE:=λe=>(fs e).bind λp=>(cK p.2 p.1).bind λas=>(m as).bind λz=>if p.1.length=n/\(aT p.1).Nodup/\bC p.1 z.2=true/\yl z.1=true then some (z.1,fm p.1 z.2 p.2) else none
theorem lI:∀{rs:List Rv}{as:List Sv},bC rs as=true->∀(k i:Nat),rs[k]?=some (.s i)->∃ys,as[k]?=some (.l ys)
 |[],[],_,k,i,h=>by simp at h|.s j::r,.l ys::s,h,k,i,hk=>by cases k with|zero=>exact⟨ys,rfl⟩|succ k=>simpa using lI (rs:=r) (as:=s) (by simpa[bC]using h) k i (by simpa using hk)
 |.d x::r,y::s,h,k,i,hk=>by cases k with|zero=>simp at hk|succ k=>simpa using lI (rs:=r) (as:=s) (by simpa[bC]using h) k i (by simpa using hk)
 |.l x::r,y::s,h,k,i,hk=>by cases k with|zero=>simp at hk|succ k=>simpa using lI (rs:=r) (as:=s) (by simpa[bC]using h) k i (by simpa using hk)
 |.s _::_,.d _::_,h,_,_,_=>by simp[bC]at h|.s _::_,[],h,_,_,_=>by simp[bC]at h|.d _::_,[],h,_,_,_=>by simp[bC]at h|.l _::_,[],h,_,_,_=>by simp[bC]at h
theorem qN{r0:Rv}{rs:List Rv}{i:Nat}:oM (r0::rs) i=if (match r0 with|.s j=>j==i|_=>false)=true then some 0 else(oM rs i).map (·+1):=by unfold oM;rw[List.findIdx?_cons]
theorem qO{rs:List Rv}{i k:Nat}(h:oM rs i=some k):rs[k]?=some (.s i):=by
 unfold oM at h;rw[Ze]at h;obtain⟨hk,h1,_⟩:=h;rw[Um hk];split at h1;·rename_i heq;rw[heq];have:=eq_of_beq h1;rw[this]
 ·cases h1
theorem jo:∀{rs:List Rv}{i:Nat},i∈aT rs↔Rv.s i∈rs|[],i=>by simp[aT]|.s j::r,i=>by simp[aT,jo (rs:=r)]|.d x::r,i=>by simp[aT,jo (rs:=r)]|.l x::r,i=>by simp[aT,jo (rs:=r)]
theorem jO:∀{rs:List Rv}{i k j:Nat},(aT rs).Nodup->rs[k]?=some (.s i)->rs[j]?=some (.s i)->k=j
 |[],i,k,j,_,h,_=>by simp at h|.s m::r,i,k,j,hn,h1,h2=>by simp only[aT,VN]at hn;cases k with
  |zero=>simp at h1;subst h1;cases j with|zero=>rfl|succ j=>exact absurd (jo.mpr (TK (by simpa using h2))) hn.1
  |succ k=>cases j with|zero=>simp at h2;subst h2;exact absurd (jo.mpr (TK (by simpa using h1))) hn.1|succ j=>have:=jO (rs:=r) (i:=i) (k:=k) (j:=j) hn.2 (by simpa using h1) (by simpa using h2);lia
 |.d x::r,i,k,j,hn,h1,h2=>by cases k with|zero=>simp at h1|succ k=>cases j with|zero=>simp at h2|succ j=>have:=jO (rs:=r) (i:=i) (k:=k) (j:=j) (by simpa[aT]using hn) (by simpa using h1) (by simpa using h2);lia
 |.l x::r,i,k,j,hn,h1,h2=>by cases k with|zero=>simp at h1|succ k=>cases j with|zero=>simp at h2|succ j=>have:=jO (rs:=r) (i:=i) (k:=k) (j:=j) (by simpa[aT]using hn) (by simpa using h1) (by simpa using h2);lia
theorem FF{rs:List Rv}{i:Nat}(h:i∉aT rs):oM rs i=none:=by unfold oM;rw[Ys];intro r hr;cases r with|d x=>rfl|l x=>rfl|s j=>have:j≠i:=λz=>h (by rw[<-z];exact jo.mpr hr);simpa using this
theorem sO:∀{rs:List Rv}{as:List Sv}{e:En},(aT rs).Nodup->bC rs as=true->(∀j∈aT rs,∃xs,e[j]?=some (some (.l xs)))->fm rs as e=oT (oM rs) (as.map some) e
 |[],[],e,_,_,_=>by refine VT λi=>?_;rw[bX];have:oM [] i=none:=rfl;rw[this];simp only[fm];match e[i]? with|none=>rfl|some none=>rfl|some (some (.d x))=>rfl|some (some (.l x))=>rfl|some (some (.n x))=>rfl
 |.d x::r,y::s,e,hn,hl,hs=>by rw[show fm (.d x::r) (y::s) e=fm r s e from rfl,sO (by simpa[aT]using hn) (by simpa[bC]using hl) (λj hj=>hs j (by simpa[aT]using hj))];refine VT λi=>?_;rw[bX,bX,qN];cases oM r i<;>simp|.l x::r,y::s,e,hn,hl,hs=>by rw[show fm (.l x::r) (y::s) e=fm r s e from rfl,sO (by simpa[aT]using hn) (by simpa[bC]using hl) (λj hj=>hs j (by simpa[aT]using hj))];refine VT λi=>?_;rw[bX,bX,qN];cases oM r i<;>simp|.s k::r,.l ys::s,e,hn,hl,hs=>by
  simp only[aT,VN]at hn;obtain⟨xs,hk⟩:=hs k (by simp[aT]);have hlt:k<e.length:=(TC hk).1;rw[show fm (.s k::r) (.l ys::s) e=fm r s (e.set k (some (.l ys))) from rfl,sO hn.2 (by simpa[bC]using hl) (λj hj=>by have z:k≠j:=λz=>hn.1 (by rw[z];exact hj);rw[UA z];exact hs j (by simp[aT,hj]))];refine VT λi=>?_;rw[bX,bX,qN];by_cases z:k=i;·subst z;rw[UW hlt,hk,FF hn.1];simp
  ·rw[UA z];have:((match (Rv.s k) with|.s j=>j==i|_=>false)=true)=False:=by simp[z]
   simp only[this,if_false];cases oM r i<;>simp|.s _::_,.d _::_,_,_,h,_=>by simp[bC]at h|.s _::_,.n _::_,_,_,h,_=>by simp[bC]at h|.s _::_,[],_,_,h,_=>by simp[bC]at h|.d _::_,[],_,_,h,_=>by simp[bC]at h|.l _::_,[],_,_,h,_=>by simp[bC]at h|[],_::_,_,_,h,_=>by simp[bC]at h
theorem i8{e:En}:∀{rs:List Rv}{as:List Sv},cK e rs=some as->∀j∈aT rs,∃xs,e[j]?=some (some (.l xs))|[],_,_,j,h=>by simp[aT]at h|.d x::rs,as,q,j,h=>by obtain⟨as',q1,rfl⟩:=TB q;exact i8 q1 j (by simpa[aT]using h)|.l x::rs,as,q,j,h=>by obtain⟨as',q1,rfl⟩:=TB q;exact i8 q1 j (by simpa[aT]using h)|.s k::rs,as,q,j,h=>by unfold cK at q;match he:e[k]?,q with
 |some (some (.l xs)),q=>
  obtain⟨as',q1,rfl⟩:=TB q;simp only[aT,Uy]at h;rcases h with rfl|h;·exact⟨xs,he⟩
  ·exact i8 q1 j h
theorem oY{e:En}:∀{rs:List Rv}{as:List Sv}{k i:Nat},cK e rs=some as->rs[k]?=some (.s i)->∃xs,as[k]?=some (.l xs)
 |[],_,k,i,_,h=>by simp at h|.d x::rs,as,k,i,q,h=>by obtain⟨as',q1,rfl⟩:=TB q;cases k with|zero=>simp at h|succ k=>simpa using oY (k:=k) (i:=i) q1 (by simpa using h)
 |.l x::rs,as,k,i,q,h=>by obtain⟨as',q1,rfl⟩:=TB q;cases k with|zero=>simp at h|succ k=>simpa using oY (k:=k) (i:=i) q1 (by simpa using h)
 |.s j::rs,as,k,i,q,h=>by unfold cK at q;match he:e[j]?,q with|some (some (.l xs)),q=>obtain⟨as',q1,rfl⟩:=TB q;cases k with|zero=>exact⟨xs,rfl⟩|succ k=>simpa using oY (k:=k) (i:=i) q1 (by simpa using h)
section
variable{X:Cx}{K:⇑0}{σ:L2.St}{H0 H:Hp}{e:En}
theorem sL:∀{rs:List Rv}{vs:List V}{as:List Sv}{F:Hp},bz K F H σ e->eC K σ H0 F H e rs vs->cK e rs=some as->∃F',bz K F' H σ e/\aF F F'/\(∀a,F a=none->H0 a≠none->F' a=none)/\vs.length=as.length/\rs.length=as.length/\(∀(k:Nat) (x:TN),as[k]?=some (.d x)->∃v,vs[k]?=some v/\DA K F' x v)/\∀(k:Nat) (xs:List TN),as[k]?=some (.l xs)->∃i,rs[k]?=some (.s i)/\e[i]?=some (some (.l xs))/\∃v,vs[k]?=some v/\σ[i]?=some (some v)
 |[],vs,as,F,R,h,q=>by cases q;have h':vs=[]:=h;subst h';exact⟨F,R,aF.refl _,λ_ h _=>h,rfl,rfl,λk x h=>by simp at h,λk x h=>by simp at h⟩|.d x::rs,_,as,F,R,h,q=>by
  obtain⟨v,ws,rfl,h1,h2⟩:=h;obtain⟨as',q1,rfl⟩:=TB q;obtain⟨F',R',s',f',l1,l2,d',o'⟩:=sL R h2 q1;refine⟨F',R',s',f',by simp[l1],by simp[l2],λk y hk=>?_,λk ys hk=>?_⟩;·cases k with|zero=>simp at hk;subst hk;exact⟨v,rfl,DA.mono s' h1⟩|succ k=>simpa using d' k y (by simpa using hk)
  ·cases k with|zero=>simp at hk|succ k=>simpa using o' k ys (by simpa using hk)
 |.l xs::rs,_,as,F,R,h,q=>by
  obtain⟨v,ws,rfl,h1,h2⟩:=h;obtain⟨as',q1,rfl⟩:=TB q;obtain⟨F',R',s',f',l1,l2,d',o'⟩:=sL R h2 q1;have key:∃F2,bz K F2 H σ e/\aF F' F2/\(∀a,F' a=none->H0 a≠none->F2 a=none)/\DA K F2 (.list xs) v:=by obtain⟨l,us,rfl,g1,g2,g3,g4,g5⟩:=h1;cases hl:F' l with|none=>have h1':dt K σ H0 F' H e (.l xs) (.ref l):=⟨l,us,rfl,g1,hl,g3,aW.mono s' g4,g5⟩;obtain⟨F2,R2,s2,d2,f2⟩:=h1'.frozen R';exact⟨F2,R2,s2,f2,d2⟩|some o=>have:=R'.sm _ _ hl;rw[g3]at this;cases this;exact⟨F',R',aF.refl _,λ_ h _=>h,dD.mpr ⟨l,us,rfl,.inl (.inl hl),aW.mono s' g4⟩⟩
  obtain⟨F2,R2,s2,f2,d2⟩:=key;refine⟨F2,R2,s'.trans s2,λa ha hn=>f2 a (f' a ha hn) hn,by simp[l1],by simp[l2],λk y hk=>?_,λk ys hk=>?_⟩;·cases k with|zero=>simp at hk;subst hk;exact⟨v,rfl,d2⟩|succ k=>obtain⟨u,c1,c2⟩:=d' k y (by simpa using hk);exact⟨u,by simpa using c1,DA.mono s2 c2⟩
  ·cases k with|zero=>simp at hk|succ k=>simpa using o' k ys (by simpa using hk)
 |.s i::rs,_,as,F,R,h,q=>by obtain⟨v,ws,rfl,h1,h2⟩:=h;unfold cK at q;match he:e[i]?,q with
  |some (some (.l xs)),q=>
   obtain⟨as',q1,rfl⟩:=TB q;obtain⟨F',R',s',f',l1,l2,d',o'⟩:=sL R h2 q1;refine⟨F',R',s',f',by simp[l1],by simp[l2],λk y hk=>?_,λk ys hk=>?_⟩;·cases k with|zero=>simp at hk|succ k=>simpa using d' k y (by simpa using hk)
   ·cases k with|zero=>simp at hk;subst hk;exact⟨i,rfl,he,v,rfl,h1.1⟩|succ k=>simpa using o' k ys (by simpa using hk)
theorem jb{α:Type}{l:List α}{k:Nat}{x:α}:(l.map some)[k]?=some (some x)↔l[k]?=some x:=by rw[Ut];cases l[k]?<;>simp
theorem dt.noS{σ':L2.St}{e':En}{F H:Hp}{r:Rv}{v:V}(h:dt K σ' H0 F H e' r v)(n:L2.noS r)(ho:∀a,c9 σ e H a->H0 a≠none):dt K σ H0 F H e r v:=by cases r with|d x=>exact h|l xs=>obtain⟨l,vs,e1,h1,h2,h3,h4,_⟩:=h;exact⟨l,vs,e1,h1,h2,h3,h4,λz=>ho l z h1⟩|s i=>exact absurd n (by simp[L2.noS])
theorem lu:∀{rs:List Rv}{as:List Sv},cK e rs=some as->L_ (as.map some)
 |[],_,q=>by cases q;intro i xss h;simp at h|.d x::rs,as,q=>by obtain⟨as',q1,rfl⟩:=TB q;have ih:=lu q1;intro i xss h;cases i with|zero=>simp at h|succ i=>exact ih i xss (by simpa using h)
 |.l x::rs,as,q=>by obtain⟨as',q1,rfl⟩:=TB q;have ih:=lu q1;intro i xss h;cases i with|zero=>simp at h|succ i=>exact ih i xss (by simpa using h)
 |.s j::rs,as,q=>by unfold cK at q;match he:e[j]?,q with|some (some (.l xs)),q=>obtain⟨as',q1,rfl⟩:=TB q;have ih:=lu q1;intro i xss h;cases i with|zero=>simp at h|succ i=>exact ih i xss (by simpa using h)
theorem L4{n:Nat}{m:FM}{fs:FA}{Q:VK}{E:XK}(h:fE K (bA n m fs) σ H Q):GE (eu K n m) [] E (fA K fs) σ H Q:=by
 obtain⟨F,e,z,e',R,hf,q⟩:=h;unfold bA at hf;obtain⟨⟨rs,e1⟩,h1,hf⟩:=Tz hf;obtain⟨as,h2,hf⟩:=Tz hf;obtain⟨⟨r,as'⟩,h3,hf⟩:=Tz hf;split at hf;case isFalse=>cases hf
 case isTrue hc=>
 obtain⟨c1,c2,c3,c4⟩:=hc;cases hf;refine⟨F,e,rs,e1,R,h1,λF1 H1 vs X1 R1 A1=>?_⟩;obtain⟨F2,R2,s2,f2,l1,l2,d2,o2⟩:=sL R1 A1 h2;have X2:=X1.frz s2 f2;rw[Vs];have hn:L2.noS r:=by cases r with|d x=>trivial|l x=>trivial|s i=>cases c4
 have nN:=lu h2;have RA:bz K F2 H1 (vs.map some) (as.map some):=by
  refine⟨R2.sm,by simp[l1],λk x hk=>?_,λk xs hk=>?_,λk xss hk=>absurd hk (nN k xss),λk j l f1 f2=>?_⟩;·obtain⟨v,g1,g2⟩:=d2 k x (jb.mp hk);exact⟨v,jb.mpr g1,g2⟩
  ·obtain⟨i,g1,g2,v,g3,g4⟩:=o2 k xs (jb.mp hk);obtain⟨l,us,k1,k2,k3,k4⟩:=R2.own i xs g2;rw[g4]at k1;cases k1;exact⟨l,us,jb.mpr g3,k2,k3,k4⟩
  ·obtain⟨xs,g1,g3⟩:=f1.resolve_right λ⟨xss,_,_,z,_⟩=>nN k xss z;obtain⟨ys,g2,g4⟩:=f2.resolve_right λ⟨xss,_,_,z,_⟩=>nN j xss z;obtain⟨i1,a1,a2,v1,a3,a4⟩:=o2 k xs (jb.mp g1);obtain⟨i2,b1,b2,v2,b3,b4⟩:=o2 j ys (jb.mp g2);have e1:=jb.mp g3;have e2:=jb.mp g4;rw[a3]at e1;cases e1;rw[b3]at e2;cases e2;have:i1=i2:=R2.inj i1 i2 xs ys l a2 b2 a4 b4;subst this;exact jO c2 a1 b1
 have sub:y0 σ e1 (vs.map some) (as.map some) (oM rs):=by
  refine⟨λi k xs g1 g2=>?_,λk ys g1=>?_⟩;·have g3:=qO g2;obtain⟨zs,hs⟩:=oY h2 g3;obtain⟨i',a1,a2,v,a3,a4⟩:=o2 k zs hs;rw[g3]at a1;cases a1;rw[jb.mpr a3,a4]
  ·obtain⟨i,a1,a2,v,a3,a4⟩:=o2 k ys (jb.mp g1);refine⟨i,ys,a2,?_,by rw[jb.mpr a3,a4]⟩;cases hp:oM rs i with|none=>unfold oM at hp;rw[Ys]at hp;have:=hp _ (TK a1);simp at this|some j=>rw[jO c2 (qO hp) a1]
 refine⟨by rw[l1,<-l2];exact c1,F2,as,r,as',RA,nN,h3,hn,λF' H' v X3 R3 A3=>?_⟩;obtain⟨R4,X4,o4⟩:=uT R2 sub nN X3.sf X3.dom X3.fr X3.lst X3.tmp X3.fd R3 (λ_ _ _ _ _=>rfl) λi k xs g1 g2=>by obtain⟨ys,g3⟩:=lI c3 k i (qO g2);exact⟨ys,jb.mpr g3⟩
 have hb:=sO (e:=e1) c2 c3 (i8 h2);rw[<-hb]at R4 X4 o4;exact q F' H' v (X2.trans X4) R4 ((A3.noS hn λa z=>R2.ownH a (o4 a z)).weak X2.dom)
theorem aG{x:Str}{st:Ub}{f:TM}{fd:UM}{ps:List Str}{k n:Nat}{m:FM}{a:TU}{es:List TU}{fs:FA}{p pos:Pos}(h:eN X.K X.mg x st f fd ps)(G:bh X.prog X.w X.K X.mg X.base el k f fd ps (eu K n m))(hr:eB k X.A)(ha:PA X (a::es) (fA K fs))(hg:Gl X x)(hdb:(x==("__debug__":Str))=false)(he:Ue (a::es) X.env=(false,Ui a X.env)::Ue es X.env)(hpl:(UD pos (Ue es X.env)).any (·.1)=false):PE X (.Call (.Name x p) (a::es) [] pos) (fE K (bA n m fs)):=(Oe h G hr ha hg hdb he hpl).mono λ_ _ _ h=>L4 h
def yP:List Sv->En->Option (List Sv)
 |[],_=>some []|.d x::r,e=>(yP r e.tail).map (.d x::·)|.l _::r,e=>match e.head? with|some (some (.l ys))=>(yP r e.tail).map (.l ys::·)|_=>none
 |.n _::_,_=>none
def vh(n:Nat)(e:En):Rv->Option Rv|.s i=>if n<=i then match e[i]? with|some (some (.l xs))=>some (.l xs)|_=>none else none|r=>some r
def mK(W:List Nat)(as:List Sv):Bool:=W.all λj=>match as[j]? with|some (.l _)=>false|_=>true
def et(n k:Nat)(W:List Nat)(f:FS):FM:=λas=>if as.length=n/\mK W as=true then(f (as.map some++Ug k none)).bind λfl=>match fl with|.rt r e=>(vh n e r).bind λr'=>(yP as e).map λas'=>(r',as')|.nx e=>(yP as e).map λas'=>(.d .none,as')|_=>none else none
theorem tF:∀{as as':List Sv}{e:En},yP as e=some as'->as'.length=as.length/\(∀(j:Nat) (x:TN),as'[j]?=some (.d x)↔as[j]?=some (.d x))/\(∀(j:Nat) (ys:List TN),as'[j]?=some (.l ys)->(∃xs,as[j]?=some (.l xs))/\e[j]?=some (some (.l ys)))/\∀(j:Nat) (xs:List TN),as[j]?=some (.l xs)->∃ys,as'[j]?=some (.l ys)
 |[],_,e,h=>by cases h;simp|.d x::r,_,e,h=>by
  obtain⟨s,h1,rfl⟩:=TB h;obtain⟨g1,g2,g3,g4⟩:=tF h1;refine⟨by simp[g1],λj y=>?_,λj ys hj=>?_,λj xs hj=>?_⟩;·cases j with|zero=>simp|succ j=>simpa using g2 j y
  ·cases j with|zero=>simp at hj|succ j=>obtain⟨c1,c2⟩:=g3 j ys (by simpa using hj);refine⟨by simpa using c1,?_⟩;rw[List.getElem?_tail]at c2;exact c2
  ·cases j with|zero=>simp at hj|succ j=>simpa using g4 j xs (by simpa using hj)
 |.l xs::r,_,e,h=>by unfold yP at h;match he:e.head?,h with
  |some (some (.l ys)),h=>
   obtain⟨s,h1,rfl⟩:=TB h;obtain⟨g1,g2,g3,g4⟩:=tF h1;refine⟨by simp[g1],λj y=>?_,λj zs hj=>?_,λj zs hj=>?_⟩;·cases j with|zero=>simp|succ j=>simpa using g2 j y
   ·cases j with|zero=>simp at hj;subst hj;exact⟨⟨xs,rfl⟩,by rw[List.head?_eq_getElem?]at he;exact he⟩|succ j=>obtain⟨c1,c2⟩:=g3 j zs (by simpa using hj);refine⟨by simpa using c1,?_⟩;rw[List.getElem?_tail]at c2;exact c2
   ·cases j with|zero=>exact⟨ys,rfl⟩|succ j=>simpa using g4 j zs (by simpa using hj)
 |.n x::r,_,e,h=>by simp[yP]at h
end
theorem ip{α:Type}{l:List (Option α)}{k i:Nat}{x:α}(h:(l++Ug k none)[i]?=some (some x)):l[i]?=some (some x):=by
 rw[List.getElem?_append]at h;split at h;·exact h
 ·rw[Wj]at h;split at h<;>simp at h
theorem iG{α:Type}{l:List (Option α)}{k i:Nat}{x:α}(h:l[i]?=some (some x)):(l++Ug k none)[i]?=some (some x):=by have hi:i<l.length:=(TC h).1;rw[UX hi];exact h
section
variable{K:⇑0}{F H:Hp}{σ:L2.St}{e:En}{k:Nat}
theorem xO{i:Nat}{a:TM}:Fp (σ++Ug k none) (e++Ug k none) H i a↔Fp σ e H i a:=by
 constructor
 ·rintro(⟨xs,h1,h2⟩|⟨xss,l,bs,h1,h2,h3⟩);·exact .inl ⟨xs,ip h1,ip h2⟩
  ·exact .inr ⟨xss,l,bs,ip h1,ip h2,h3⟩
 ·rintro(⟨xs,h1,h2⟩|⟨xss,l,bs,h1,h2,h3⟩);·exact .inl ⟨xs,iG h1,iG h2⟩
  ·exact .inr ⟨xss,l,bs,iG h1,iG h2,h3⟩
theorem sW{a:TM}:c9 (σ++Ug k none) (e++Ug k none) H a↔c9 σ e H a:=⟨λ⟨i,h⟩=>⟨i,xO.mp h⟩,λ⟨i,h⟩=>⟨i,xO.mpr h⟩⟩
theorem bz.pad(R:bz K F H σ e):bz K F H (σ++Ug k none) (e++Ug k none):=by
 refine⟨R.sm,by simp[R.len],λi x h=>?_,λi xs h=>?_,λi xss h=>?_,λi j a h1 h2=>R.fp i j a (xO.mp h1) (xO.mp h2)⟩;·obtain⟨v,g1,g2⟩:=R.dat i x (ip h);exact⟨v,iG g1,g2⟩
 ·obtain⟨l,vs,g1,g2⟩:=R.own i xs (ip h);exact⟨l,vs,iG g1,g2⟩
 ·obtain⟨l,bs,g1,g2⟩:=R.nst i xss (ip h);exact⟨l,bs,iG g1,g2⟩
end
theorem yQ:∀{as as':List Sv}{e:En},yP as e=some as'->L_ (as'.map some)
 |[],_,e,h=>by cases h;intro i xss z;simp at z|.d x::r,_,e,h=>by obtain⟨s,h1,rfl⟩:=TB h;have ih:=yQ h1;intro i xss z;cases i with|zero=>simp at z|succ i=>exact ih i xss (by simpa using z)
 |.l xs::r,_,e,h=>by unfold yP at h;match he:e.head?,h with|some (some (.l ys)),h=>obtain⟨s,h1,rfl⟩:=TB h;have ih:=yQ h1;intro i xss z;cases i with|zero=>simp at z|succ i=>exact ih i xss (by simpa using z)
 |.n x::r,_,e,h=>by simp[yP]at h
theorem zO{W:List Nat}{as:List Sv}(h:mK W as=true){j:Nat}{xs:List TN}(hj:as[j]?=some (.l xs)):j∉W:=λz=>by unfold mK at h;have:=Vd.mp h j z;rw[hj]at this;cases this
section
variable{P:Uc}{w:TX}{K:⇑0}{mg:Str->Option TL}{base:Ua}
theorem eN.fn{x:Str}{st:Ub}{f:TM}{fd:UM}{N ps:List Str}{k n k0:Nat}{W:List Nat}{fb:FS}(h:eN K mg x st f fd ps)(S:av N ps (ao st))(hn:ps.length=n)(hN:N.length=n+k0)(hb:∀(cdv:TL) (A:Ud) (outer:List Env) (s:TQ) (H:Hp) (E:XK),eB k (A.deeper (envOfC x (ao st) ↑s f cdv))->sk (AU el P w K mg base N x (ao st) f cdv A outer s H E).nox (dZ st) (fS K fb W)):bh P w K mg base el (k+1) f fd ps (eu K n (et n k0 W fb)):=by
 refine h.F.ok S (λvs H Q E q=>?_) λcdv A outer s H vs Q E hr hsp=>⟨_,hb cdv A outer s H E hr,?_⟩;·rw[hn];exact q.1
 ·obtain⟨hl,F,as,r,as',R,nN,hm,nr,q⟩:=hsp;unfold et at hm;split at hm;case isFalse=>cases hm
  case isTrue hc=>
  obtain⟨la,nl⟩:=hc;obtain⟨fl,h1,hm⟩:=Tz hm;have hst:i6 N vs=vs.map some++Ug k0 none:=by unfold i6;rw[hN,hl];congr 2;lia
  rw[hst];have key:∀{as':List Sv}{e':En},yP as e'=some as'->∀F' H' σ',er W (vs.map some++Ug k0 none) F H (as.map some++Ug k0 none) σ' F' H' e'->bz K F' H' σ' e'->hV (vs.map some) F H (as.map some) F' H' (as'.map some)/\bz K F' H' (vs.map some) (as'.map some)/\∀a,c9 (vs.map some) (as'.map some) H' a->c9 (vs.map some) (as.map some) H a:=by
   intro as' e' hu F' H' σ' X' R';obtain⟨u1,u2,u3,u4⟩:=tF hu;have uN:=yQ hu;have ow:∀a,c9 (vs.map some) (as'.map some) H' a->c9 (vs.map some) (as.map some) H a:=by
    rintro a⟨j,⟨ys,c1,c2⟩|⟨xss,_,_,z,_⟩⟩;·obtain⟨⟨xs,c3⟩,_⟩:=u3 j ys (jb.mp c1);exact⟨j,.inl ⟨xs,jb.mpr c3,c2⟩⟩
    ·exact absurd z (uN j xss)
   have sg:∀(j:Nat) (xs:List TN),as[j]?=some (.l xs)->σ'[j]?=(vs.map some)[j]?:=λj xs hj=>by
    rw[X'.wr j (zO nl hj)];have hj2:j<(vs.map some).length:=by rw[Uq,hl,<-la];exact(TC hj).1
    rw[UX hj2]
   refine⟨⟨X'.sf,X'.dom,λa vs h1 h2 hn=>X'.fr a vs h1 h2 λz=>hn (sW.mp z),X'.lst,λa o ha hn=>X'.tmp a o ha λz=>hn (sW.mp z),λj=>?_,λa z=>.inl (ow a z),λa m h1 h2 hn=>X'.fd a m h1 h2 λz=>hn (sW.mp z)⟩,⟨R'.sm,?_,λj y hj=>?_,λj ys hj=>?_,λj xss hj=>absurd hj (uN j xss),λj i l f1 f2=>?_⟩,ow⟩
   ·constructor;·rintro⟨ys,hj⟩;obtain⟨⟨xs,c⟩,_⟩:=u3 j ys (jb.mp hj);exact⟨xs,jb.mpr c⟩
    ·rintro⟨xs,hj⟩;obtain⟨ys,c⟩:=u4 j xs (jb.mp hj);exact⟨ys,jb.mpr c⟩
   ·simp[u1,hl,la]
   ·obtain⟨v,c1,c2⟩:=R.dat j y (jb.mpr ((u2 j y).mp (jb.mp hj)));exact⟨v,c1,DA.mono X'.sf c2⟩
   ·obtain⟨⟨xs,c1⟩,c2⟩:=u3 j ys (jb.mp hj);obtain⟨l,us,d1,d2⟩:=R'.own j ys c2;exact⟨l,us,by rw[<-sg j xs c1];exact d1,d2⟩
   ·obtain⟨xs,g1,g3⟩:=f1.resolve_right λ⟨xss,_,_,z,_⟩=>uN j xss z;obtain⟨ys,g2,g4⟩:=f2.resolve_right λ⟨xss,_,_,z,_⟩=>uN i xss z;obtain⟨⟨zs,c1⟩,c2⟩:=u3 j xs (jb.mp g1);obtain⟨⟨ws,c3⟩,c4⟩:=u3 i ys (jb.mp g2);exact R'.inj j i xs ys l c2 c4 (by rw[sg j zs c1];exact g3) (by rw[sg i ws c3];exact g4)
  refine⟨F,as.map some++Ug k0 none,fl,R.pad,h1,?_⟩;cases fl with|bk e'=>cases hm|ct e'=>cases hm|nx e'=>obtain⟨as2,h2,hm⟩:=TB hm;cases hm;intro F' H' σ' X' R';obtain⟨X2,R2,_⟩:=key h2 F' H' σ' X' R';exact q F' H' .non X2 R2 ((lD (K:=K) (F:=F')).mpr rfl)|rt r0 e'=>obtain⟨r1,h2,hm⟩:=Tz hm;obtain⟨as2,h3,hm⟩:=TB hm;cases hm;intro F' H' σ' v X' R' A';obtain⟨X2,R2,ow2⟩:=key h3 F' H' σ' X' R';have noo:∀l,H l=none->¬c9 (vs.map some) (as'.map some) H' l:=λl hl z=>R.ownH l (ow2 l z) hl;refine q F' H' v X2 R2 ?_;cases r0 with|d y=>cases h2;exact A'|l ys=>cases h2;obtain⟨l,us,d0,d1,d2,d3,d4,_⟩:=A';exact⟨l,us,d0,d1,d2,d3,d4,noo l d1⟩|s i=>
   simp only[vh]at h2;split at h2;case isFalse=>cases h2
   case isTrue hi=>
   obtain⟨a1,xs,a2⟩:=A';rw[a2]at h2;cases h2;obtain⟨l,us,d1,d2,d3,d4⟩:=R'.own i _ a2;rw[a1]at d1;cases d1;suffices hl0:H l=none from⟨l,us,rfl,hl0,d2,d3,d4,noo l hl0⟩;rcases X'.own l ⟨i,.inl ⟨_,a2,a1⟩⟩with z|z
   ·obtain⟨j,zf⟩:=sW.mp z;obtain⟨ys,z1,z2⟩:=zf.resolve_right λ⟨xss,_,_,z,_⟩=>nN j xss z;have z1':=jb.mp z1;obtain⟨u1,u2,u3,u4⟩:=tF h3;obtain⟨ws,w1⟩:=u4 j ys z1';obtain⟨_,w2⟩:=u3 j ws w1;have hj2:j<vs.length:=by rw[hl,<-la];exact(TC z1').1
    have e3:σ'[j]?=some (some (.ref l)):=by rw[X'.wr j (zO nl z1'),UX (by simpa using hj2)];exact z2
    have:=R'.inj i j _ ws l a2 w2 a1 e3;lia
   ·exact z
end
def ME:Option Sv->Option Sv|some (.n _)=>none|s=>s
def oV(cp:List (Nat×Str))(nT:Nat)(e:En):En:=cp.map (λp=>ME (e[p.1]?).join)++Ug nT none
def oK(cp:List (Nat×Str))(i:Nat):Option Nat:=cp.findIdx? λp=>p.1==i
def bT(g:FG)(ft:FT)(fe:FE):List TN->En->List TN->Option (List TN×En)|[],e,acc=>some (acc,e)|x::r,e,acc=>(g x e).bind λe1=>(ft e1).bind λb=>if b.1=true then(fe b.2).bind λv=>(ox v.1).bind λd=>if acc.length<1000000 then bT g ft fe r v.2 (acc++[d]) else none else bT g ft fe r b.2 acc
def jv(cp:List (Nat×Str))(ei e:En):Bool:=cp.all λp=>!A4 e[p.1]?||A4 ei[(oK cp p.1).getD 0]?
def bD(cp:List (Nat×Str))(nT:Nat)(fi:FI)(g:FG)(ft:FT)(fe:FE):FE:=λe=>(fi e).bind λp=>if (p.2.1.all λq=>!(cp.any λc=>c.1==q.1))=true then(bT g ft fe p.1 (oV cp nT p.2.2) []).bind λz=>if jv cp z.2 p.2.2=true then some (.l z.1,oT (oK cp) z.2 p.2.2) else none else none
section
variable{K:⇑0}{F H:Hp}{σ:L2.St}{e:En}{cp:List (Nat×Str)}{nT:Nat}
theorem fK{i k:Nat}(h:oK cp i=some k):∃s,cp[k]?=some (i,s):=by unfold oK at h;rw[Ze]at h;obtain⟨hk,h1,_⟩:=h;refine⟨cp[k].2,?_⟩;rw[Um hk];have:=eq_of_beq h1;rw[<-this]
theorem lG{k:Nat}{x:Sv}(h:(oV cp nT e)[k]?=some (some x)):∃i s,cp[k]?=some (i,s)/\e[i]?=some (some x):=by unfold oV at h;have h:=ip h;rw[Ut]at h;obtain⟨p,h1,h2⟩:=TB h;refine⟨p.1,p.2,h1,?_⟩;cases q:e[p.1]? with|none=>rw[q]at h2;cases h2|some y=>rw[q]at h2;match y,h2 with|some (.d z),h2=>exact congrArg some h2|some (.l z),h2=>exact congrArg some h2|some (.n z),h2=>cases h2|none,h2=>cases h2
theorem lH:L_ (oV cp nT e):=by intro k xss h;unfold oV at h;have h:=ip h;rw[Ut]at h;obtain⟨p,h1,h2⟩:=TB h;match (e[p.1]?).join,h2 with|some (.d z),h2=>cases h2|some (.l z),h2=>cases h2|some (.n z),h2=>cases h2|none,h2=>cases h2
theorem tj{k i:Nat}{s:Str}{v:V}(h:cp[k]?=some (i,s))(hv:σ[i]?=some (some v)):(ji cp nT σ)[k]?=some (some v):=by unfold ji;refine iG ?_;rw[Ut,h];simp[hv]
theorem qg{k i:Nat}{s:Str}{v:V}(h:cp[k]?=some (i,s))(hv:(ji cp nT σ)[k]?=some (some v)):σ[i]?=some (some v):=by unfold ji at hv;have hv:=ip hv;rw[Ut,h]at hv;simp only[VB,WJ]at hv;cases q:σ[i]? with|none=>rw[q]at hv;cases hv|some y=>rw[q]at hv;exact congrArg some hv
theorem xK:∀{cp:List (Nat×Str)}{k j i:Nat}{s t:Str},(cp.map (·.1)).Nodup->cp[k]?=some (i,s)->cp[j]?=some (i,t)->k=j|[],k,j,i,s,t,_,h,_=>by simp at h|p::r,k,j,i,s,t,hn,h1,h2=>by simp only[Uo,VN]at hn;cases k with
 |zero=>simp at h1;subst h1;cases j with|zero=>rfl|succ j=>have hm:(i,t)∈r:=TK (i:=j) (by simpa using h2);exact absurd (Wz.mpr ⟨(i,t),hm,rfl⟩) hn.1
 |succ k=>cases j with|zero=>simp at h2;subst h2;have hm:(i,s)∈r:=TK (i:=k) (by simpa using h1);exact absurd (Wz.mpr ⟨(i,s),hm,rfl⟩) hn.1|succ j=>have:=xK (cp:=r) (k:=k) (j:=j) hn.2 (by simpa using h1) (by simpa using h2);lia
theorem bz.inn(R:bz K F H σ e)(hn:(cp.map (·.1)).Nodup):bz K F H (ji cp nT σ) (oV cp nT e)/\y0 σ e (ji cp nT σ) (oV cp nT e) (oK cp):=by
 refine⟨⟨R.sm,by simp[ji,oV],λk x h=>?_,λk xs h=>?_,λk xss h=>absurd h (lH k xss),λk j l f1 f2=>?_⟩,⟨λi k xs h1 h2=>?_,λk ys h=>?_⟩⟩;·obtain⟨i,s,h1,h2⟩:=lG h;obtain⟨v,g1,g2⟩:=R.dat i x h2;exact⟨v,tj h1 g1,g2⟩
 ·obtain⟨i,s,h1,h2⟩:=lG h;obtain⟨l,vs,g1,g2⟩:=R.own i xs h2;exact⟨l,vs,tj h1 g1,g2⟩
 ·obtain⟨xs,h1,h3⟩:=f1.resolve_right λ⟨xss,_,_,z,_⟩=>lH k xss z;obtain⟨ys,h2,h4⟩:=f2.resolve_right λ⟨xss,_,_,z,_⟩=>lH j xss z;obtain⟨i,s,a1,a2⟩:=lG h1;obtain⟨i',s',b1,b2⟩:=lG h2;have:i=i':=R.inj i i' xs ys l a2 b2 (qg a1 h3) (qg b1 h4);subst this;exact xK hn a1 b1
 ·obtain⟨s,g⟩:=fK h2;obtain⟨l,vs,g1,_⟩:=R.own i xs h1;rw[g1];exact tj g g1
 ·obtain⟨i,s,h1,h2⟩:=lG h;obtain⟨l,vs,g1,_⟩:=R.own i ys h2;refine⟨i,ys,h2,?_,by rw[g1];exact tj h1 g1⟩;cases hp:oK cp i with|none=>unfold oK at hp;rw[Ys]at hp;have:=hp _ (TK h1);simp at this|some j=>obtain⟨t,g⟩:=fK hp;rw[xK hn g h1]
theorem bz.putT(R:bz K F H σ e){l:TM}{ws:List V}(h1:F l=none)(h2:¬c9 σ e H l):bz K F (cg H l (.lst ws)) σ e/\∀a,c9 σ e (cg H l (.lst ws)) a↔c9 σ e H a:=R.keep (aF.refl F) (λb o q=>by
 have z:b≠l:=λz=>by rw[z,h1]at q;cases q
 rw[aJ z];exact R.sm b o q) (λa⟨i,h⟩=>(R.fpAt h).1) λa o ha q=>by have z:a≠l:=λz=>h2 (by rw[<-z];exact ha);rw[aJ z];exact q
theorem er.putT{W:List Nat}{σ':L2.St}{F' H':Hp}{e':En}(x:er W σ F H e σ' F' H' e'){l:TM}{o:HO}(h:H l=none)(ho:∀a,c9 σ' e' (cg H' l o) a↔c9 σ' e' H' a):er W σ F H e σ' F' (cg H' l o) e':=by
 refine⟨x.sf,λa q=>?_,x.fr,λa vs q=>?_,λa u q n=>?_,λa q=>x.own a ((ho a).mp q),x.wr,x.fd⟩
 ·by_cases z:a=l;·rw[z];exact h
  ·rw[aJ z]at q;exact x.dom a q
 ·have z:a≠l:=λz=>by rw[z,h]at q;cases q
  rw[aJ z];exact x.lst a vs q
 ·have z:a≠l:=λz=>by rw[z,h]at q;cases q
  rw[aJ z];exact x.tmp a u q n
inductive CI (K:⇑0) (W:List Nat) (σ0:L2.St) (F1 H1:Hp) (e0:En) (l:TM) (P:Hp->En->List TN->Prop) (σ':L2.St) (H':Hp):Prop|mk{F':Hp}{ei:En}{acc:List TN}{vs:List V}(R:bz K F' H' σ' ei) (X:er W σ0 F1 H1 e0 σ' F' H' ei) (fl:F' l=none) (no:¬c9 σ' ei H' l) (hl:H' l=some (.lst vs)) (da:aW K F' acc vs) (hc:P F' ei acc):CI K W σ0 F1 H1 e0 l P σ' H'
theorem AA{Q:VK}{fi:FI}{g:FG}{W:List Nat}{ft:FT}{fe:FE}(hn:(cp.map (·.1)).Nodup)(hW:∀j∈W,cp.length<=j)(h:fE K (bD cp nT fi g ft fe) σ H Q):Cy cp nT (fI K fi) (fG K g W) (fT K ft) (fE K fe) σ H Q:=by
 obtain⟨F0,e0,z,e',R0,hf,q⟩:=h;unfold bD at hf;obtain⟨⟨items,own,e1⟩,h1,hf⟩:=Tz hf;dsimp only at hf;split at hf;case isFalse=>cases hf
 case isTrue hO=>
 obtain⟨⟨out,eo⟩,h2,hf⟩:=Tz hf;dsimp only at hf;split at hf;case isFalse=>cases hf
 case isTrue hB=>
 cases hf;refine⟨⟨F0,e0,items,own,e1,R0,h1,λJ F1 H1 X1 R1 kp ok=>?_⟩⟩;intro l hl;obtain⟨Ri,sub⟩:=R1.inn (nT:=nT) hn;have hFl:F1 l=none:=R1.freeF hl;let Iv:Nat->L2.St->Hp->Prop:=λi=>CI K W (ji cp nT σ) F1 H1 (oV cp nT e1) l λ_ ei acc=>bT g ft fe (items.drop i) ei acc=some (out,eo);have notown:∀p∈own,∀a,σ[p.1]?=some (some (.ref a))->¬c9 (ji cp nT σ) (oV cp nT e1) H1 a:=by rintro p hp a ha⟨k,zf⟩;obtain⟨xs,c1,c2⟩:=zf.resolve_right λ⟨xss,_,_,z,_⟩=>lH k xss z;obtain⟨i,s,d1,d2⟩:=lG c1;have e2:=qg d1 c2;have:p.1=i:=R1.inj p.1 i p.2 xs a (kp p hp) d2 ha e2;have hh:=Vd.mp hO p hp;simp only[Yt,List.any_eq_false,beq_iff_eq]at hh;exact hh (i,s) (TK d1) this.symm
 refine⟨λi m σ' H'=>m=items.length-i/\i<=items.length/\Iv i σ' H',⟨items.length,by simp,Wv _,.mk (Ri.putT hFl (λz=>(Ri.ownH l z) hl)).1 (er.refl.putT hl (Ri.putT hFl (λz=>(Ri.ownH l z) hl)).2) hFl (λz=>(Ri.ownH l (((Ri.putT hFl (λz=>(Ri.ownH l z) hl)).2 l).mp z)) hl) aH aW.nil h2⟩,?_⟩;rintro i m σ' H'⟨rfl,hi,⟨R',X',fl,no,hl',da,hc⟩⟩;rename_i F' ei acc vs;have held:CH K σ F' H' own:=λp hp=>by obtain⟨a,us,c1,c2,c3,c4⟩:=R1.own p.1 p.2 (kp p hp);exact⟨a,us,c1,X'.tmp a _ c3 (notown p hp a c1),c4.mono X'.sf⟩
 obtain⟨go,stop,yld⟩:=ok F' H' X'.sf R'.sm held;by_cases hlt:i<items.length
 ·have hd:items.drop i=items[i]::items.drop (i+1):=Yq hlt;rw[hd]at hc;unfold bT at hc;obtain⟨e2,c2,hc⟩:=Tz hc;obtain⟨⟨b,e3⟩,c3,hc⟩:=Tz hc;refine .inr ⟨go i hlt,Iv (i+1),λσ2 H2 r=>⟨items.length-(i+1),by lia,rfl,hlt,r⟩,λx H2 hy=>?_⟩;obtain⟨F2,sH,sF2,sm2,fz,hx⟩:=yld i items[i] x H2 (Um hlt) hy;obtain⟨R2,X2⟩:=R'.step sH sF2 sm2 fz;refine⟨F2,ei,items[i],e2,R2,hx,c2,λσ3 X3 R3=>⟨F2,e2,b,e3,R3,c3,λF4 H4 X4 R4=>?_⟩⟩;have hlH2:H2 l=some (.lst vs):=sH _ _ hl';have no2:¬c9 σ' ei H2 l:=λz=>by
   rcases X2.ow l z with z|z;·exact no z
   ·rw[hl']at z;cases z
  have no3:¬c9 σ3 e2 H2 l:=λz=>by
   rcases X3.own l z with z|z;·exact no2 z
   ·rw[hlH2]at z;cases z
  have fl2:F2 l=none:=fz l fl (by rw[hl'];simp);have hlH4:H4 l=some (.lst vs):=X4.tmp l _ hlH2 no3;have fl4:F4 l=none:=X4.fr l vs fl2 hlH2 no3;have no4:¬c9 σ3 e3 H4 l:=λz=>by
   rcases X4.ow l z with z|z;·exact no3 z
   ·rw[hlH2]at z;cases z
  have E4:er W (ji cp nT σ) F1 H1 (oV cp nT e1) σ3 F4 H4 e3:=((X'.trans X2.s).trans X3).trans X4.s;cases b with|false=>rw[if_neg ↥1]at hc;exact HA (.mk R4 E4 fl4 no4 hlH4 (da.mono (sF2.trans X4.sf)) hc)|true=>
   rw[if_pos rfl]at hc;obtain⟨⟨r,e5⟩,c5,hc⟩:=Tz hc;obtain⟨d,c6,hc⟩:=Tz hc;split at hc;case isFalse=>cases hc
   case isTrue hlen=>
   refine HB ⟨F4,e3,r,e5,R4,c5,λF5 H5 v X5 R5 A5=>?_⟩;have hlH5:H5 l=some (.lst vs):=X5.tmp l _ hlH4 no4;have fl5:F5 l=none:=X5.fr l vs fl4 hlH4 no4;have no5:¬c9 σ3 e5 H5 l:=λz=>by
    rcases X5.ow l z with z|z;·exact no4 z
    ·rw[hlH4]at z;cases z
   obtain⟨F6,R6,s6,d6,f6⟩:=eC.frozen R5 (rs:=[r]) (vs:=[v]) ⟨v,[],rfl,A5,rfl⟩ (m5 c6);have fl6:F6 l=none:=f6 l fl5 (by rw[hlH4];simp);have X6:=X5.frz s6 f6;have ll:=da.len;have sl:Uj=16777216:=VD;have dv:DA K F6 d v:=by simp only[aW]at d6;obtain⟨v',r',e',hv,_⟩:=d6;cases e';exact hv
   obtain⟨R7,o7⟩:=R6.putT (ws:=vs++[v]) fl6 no5;exact⟨vs,hlH5,by lia,.mk R7 ((E4.trans X6.s).putT hl o7) fl6 (λz=>no5 ((o7 l).mp z)) aH ((da.mono (sF2.trans (X4.sf.trans (X5.sf.trans s6)))).append (aW.one dv)) hc⟩
 ·have hd:items.drop i=[]:=Yr ↥0;rw[hd]at hc;cases hc;refine .inl ⟨stop i ↥0,?_⟩;obtain⟨R9,X9,o9⟩:=uT R1 sub lH X'.sf X'.dom X'.fr X'.lst X'.tmp X'.fd R' (λi k xs g1 g2=>X'.wr k λz=>by obtain⟨s,g⟩:=fK g2;have:=(TC g).1;have:=hW k z;lia) λi k xs g1 g2=>by obtain⟨s,g⟩:=fK g2;unfold jv at hB;have hb:=Vd.mp hB _ (TK g);simp only[g1,g2,VS,A4,Bool.not_true,Bool.false_or]at hb;exact B5.mp hb
  exact q F' H' (.ref l) (X1.trans X9) R9 ⟨l,vs,rfl,X1.dom l hl,fl,hl',da,λz=>R1.ownH l (o9 l z) hl⟩
end
section
variable{X:Cx}{K:⇑0}{a b:TU}{es:List TU}{fa fb:FE}{fs:FA}{pos p p2 p3:Pos}{lo hi:Option TU}
def qE:En->Rv->Option Rv:=λ_ x=>(bU x).map λi=>.d (.int (-i))
theorem MJ:Mf K (rU λi=>.int (-i)) qE:=by intro σ H0 F H e x z v Q R A hg q;obtain⟨i,h5,h4⟩:=TB hg;cases h4;exact⟨i,cN A h5,q F H _ (hV.refl _ _ _ _) R qT⟩
theorem rZ(ha:PE X a (fE K fa)):PE X (.UnaryOp .USub a pos) (fE K (si qE fa)):=MX L3 MJ ha
theorem bV(hK:X.K=K)(ha:PE X a (fE K fa))(hb:PE X b (fE K fb)):PE X (.BinOp a .Add b pos) (fE K (ay cy fa fb)):=wW (hK▸Ib) Mh ha hb
theorem z9(ha:PE X a (fE K fa))(hb:PE X b (fE K fb)):PE X (.BinOp a .Sub b pos) (fE K (ay my fa fb)):=wW Le M8 ha hb
theorem gH(hK:X.K=K)(ha:PE X a (fE K fa))(hb:PE X b (fE K fb)):PE X (.BinOp a .Mult b pos) (fE K (ay cL fa fb)):=wW (hK▸Ih) MI ha hb
theorem ku(ha:PE X a (fE K fa))(hb:PE X b (fE K fb)):PE X (.BinOp a .FloorDiv b pos) (fE K (ay gY fa fb)):=wW Fk Ks ha hb
theorem bu(ha:PE X a (fE K fa))(hb:PE X b (fE K fb)):PE X (.BinOp a .Mod b pos) (fE K (ay bx fa fb)):=wW Ig MH ha hb
theorem JZ(ha:PE X a (fE K fa))(hb:PE X b (fE K fb)):PE X (.BinOp a .Pow b pos) (fE K (ay A0 fa fb)):=wW Lc MS ha hb
theorem aR(hK:X.K=K)(ha:PE X a (fE K fa))(hb:PE X b (fE K fb))(hs:sI b):PE X (.Subscript a b pos) (fE K (ay bF fa fb)):=MW (hK▸N') Oa ha hb hs
theorem jd{fl fh:FO}(hK:X.K=K)(he:PE X a (fE K fa))(hl:PO X lo (fO K fl))(hh:PO X hi (fO K fh)):PE X (.Subscript a (.Slice lo hi none p2) pos) (fE K (xo fa fl fh)):=by subst hK;exact FW he hl hh
structure xq (X:Cx) (K:⇑0) (op:CmpOp) (g:En->Rv->Rv->Option Rv):Prop where ex:∃r,lS X (VC op) r/\lR K r g
theorem CN:xq X K .Lt DT:=⟨_,MO,Oc⟩
theorem CM:xq X K .Gt Ht:=⟨_,MN,N5⟩
theorem CL:xq X K .GtE G7:=⟨_,MM,N4⟩
theorem qs{k:Nat}(hK:X.K=K)(hr:eB k X.A):xq X K .Eq (bR false):=⟨_,hK▸K_ hr,JI⟩
theorem qt{k:Nat}(hK:X.K=K)(hr:eB k X.A):xq X K .NotEq (bR true):=⟨_,hK▸Lb hr,JI⟩
theorem Ko{k:Nat}(hK:X.K=K)(hr:eB k X.A):xq X K .In (Hu false):=⟨_,hK▸K' hr,N9⟩
theorem xE:xq X K .IsNot qD:=⟨_,Dj,Hy⟩
theorem pU{op:CmpOp}{g:En->Rv->Rv->Option Rv}(h:xq X K op g)(ha:PE X a (fE K fa))(hb:PE X b (fE K fb))(hm:WD op b=false):PE X (.Compare a [op] [b] pos) (fE K (ay g fa fb)):=by obtain⟨r,h1,h2⟩:=h.ex;exact Lw h1 h2 ha hb hm
theorem a9{op:CmpOp}{g:En->Rv->Rv->Option Rv}(h:xq X K op g)(ha:PE X a (fE K fa))(hb:PE X b (fE K fb))(hm:WD op b=false):PT X (.Compare a [op] [b] pos) (fT K (aI (ay g fa fb))):=by obtain⟨r,h1,h2⟩:=h.ex;exact LB h1 h2 ha hb hm
structure tH (X:Cx) (K:⇑0) (x:Str) (g:En->List Rv->Option Rv):Prop where ex:(∃id r,fR X (.builtin id) r/\gX K r g/\Vu x=some (.builtin id))\/∃T r,fR X (.type T) r/\gX K r g/\Vu x=some (.type T)
theorem aZ{x:Str}{g:En->List Rv->Option Rv}(h:tH X K x g)(hg:Gl X x)(hm:X.mg x=none)(ha:PA X (a::es) (fA K fs))(hn:x≠"__name__")(hdb:(x==("__debug__":Str))=false)(he:Ue (a::es) X.env=(false,Ui a X.env)::Ue es X.env)(hpl:(UD pos (Ue es X.env)).any (·.1)=false):PE X (.Call (.Name x p) (a::es) [] pos) (fE K (aL g fs)):=by
 rcases h.ex with⟨id,r,h1,h2,h3⟩|⟨T,r,h1,h2,h3⟩;·exact FU h1 h2 hg hm h3 ha hn hdb he hpl
 ·exact Ds h1 h2 hg hm h3 ha hn hdb he hpl
theorem b_len(hK:X.K=K):tH X K "len" (g1 gU):=⟨.inl ⟨_,_,hK▸pj,MD,PySem.boot_len⟩⟩
theorem b_abs:tH X K "abs" (g1 AZ):=⟨.inl ⟨_,_,El,Mg,PyProof.Rows.boot_abs⟩⟩
theorem b_min(hc:X.calm=true):tH X K "min" (g2 EE):=⟨.inl ⟨_,_,CS hc,MG,PyProof.Rows.boot_min⟩⟩
theorem b_max(hc:X.calm=true):tH X K "max" (g2 C0):=⟨.inl ⟨_,_,CQ hc,MF,PyProof.Rows.boot_max⟩⟩
theorem b_int:tH X K "int" (g1 qC):=⟨.inr ⟨_,_,CO,Mu,PyProof.Rows.boot_int⟩⟩
theorem b_tuple(hK:X.K=K):tH X K "tuple" (g1 cz):=⟨.inr ⟨_,_,hK▸vf,Jm,PyProof.Rows.boot_tuple⟩⟩
theorem b_sum{k:Nat}(hK:X.K=K)(hr:eB k X.A):tH X K "sum" (g1 (i4 wF)):=⟨.inl ⟨_,_,hK▸Ep hr,M',PyProof.Rows.boot_sum⟩⟩
theorem b_all{k:Nat}(hK:X.K=K)(hr:eB k X.A):tH X K "all" (g1 (i4 rS)):=⟨.inl ⟨_,_,Em hr hK,Mi,Eg⟩⟩
theorem b_sorted(hK:X.K=K):tH X K "sorted" (g1 lE):=⟨.inl ⟨_,_,hK▸AR,I_,PyProof.Rows.boot_sorted⟩⟩
theorem b_repr{k:Nat}(hK:X.K=K)(hr:eB k X.A):tH X K "repr" (g1 rW):=⟨.inl ⟨_,_,hK▸AQ hr,LK,PyProof.Rows.boot_repr⟩⟩
abbrev aX:FT:=λe=>some (true,e)
theorem tJ.mono{ifs:List TU}{t t':TT}(h:tJ X ifs t)(m:∀σ H Q,t' σ H Q->t σ H Q):tJ X ifs t':=λpins s σ H Q I q=>h pins s σ H Q I (m σ H Q q)
theorem cG:tJ X [] (fT K aX):=IJ.mono λσ H Q h=>by obtain⟨F,e,b,e',R,hf,q⟩:=h;cases hf;exact q F H (hV.refl _ _ _ _) R
theorem ng{c:TU}{ft:FT}(h:PT X c (fT K ft)):tJ X [c] (fT K ft):=IK h
variable{o:TU}{fo:FE}{apos cpos:Pos}
theorem eI(hK:X.K=K)(ho:PE X o (fE K fo))(ha:PA X (a::es) (fA K fs))(hbase:WU o "append" X.env (Ui o X.env)=Ui o X.env)(hfew:((UD cpos (Ue (a::es) X.env)).all (λx=>!x.1)&&(backToKw cpos (WV [] X.env)).all (λx=>x.1.isSome)&&decide ((a::es).length+([]:List Vn).length+(if ([]:List Vn).isEmpty then 0 else 1)<30))=true)(hline:(apos.endLine==cpos.line)=true)(hs:Ue (a::es) X.env=(false,Ui a X.env)::Ue es X.env)(hplain:(UD cpos (Ue es X.env)).any (·.1)=false):PE X (.Call (.Attribute o "append" apos) (a::es) [] cpos) (fE K (cS bG fo fs)):=by subst hK;exact J0 YJ PySem.F.type_list_append nc D6 ho ha hbase hfew hline hs hplain
theorem yy(hK:X.K=K)(ho:PE X o (fE K fo))(ha:PA X (a::es) (fA K fs))(hbase:WU o "pop" X.env (Ui o X.env)=Ui o X.env)(hfew:((UD cpos (Ue (a::es) X.env)).all (λx=>!x.1)&&(backToKw cpos (WV [] X.env)).all (λx=>x.1.isSome)&&decide ((a::es).length+([]:List Vn).length+(if ([]:List Vn).isEmpty then 0 else 1)<30))=true)(hline:(apos.endLine==cpos.line)=true)(hs:Ue (a::es) X.env=(false,Ui a X.env)::Ue es X.env)(hplain:(UD cpos (Ue es X.env)).any (·.1)=false):PE X (.Call (.Attribute o "pop" apos) (a::es) [] cpos) (fE K (cS gB fo fs)):=by subst hK;exact J0 PySem.F.slot_list_pop PySem.F.type_list_pop E8 ID ho ha hbase hfew hline hs hplain
end
theorem Bs{K:⇑0}{H:Hp}{a:TM}{ns:List Int}{m:FM}{as':List Sv}{Q:VK}{E:XK}(hS:jU K H a (ns.map V.int))(hm:m [.d (.list (ns.map .int))]=some (.d (.bool true),as'))(q:∀H',Q (.bl true) H'):eu K 1 m [.ref a] H Q E:=by
 refine⟨rfl,H,[.d (.list (ns.map .int))],_,as',?_,?_,hm,trivial,λF' H' v X' R' A'=>?_⟩
 ·refine⟨aF.refl _,rfl,λi x h=>?_,λi xs h=>?_,λi xss h=>?_,λi j l f1 _=>?_⟩;·match i,h with|0,h=>simp at h;subst h;exact⟨.ref a,rfl,dD.mpr ⟨a,_,rfl,hS,aW.ints.mpr rfl⟩⟩|i+1,h=>simp at h
  ·match i,h with|0,h=>simp at h|i+1,h=>simp at h
  ·match i,h with|0,h=>simp at h|i+1,h=>simp at h
  ·rcases f1 with⟨_,h,_⟩|⟨_,_,_,h,_⟩;·match i,h with|0,h=>simp at h|i+1,h=>simp at h
   ·match i,h with|0,h=>simp at h|i+1,h=>simp at h
 ·intro i xss h;match i,h with|0,h=>simp at h|i+1,h=>simp at h
 ·rw[gb.mp (show DA K F' (.bool true) v from A')];exact q H'
section
variable{K:⇑0}{σ:L2.St}{H0 F H F' H':Hp}{e e':En}
theorem bz.putN(R:bz K F H σ e){i:Nat}{xss yss:List (List TN)}{l:TM}{bs:List TM}{H':Hp}(hi:e[i]?=some (some (.n xss)))(hs:σ[i]?=some (some (.ref l)))(hF:F l=none)(hl:H' l=some (.lst (bs.map V.ref)))(hlen:bs.length=yss.length)(hnd:bs.Nodup)(hnl:l∉bs)(hin:∀(k:Nat) (b:TM) (ys:List TN),bs[k]?=some b->yss[k]?=some ys->F b=none/\∃us,H' b=some (.lst us)/\aW K F ys us)(hbs:∀b∈bs,Fp σ e H i b\/¬c9 σ e H b)(hdom:∀a,H' a=none->H a=none)(hst:∀a o,H a=some o->a≠l->a∉bs->H' a=some o)(hlst:∀a vs,H a=some (.lst vs)->∃vs',H' a=some (.lst vs')):bz K F H' σ (e.set i (some (.n yss)))/\(∀a,c9 σ (e.set i (some (.n yss))) H' a->c9 σ e H a\/a∈bs)/\∀j:Nat,(∃xs,(e.set i (some (Sv.n yss)))[j]?=some (some (.l xs)))↔(∃xs,e[j]?=some (some (.l xs))):=by
 have hlt:i<e.length:=(TC hi).1;have gi:(e.set i (some (Sv.n yss)))[i]?=some (some (.n yss)):=UW hlt;obtain⟨l0,bs0,a1,a2,a3,_⟩:=R.nst i xss hi;rw[hs]at a1;cases a1;have fl:Fp σ e H i l:=.inr ⟨xss,l,bs0,hi,hs,a3,.inl rfl⟩;have own:∀j a,j≠i->Fp σ e H j a->a≠l/\a∉bs:=λj a hj hq=>by
  refine⟨λz=>hj (R.fp j i a hq (by rw[z];exact fl)),λz=>?_⟩;rcases hbs a z with h|h;·exact hj (R.fp j i a hq h)
  ·exact h ⟨j,hq⟩
 have fpi:∀a,Fp σ (e.set i (some (.n yss))) H' i a->a=l\/a∈bs:=λa q=>by
  rcases q with⟨zs,q,_⟩|⟨zss,l',bs',q,q2,q3,q4⟩;·rw[gi]at q;cases q
  ·rw[hs]at q2;cases q2;rw[hl]at q3;have e1:bs=bs':=List.map_inj_right (λ_ _ z=>V.ref.inj z)|>.mp (HO.lst.inj (UH q3));subst e1;exact q4
 obtain⟨R',fs⟩:=R.upd1 (F':=F) (H':=H') (e':=e.set i (some (.n yss))) i (by rw[VG];exact R.len) ↥4 (λj hj=>UA (UQ hj)) (aF.refl F) (λb o q=>by
  have z1:b≠l:=λz=>by rw[z,hF]at q;cases q
  have z2:b∉bs:=λz=>by
   obtain⟨k,hk⟩:=We z;have hk2:k<yss.length:=by rw[<-hlen];exact(TC hk).1
   rw[(hin k b yss[k] hk (Um hk2)).1]at q;cases q
  exact hst b o (R.sm b o q) z1 z2) (λj a _ q=>(R.fpAt q).1) (λj a o hj q ha=>let⟨z1,z2⟩:=own j a hj q;hst a o ha z1 z2) (λx q=>by rw[gi]at q;cases q) (λzs q=>by rw[gi]at q;cases q) (λzss q=>by rw[gi]at q;cases q;exact⟨l,bs,hs,hF,hl,hlen,hnd,hnl,hin⟩) (λa j hj q q2=>by obtain⟨z1,z2⟩:=own j a hj q2;exact(fpi a q).elim z1 z2);refine⟨R',λa⟨j,q⟩=>?_,λj=>?_⟩
 ·by_cases z:j=i
  ·subst z;rcases fpi a q with z|z;·exact .inl ⟨j,by rw[z];exact fl⟩
   ·exact .inr z
  ·exact .inl ⟨j,(fs j a z).mp q⟩
 ·by_cases z:j=i;·subst z;rw[gi,hi];simp
  ·rw[UA (UQ z)]
theorem bz.frzN(R:bz K F H σ e){i:Nat}{xss:List (List TN)}(hi:e[i]?=some (some (.n xss))):∃F' v,σ[i]?=some (some v)/\DA K F' (.list (xss.map .list)) v/\bz K F' H σ (e.set i (some (.d (.list (xss.map .list)))))/\hV σ F H e F' H (e.set i (some (.d (.list (xss.map .list))))):=by
 obtain⟨l,bs,a1,a2,a3,a4,a5,a6,a7⟩:=R.nst i xss hi;have hlt:i<e.length:=(TC hi).1;have inF:∀a,a=l\/a∈bs->Fp σ e H i a:=λa h=>.inr ⟨xss,l,bs,hi,a1,a3,h⟩;let F':Hp:=λa=>if a=l\/a∈bs then H a else F a;have pos:∀a,(a=l\/a∈bs)->F' a=H a:=λa h=>if_pos h;have neg:∀a,¬(a=l\/a∈bs)->F' a=F a:=λa h=>if_neg h;have sF:aF F F':=λb o q=>by
  have z:¬(b=l\/b∈bs):=λz=>by rw[(R.fpAt (inF b z)).1]at q;cases q
  rw[neg b z];exact q
 have sm:aF F' H:=λb o q=>by
  by_cases z:b=l\/b∈bs;·rw[pos b z]at q;exact q
  ·rw[neg b z]at q;exact R.sm b o q
 have dd:∀(cs:List TM) (yss:List (List TN)),cs.length=yss.length->(∀(k:Nat) (b:TM) (ys:List TN),cs[k]?=some b->yss[k]?=some ys->b∈bs/\∃us,H b=some (.lst us)/\aW K F ys us)->aW K F' (yss.map .list) (cs.map V.ref):=by intro cs;induction cs with
  |nil=>intro yss h _;cases yss with|nil=>exact aW.nil|cons _ _=>simp at h
  |cons c cs ih=>intro yss h hh;cases yss with|nil=>simp at h|cons ys yss=>obtain⟨c1,us,c2,c3⟩:=hh 0 c ys rfl rfl;refine aW.cons (dD.mpr ⟨c,us,rfl,.inl (.inl ?_),c3.mono sF⟩) (ih yss (by simpa using h) λk b zs q1 q2=>hh (k+1) b zs (by simpa using q1) (by simpa using q2));rw[pos c (.inr c1)];exact c2
 have da:DA K F' (.list (xss.map .list)) (.ref l):=dD.mpr ⟨l,_,rfl,.inl (.inl (by rw[pos l (.inl rfl)];exact a3)),dd bs xss a4 λk b ys q1 q2=>by obtain⟨_,us,c2,c3⟩:=a7 k b ys q1 q2;exact⟨TK q1,us,c2,c3⟩⟩;have gi:(e.set i (some (Sv.d (.list (xss.map .list)))))[i]?=some (some (.d (.list (xss.map .list)))):=UW hlt;have nofp:∀a,¬Fp σ (e.set i (some (.d (.list (xss.map .list))))) H i a:=λa q=>by
  rcases q with⟨zs,q,_⟩|⟨xss,_,_,q,_⟩;·rw[gi]at q;cases q
  ·rw[gi]at q;cases q
 obtain⟨R',fs⟩:=R.upd1 (F':=F') (H':=H) (e':=e.set i (some (.d (.list (xss.map .list))))) i (by rw[VG];exact R.len) ↥4 (λj hj=>UA (UQ hj)) sF sm (λj a hj q=>by rw[neg a λz=>hj (R.fp j i a q (inF a z))];exact(R.fpAt q).1) (λj a o _ _ ha=>ha) (λx q=>by rw[gi]at q;cases q;exact⟨_,a1,da⟩) (λzs q=>by rw[gi]at q;cases q) (λzss q=>by rw[gi]at q;cases q) (λa j hj q=>absurd q (nofp a));refine⟨F',.ref l,a1,da,R',⟨sF,λ_ h=>h,λa vs h1 h2 h3=>?_,λa vs h=>⟨vs,h⟩,λ_ _ h _=>h,λj=>?_,λa⟨j,q⟩=>?_,λa m h1 h2 h3=>by rw[neg a λz=>h3 ⟨i,inF a z⟩];exact h1⟩⟩;·rw[neg a λz=>h3 ⟨i,inF a z⟩];exact h1
 ·by_cases z:j=i;·subst z;rw[gi,hi];simp
  ·rw[UA (UQ z)]
 ·by_cases z:j=i;·subst z;exact absurd q (nofp a)
  ·exact .inl ⟨j,(fs j a z).mp q⟩
theorem bz.setN(R:bz K F H σ e)(i:Nat){l:TM}(h1:F l=none)(h2:H l=some (.lst []))(h4:¬c9 σ e H l):bz K F H (σ.set i (some (.ref l))) (e.set i (some (.n [])))/\∀a,c9 (σ.set i (some (.ref l))) (e.set i (some (.n []))) H a->c9 σ e H a\/a=l:=by
 have gi:∀s,(e.set i (some (Sv.n [])))[i]?=some (some s)->s=.n []/\i<e.length:=λs q=>by
  have hlt:i<e.length:=by have:=(TC q).1;simpa using this
  rw[UW hlt]at q;exact⟨(UH (UH q)).symm,hlt⟩
 have onefp:∀a,Fp (σ.set i (some (.ref l))) (e.set i (some (.n []))) H i a->a=l:=λa q=>by
  rcases q with⟨zs,q,q2⟩|⟨xss,l',bs,q,q2,q3,q4⟩;·cases (gi _ q).1
  ·obtain⟨_,hlt⟩:=gi _ q;rw[UW (by rw[R.len];exact hlt)]at q2;cases q2;rw[h2]at q3;have:bs=[]:=by cases bs with|nil=>rfl|cons _ _=>have z:=HO.lst.inj (UH q3);simp at z
   subst this;exact q4.elim id λz=>by cases z
 obtain⟨R',fs⟩:=R.upd1 (F':=F) (H':=H) (σ':=σ.set i (some (.ref l))) (e':=e.set i (some (.n []))) i (by rw[VG,VG];exact R.len) (λj hj=>UA (UQ hj)) (λj hj=>UA (UQ hj)) (aF.refl F) R.sm (λj a _ q=>(R.fpAt q).1) (λj a o _ _ ha=>ha) (λy q=>by cases (gi _ q).1) (λzs q=>by cases (gi _ q).1) (λzss q=>by obtain⟨z,hlt⟩:=gi _ q;cases z;exact⟨l,[],UW (by rw[R.len];exact hlt),h1,h2,rfl,Yu,by simp,λk b ys q=>by simp at q⟩) (λa j hj q q2=>h4 ⟨j,by rw[onefp a q]at q2;exact q2⟩);refine⟨R',λa⟨j,q⟩=>?_⟩;by_cases z:j=i;·subst z;exact .inr (onefp a q)
 ·exact .inl ⟨j,(fs j a z).mp q⟩
end
def cX(e:En)(i:Nat):Option (List (List TN)):=match e[i]? with|some (some (.n xss))=>some xss|_=>none
theorem jp{e:En}{i:Nat}{xss:List (List TN)}(h:cX e i=some xss):e[i]?=some (some (.n xss)):=by
 unfold cX at h;split at h;·rename_i heq;cases h;exact heq
 ·cases h
section
variable{X:Cx}{K:⇑0}{a b:TU}{es:List TU}{fa fb:FE}{fs:FA}{pos p p2 p3 pos':Pos}{x:Str}{i:Nat}
def Gk(i:Nat):FS:=λe=>some (.nx (e.set i (some (.n []))))
theorem IR(hN:X.N.Nodup)(hi:X.N[i]?=some x)(hx:Kg X.env.scope x)(hs:Ws (.List [] p) (some (.Name x pos')) pos.line X.env=pure false)(hf:X.fn x=true\/X.env.scope.names.lookup x=some .local):PS X (.Assign [.Name x pos'] (.List [] p) pos) (fS K (Gk i) [i]):=(FK hN hi hx (Fv qL) hs hf).mono λD σ H h=>by
 obtain⟨F,e,fl,R,hf,q⟩:=h;cases hf;refine⟨Wv _,λl hl=>?_⟩;obtain⟨R1,X1,f1,n1⟩:=R.newL (vs:=[]) hl;obtain⟨R2,o2⟩:=R1.setN i f1 aH n1;refine q F _ _ ⟨X1.sf,X1.dom,X1.fr,X1.lst,X1.tmp,λa h=>?_,λj n=>UA (λz=>n (by simp[z])),X1.fd⟩ R2;rcases o2 a h with z|z;·exact X1.ow a z
 ·exact .inr (by rw[z];exact hl)
def i7(i:Nat):FE:=λe=>(cX e i).map λxss=>(.d (.int xss.length),e)
theorem yx(hK:X.K=K)(hN:X.N[i]?=some x)(hv:G6 X.env.scope x)(hd:(x==("__debug__":Str))=false)(hcd:(x==("__classdict__":Str))=false)(hg:Gl X "len")(hm:X.mg "len"=none)(hst:Xl (.Name x p2)=false)(he:Ue [.Name x p2] X.env=(false,Ui (.Name x p2) X.env)::Ue [] X.env)(hpl:(UD pos (Ue [] X.env)).any (·.1)=false):PE X (.Call (.Name "len" p) [.Name x p2] [] pos) (fE K (i7 i)):=(uu (CP hK) hg hm PySem.boot_len (Im (qM hN hv hd hcd) qL hst) ⋯ ⋯ he hpl).mono λσ H Q h=>by obtain⟨F,e,z,e',R,hf,q⟩:=h;unfold i7 at hf;obtain⟨xss,h1,hf⟩:=TB hf;cases hf;obtain⟨l,bs,a1,a2,a3,a4,_⟩:=R.nst i xss (jp h1);refine⟨_,a1,l,_,rfl,.inl (.inl (.inl a3)),?_⟩;rw[Uq,a4];exact q F H _ (hV.refl _ _ _ _) R qT
def AB(i:Nat)(fa:FE):FE:=λe=>(cX e i).bind λ_=>(fa e).bind λp=>match p.1 with|.l ys=>(cX p.2 i).bind λxss=>if xss.length<1000000 then some (.d .none,p.2.set i (some (.n (xss++[ys])))) else none|_=>none
theorem Lv{apos cpos:Pos}(hK:X.K=K)(hN:X.N[i]?=some x)(hv:G6 X.env.scope x)(hd:(x==("__debug__":Str))=false)(hcd:(x==("__classdict__":Str))=false)(ha:PE X a (fE K fa))(hst:Xl a=false)(hbase:WU (.Name x p) "append" X.env (Ui (.Name x p) X.env)=Ui (.Name x p) X.env)(hfew:((UD cpos (Ue [a] X.env)).all (λx=>!x.1)&&(backToKw cpos (WV [] X.env)).all (λx=>x.1.isSome)&&decide ([a].length+([]:List Vn).length+(if ([]:List Vn).isEmpty then 0 else 1)<30))=true)(hline:(apos.endLine==cpos.line)=true)(hs:Ue [a] X.env=(false,Ui a X.env)::Ue [] X.env)(hplain:(UD cpos (Ue [] X.env)).any (·.1)=false):PE X (.Call (.Attribute (.Name x p) "append" apos) [a] [] cpos) (fE K (AB i fa)):=by subst hK;refine(Fq YU YJ PySem.F.type_list_append nc (qM hN hv hd hcd) (Im ha qL hst) hbase hfew hline hs hplain).mono λσ H Q h=>?_;obtain⟨F,e,z,e',R,hf,q⟩:=h;unfold AB at hf;obtain⟨xss0,h0,hf⟩:=Tz hf;obtain⟨⟨r,e1⟩,h1,hf⟩:=Tz hf;match r,h1,hf with
 |.l ys,h1,hf=>
 obtain⟨xss,h2,hf⟩:=Tz hf;split at hf;case isFalse=>cases hf
 case isTrue hlen=>
 cases hf;obtain⟨l,bs0,a1,_,a3,_⟩:=R.nst i xss0 (jp h0);refine⟨_,a1,.inl ⟨rfl,_,.inl (.inl a3)⟩,F,e,_,e1,R,h1,λF1 H1 v X1 R1 A1=>?_⟩;obtain⟨t,us,rfl,t1,t2,t3,t4,t5⟩:=A1;have h2':=jp h2;obtain⟨l',bs,c1,c2,c3,c4,c5,c6,c7⟩:=R1.nst i xss h2';rw[a1]at c1;cases c1;have fi:∀z,z=l\/z∈bs->Fp σ e1 H1 i z:=λz h=>.inr ⟨xss,l,bs,h2',a1,c3,h⟩;have tl:t≠l:=λz=>t5 ⟨i,fi t (.inl z)⟩;have tb:t∉bs:=λz=>t5 ⟨i,fi t (.inr z)⟩;have sl:Uj=16777216:=VD;refine⟨l,_,_,rfl,rfl,c3,by rw[Uq,c4];lia,?_⟩;have em:bs.map V.ref++[V.ref t]=(bs++[t]).map V.ref:=by simp
 rw[em];obtain⟨R2,o2,s2⟩:=R1.putN (yss:=xss++[ys]) (bs:=bs++[t]) (H':=cg H1 l (.lst ((bs++[t]).map V.ref))) h2' a1 c2 aH (by simp[c4]) (by rw[Xo];exact⟨c5,by simp,λx hx y hy=>by simp at hy;subst hy;exactλz=>tb (z▸hx)⟩) (by simp[c6,UQ tl]) (λk b zs q1 q2=>by
  rw[List.getElem?_append]at q1 q2;rw[c4]at q1;by_cases hk:k<xss.length;·rw[if_pos hk]at q1 q2;obtain⟨d1,us',d2,d3⟩:=c7 k b zs q1 q2;have zb:b≠l:=λz=>c6 (z▸TK q1);exact⟨d1,us',by rw[aJ zb];exact d2,d3⟩
  ·rw[if_neg hk]at q1 q2;have hk0:k-xss.length=0:=by have:=(TC q1).1;simp at this;lia
   rw[hk0]at q1 q2;simp at q1 q2;subst q1 q2;exact⟨t2,us,by rw[aJ tl];exact t3,t4⟩) (λb hb=>by
   rcases TF hb with hb|hb;·exact .inl (fi b (.inr hb))
   ·simp at hb;subst hb;exact .inr t5) (λz q=>by
   by_cases e0:z=l;·rw[e0,aH]at q;cases q
   ·rw[aJ e0]at q;exact q) (λz o q n1 _=>by rw[aJ n1];exact q) (λz vs q=>by
   by_cases e0:z=l;·rw[e0];exact⟨_,aH⟩
   ·rw[aJ e0];exact⟨vs,q⟩);refine q F1 _ .non ⟨X1.sf,λz q=>X1.dom z ?_,X1.fr,λz vs h=>?_,λz o h n=>?_,λj=>(s2 j).trans (X1.shp j),λz h=>?_,X1.fd⟩ R2 ((lD (K:=X.K) (F:=F1)).mpr rfl)
 ·by_cases e0:z=l;·rw[e0,aH]at q;cases q
  ·rw[aJ e0]at q;exact q
 ·obtain⟨vs',h'⟩:=X1.lst z vs h;by_cases e0:z=l;·rw[e0];exact⟨_,aH⟩
  ·rw[aJ e0];exact⟨vs',h'⟩
 ·have e0:z≠l:=λe0=>by
   rcases X1.ow z ⟨i,fi z (.inl e0)⟩with w|w;·exact n w
   ·rw[h]at w;cases w
  rw[aJ e0];exact X1.tmp z o h n
 ·rcases o2 z h with w|w;·exact X1.ow z w
  ·rcases TF w with w|w;·exact X1.ow z ⟨i,fi z (.inr w)⟩
   ·simp at w;subst w;exact .inr t1
def Qt(X:Cx)(K:⇑0)(a:TU)(f:En->Option Int):Prop:=∃t:TE,PE X a t/\∀σ F H e i (Q:VK),bz K F H σ e->f e=some i->Q (.int i) H->t σ H Q
def Dd(i:Nat):En->Option Int:=λe=>match e[i]? with|some (some (.d (.int k)))=>some k|_=>none
theorem LA(i:Nat)(hN:X.N[i]?=some x)(hv:G6 X.env.scope x)(hd:(x==("__debug__":Str))=false)(hcd:(x==("__classdict__":Str))=false):Qt X K (.Name x pos) (Dd i):=⟨_,qM hN hv hd hcd,λσ F H e k Q R hf q=>by
 unfold Dd at hf;split at hf;·rename_i heq;cases hf;obtain⟨v,h1,h2⟩:=R.dat i _ heq;exact⟨v,h1,by rw[bZ.mp h2];exact q⟩
 ·cases hf⟩
def nC(k:Int):En->Option Int:=λ_=>some k
theorem Lz{k:Int}{j}:Qt X K (.Constant (.int k) j pos) (nC k):=⟨_,Fu,λσ F H e i Q R hf q=>by cases hf;exact q⟩
def Dc(f g:En->Option Int):En->Option Int:=λe=>(f e).bind λi=>(g e).map λj=>i+j
theorem Ly{f g:En->Option Int}(ha:Qt X K a f)(hb:Qt X K b g):Qt X K (.BinOp a .Add b pos) (Dc f g):=by obtain⟨ta,h1,h2⟩:=ha;obtain⟨tb,h3,h4⟩:=hb;refine⟨_,JX Fj h1 h3,λσ F H e k Q R hf q=>?_⟩;unfold Dc at hf;obtain⟨i,g1,hf⟩:=Tz hf;obtain⟨j,g2,hf⟩:=TB hf;cases hf;exact h2 σ F H e i _ R g1 (h4 σ F H e j _ R g2 ⟨i,j,rfl,rfl,q⟩)
def wZ(i:Nat)(fv fp:FE)(fq:En->Option Int):FS:=λe=>(fv e).bind λr=>(ox r.1).bind λd=>(cX r.2 i).bind λ_=>(fp r.2).bind λp=>(bU p.1).bind λk=>(cX p.2 i).bind λxss=>(oz xss.length k).bind λkn=>(xss[kn]?).bind λys=>(fq p.2).bind λj=>(oz ys.length j).map λjn=>.nx (p.2.set i (some (.n (xss.set kn (ys.set jn d)))))
theorem IS{c pq:TU}{fv fp:FE}{fq:En->Option Int}{ps ps2:Pos}(hK:X.K=K)(he:PE X c (fE K fv))(hN:X.N[i]?=some x)(hv:G6 X.env.scope x)(hd:(x==("__debug__":Str))=false)(hcd:(x==("__classdict__":Str))=false)(hp:PE X a (fE K fp))(hpl:sI a)(hq:Qt X K pq fq)(ha:∀v,Vr (.Subscript (.Subscript (.Name x p) a ps2) pq ps) X.env v=(do
  let ov<-VR [v] (Ui (.Subscript (.Name x p) a ps2) X.env)let iv<-VR [v,ov] (Ui pq X.env)Wh ps
  VR [v,ov,iv] (setItem ov iv v)release [v,ov,iv] []))(hs:Xg [.Subscript (.Subscript (.Name x p) a ps2) pq ps] c pos.line X.env=pure false)(hw:Xh [.Subscript (.Subscript (.Name x p) a ps2) pq ps] c X.env=pure none)(h1:(Vv [.Subscript (.Subscript (.Name x p) a ps2) pq ps] X.env).map (·.2)=[Vr (.Subscript (.Subscript (.Name x p) a ps2) pq ps) X.env]):PS X (.Assign [.Subscript (.Subscript (.Name x p) a ps2) pq ps] c pos) (fS K (wZ i fv fp fq) []):=by
 obtain⟨tq,q1,q2⟩:=hq;refine(Bm he (Fy (JW (EO hK) (qM hN hv hd hcd) hp hpl) q1 An ha) hs hw h1).mono λD σ H h=>?_;obtain⟨F,e,fl,R,hf,q⟩:=h;unfold wZ at hf;obtain⟨⟨r,e1⟩,g1,hf⟩:=Tz hf;obtain⟨d,g2,hf⟩:=Tz hf;obtain⟨xs0,g3,hf⟩:=Tz hf;obtain⟨⟨rp,e2⟩,g4,hf⟩:=Tz hf;obtain⟨k,g5,hf⟩:=Tz hf;obtain⟨xss,g6,hf⟩:=Tz hf;obtain⟨kn,g7,hf⟩:=Tz hf;obtain⟨ys,g8,hf⟩:=Tz hf;obtain⟨j,g9,hf⟩:=Tz hf;obtain⟨jn,g10,hf⟩:=TB hf;cases hf;refine⟨F,e,r,e1,R,g1,λF1 H1 v X1 R1 A1=>?_⟩;obtain⟨l,bs0,a1,_⟩:=R1.nst i xs0 (jp g3);refine⟨_,a1,F1,e1,rp,e2,R1,g4,λF2 H2 w X2 R2 A2=>?_⟩;have X12:=X1.trans X2;obtain⟨F3,R3,s3,d3,f3⟩:=eC.frozen R2 (rs:=[r]) (vs:=[v]) ⟨v,[],rfl,A1.ext X2,rfl⟩ (m5 g2);have X13:=X12.frz s3 f3;have g6':=jp g6;obtain⟨l',bs,c1,c2,c3,c4,c5,c6,c7⟩:=R3.nst i xss g6';rw[a1]at c1;cases c1;obtain⟨b,hb⟩:∃b,bs[kn]?=some b:=⟨bs[kn]'(by rw[c4];exact(TC g8).1),Um _⟩;obtain⟨b1,us,b2,b3⟩:=c7 kn b ys hb g8;have fi:∀z,z=l\/z∈bs->Fp σ e2 H2 i z:=λz h=>.inr ⟨xss,l,bs,g6',a1,c3,h⟩;have bm:b∈bs:=TK hb;have bl:b≠l:=λz=>c6 (z▸bm);refine⟨l,_,k,.ref b,rfl,cN A2 g5,.inl (.inl c3),?_,q2 σ F3 H2 e2 j _ R3 g9 ?_⟩;·unfold atI;rw[Uq,c4,g7];show(bs.map V.ref)[kn]?=_;rw[Ut,hb];rfl
 refine⟨b,us,j,jn,rfl,rfl,b2,by rw[<-b3.len];exact g10,?_⟩;have dv:DA K F3 d v:=by simp only[aW]at d3;obtain⟨v',r',e',hv,_⟩:=d3;cases e';exact hv
 obtain⟨R4,o4,s4⟩:=R3.putN (yss:=xss.set kn (ys.set jn d)) (bs:=bs) (H':=cg H2 b (.lst (us.set jn v))) g6' a1 c2 (by rw[aJ (UQ bl)];exact c3) (by simp[c4]) c5 c6 (λm z zs z1 z2=>by
  by_cases em:m=kn;·subst em;rw[hb]at z1;cases z1;rw[UW (by exact(TC g8).1)]at z2;cases z2;exact⟨b1,_,aH,b3.set dv jn⟩
  ·rw[UA (UQ em)]at z2;obtain⟨d1,us',d2,d3⟩:=c7 m z zs z1 z2;have zb:z≠b:=λez=>by subst ez;exact em ((List.getElem?_inj (TC z1).1 c5).mp (z1.trans hb.symm))
   exact⟨d1,us',by rw[aJ zb];exact d2,d3⟩) (λz hz=>.inl (fi z (.inr hz))) (λz q=>by
   by_cases e0:z=b;·rw[e0,aH]at q;cases q
   ·rw[aJ e0]at q;exact q) (λz o q _ n2=>by have e0:z≠b:=λe0=>n2 (by rw[e0];exact bm);rw[aJ e0];exact q) (λz vs q=>by
   by_cases e0:z=b;·rw[e0];exact⟨_,aH⟩
   ·rw[aJ e0];exact⟨vs,q⟩);refine q F3 _ σ ⟨X13.sf,λz q=>X13.dom z ?_,X13.fr,λz vs h=>?_,λz o h n=>?_,λz h=>?_,λ_ _=>rfl,X13.fd⟩ R4
 ·by_cases e0:z=b;·rw[e0,aH]at q;cases q
  ·rw[aJ e0]at q;exact q
 ·obtain⟨vs',h'⟩:=X13.lst z vs h;by_cases e0:z=b;·rw[e0];exact⟨_,aH⟩
  ·rw[aJ e0];exact⟨vs',h'⟩
 ·have e0:z≠b:=λe0=>by
   rcases X13.ow z ⟨i,fi z (.inr (by rw[e0];exact bm))⟩with w|w;·exact n w
   ·rw[h]at w;cases w
  rw[aJ e0];exact X13.tmp z o h n
 ·rcases o4 z h with w|w;·exact X13.ow z w
  ·exact X13.ow z ⟨i,fi z (.inr w)⟩
def EI(i:Nat):FI:=λe=>(cX e i).map λxss=>(xss.map .list,[],e.set i (some (.d (.list (xss.map .list)))))
theorem IM{tg:TU}(hK:X.K=K)(hN:X.N[i]?=some x)(hv:G6 X.env.scope x)(hd:(x==("__debug__":Str))=false)(hcd:(x==("__classdict__":Str))=false):PI X tg (.Name x pos) (fI K (EI i)):=(zX (tg:=tg) hK (qM hN hv hd hcd)).mono λσ H R hh=>by obtain⟨F,e,items,own,e',R0,hf,q⟩:=hh;unfold EI at hf;obtain⟨xss,h1,hf⟩:=TB hf;cases hf;obtain⟨F',v,c1,c2,R1,X1⟩:=R0.frzN (jp h1);obtain⟨l,vs,rfl,d1,d2⟩:=dD.mp c2;exact⟨_,c1,l,rfl,⟨vs,R1.sm.seq d1⟩,q _ F' H X1 R1 (λ_ h=>by cases h) (wM (.lst d1 d2))⟩
def Jp(fo fa:FE):FE:=λe=>(fo e).bind λo=>(fa o.2).bind λp=>match p.1 with|.l ys=>(lN p.2 o.1).bind λs=>if s.2.length+ys.length<=1000000 then some (.d .none,p.2.set s.1 (some (.l (s.2++ys)))) else none|_=>none
theorem FQ{o:TU}{fo:FE}{apos cpos:Pos}(hK:X.K=K)(ho:PE X o (fE K fo))(ha:PE X a (fE K fa))(hst:Xl a=false)(hbase:WU o "extend" X.env (Ui o X.env)=Ui o X.env)(hfew:((UD cpos (Ue [a] X.env)).all (λx=>!x.1)&&(backToKw cpos (WV [] X.env)).all (λx=>x.1.isSome)&&decide ([a].length+([]:List Vn).length+(if ([]:List Vn).isEmpty then 0 else 1)<30))=true)(hline:(apos.endLine==cpos.line)=true)(hs:Ue [a] X.env=(false,Ui a X.env)::Ue [] X.env)(hplain:(UD cpos (Ue [] X.env)).any (·.1)=false):PE X (.Call (.Attribute o "extend" apos) [a] [] cpos) (fE K (Jp fo fa)):=by subst hK;refine(Fq YU PySem.F.slot_list_extend PySem.F.type_list_extend Da ho (Im ha qL hst) hbase hfew hline hs hplain).mono λσ H Q h=>?_;obtain⟨F,e,z,e',R,hf,q⟩:=h;unfold Jp at hf;obtain⟨⟨ro,e1⟩,h1,hf⟩:=Tz hf;obtain⟨⟨r,e2⟩,h2,hf⟩:=Tz hf;match r,h2,hf with
 |.l ys,h2,hf=>
 obtain⟨⟨n,xs⟩,h3,hf⟩:=Tz hf;split at hf;case isFalse=>cases hf
 case isTrue hlen=>cases hf;obtain⟨z3,h3'⟩:=xf h3;dsimp only at z3 h3';subst z3;refine⟨F,e,_,e1,R,h1,λF1 H1 v X1 R1 A1=>?_⟩;obtain⟨s1,zs,s2⟩:=A1;obtain⟨l,vs,c1,c2,c3,c4⟩:=R1.own n zs s2;rw[s1]at c1;cases c1;refine⟨.inl ⟨rfl,vs,.inl (.inl c3)⟩,F1,e1,_,e2,R1,h2,λF2 H2 w X2 R2 A2=>?_⟩;obtain⟨t,us,rfl,t1,t2,t3,t4,t5⟩:=A2;obtain⟨l',vs',d1,d2,d3,d4⟩:=R2.own n xs h3';rw[s1]at d1;cases d1;have l1:=d4.len;have l2:=t4.len;have sl:Uj=16777216:=VD;dsimp only at hlen;refine⟨l,t,vs',us,rfl,rfl,d3,t3,by lia,?_⟩;obtain⟨R3,X3⟩:=R2.putL h3' s1 (d4.append t4);exact q _ _ _ ((X1.trans X2).trans X3) R3 ((lD (K:=X.K) (F:=F2)).mpr rfl)
end
theorem qA{C:Int->Int->Bool}{f:Int->Int->TN}{e:En}{i j:Int}(h:C i j=true):gI C f e (.d (.int i)) (.d (.int j))=some (.d (f i j)):=by simp[gI,bU,h]
theorem gp{e:En}{i j:Int}:cy e (.d (.int i)) (.d (.int j))=some (.d (.int (i+j))):=rfl
theorem dH{e:En}{i j:Int}:my e (.d (.int i)) (.d (.int j))=some (.d (.int (i-j))):=rfl
theorem cC{e:En}{i j:Int}(h:oF i j=true):cL e (.d (.int i)) (.d (.int j))=some (.d (.int (i*j))):=by unfold cL DU tU;rw[qA h];rfl
theorem Be{i j:Int}(h1:-(2^64)<i)(h2:i<2^64):oF i j=true:=by
 have:lO i=true:=by unfold lO;rw[decide_eq_true h1,decide_eq_true h2];rfl
 unfold oF;rw[this];simp
theorem yk{i j:Int}(h1:-(2^64)<j)(h2:j<2^64):oF i j=true:=by
 have:lO j=true:=by unfold lO;rw[decide_eq_true h1,decide_eq_true h2];rfl
 unfold oF;rw[this];simp
theorem ko{i j:Int}(h1:Bt 4000 i)(h2:Bt 4000 j):oF i j=true:=by unfold oF;rw[lA.mpr h1,lA.mpr h2];simp
theorem a'{e:En}{i j:Int}(h:0<j):bx e (.d (.int i)) (.d (.int j))=some (.d (.int (i%j))):=by unfold bx;rw[qA ↥7];rw[Int.fmod_eq_emod_of_nonneg i ↥0]
theorem jl{e:En}{i j:Int}(h:0<j)(h2:Bt 8000 j):gY e (.d (.int i)) (.d (.int j))=some (.d (.int (i/j))):=by unfold gY;rw[qA (by simp[lA.mpr h2];lia)];rw[Int.fdiv_eq_ediv_of_nonneg i ↥0]
theorem jZ{e:En}{i j:Int}{neg:Bool}:bR neg e (.d (.int i)) (.d (.int j))=some (.d (.bool (if neg then !(i==j) else i==j))):=by unfold bR;simp[kW,Vj,Vi,US,Vk]
theorem j7{e:En}{i j:Int}:DT e (.d (.int i)) (.d (.int j))=some (.d (.bool (decide (i<j)))):=rfl
theorem j5{e:En}{i j:Int}:OT e (.d (.int i)) (.d (.int j))=some (.d (.bool (decide (i<=j)))):=rfl
theorem j3{e:En}{i j:Int}:Ht e (.d (.int i)) (.d (.int j))=some (.d (.bool (decide (j<i)))):=rfl
theorem j2{e:En}{i j:Int}:G7 e (.d (.int i)) (.d (.int j))=some (.d (.bool (decide (j<=i)))):=rfl
theorem iB{e:En}{i j:Int}:g2 EE e [.d (.int i),.d (.int j)]=some (.d (.int (min i j))):=by show some (Rv.d (.int (if j<i then j else i)))=_;congr 3;split<;>lia
theorem iA{e:En}{i j:Int}:g2 C0 e [.d (.int i),.d (.int j)]=some (.d (.int (max i j))):=by show some (Rv.d (.int (if j>i then j else i)))=_;congr 3;split<;>lia
theorem iC{e:En}{i:Int}:qE e (.d (.int i))=some (.d (.int (-i))):=rfl
theorem fF{e:En}{b:Bool}:g1 qC e [.d (.bool b)]=some (.d (.int (if b then 1 else 0))):=rfl
theorem iz{e:En}{i:Int}:g1 AZ e [.d (.int i)]=some (.d (.int i.natAbs)):=by show some (Rv.d (.int (if i<0 then-i else i)))=_;congr 3;split<;>lia
theorem qq{j:Int}(h1:0<j)(h2:j<2^64):Bt 8000 j:=Bt.mono (m:=64) (by unfold Bt;lia) ⋯
theorem hX{α:Type}{xs:List α}{i:Int}(h0:0<=i)(h:i<xs.length):atI xs i=xs[i.toNat]?:=by unfold atI oz;rw[if_pos h0,if_pos h];rfl
theorem pC{e:En}{i:Nat}{xs:List TN}{neg:Bool}(h:e[i]?=some (some (.l xs)))(hs:Vj (.list xs)=true):bR neg e (.s i) (.l [])=some (.d (.bool (if neg then !xs.isEmpty else xs.isEmpty))):=by
 unfold bR;simp only[kW,h,Ul,hs];have h0:Vj (.list [])=true:=by simp[Vj,Vi,Vy,US,VH]
 rw[h0];cases xs<;>simp[Vk,Xp]
theorem mS(ns:List Int):Vj (.list (ns.map .int))=true/\Vj (.tuple (ns.map .int))=true:=by
 have h1:Vy (ns.map PyData.int)=true:=by induction ns with|nil=>rfl|cons n r ih=>simp[Vy,Vi,ih]
 have h2:VH (ns.map PyData.int)=0:=by clear h1;induction ns with|nil=>rfl|cons n r ih=>simp[VH,US,ih]
 constructor<;>simp[Vj,Vi,US,h1,h2]
theorem cB{own:kG}{g:FG}{f:FS}(P:Nat->En->Prop):∀(items:List TN) (k:Nat) (e:En),(∀i x e,items[i]?=some x->P (k+i) e->∃e1 e2,g x e=some e1/\f e1=some (.nx e2)/\keeps own e2/\P (k+i+1) e2)->P k e->∃e',iX own g f items e=some (.nx e')/\P (k+items.length) e'|[],k,e,_,h=>⟨e,rfl,h⟩|x::r,k,e,hs,h=>by obtain⟨e1,e2,h1,h2,h3,h4⟩:=hs 0 x e rfl h;obtain⟨e',h5,h6⟩:=cB P r (k+1) e2 (λi y e hy hp=>by have:=hs (i+1) y e (by simpa using hy) (by rw[show k+(i+1)=k+1+i by lia];exact hp);rw[show k+(i+1)+1=k+1+i+1 by lia]at this;exact this) h4;refine⟨e',?_,by rw[Vc,show k+(r.length+1)=k+1+r.length by lia];exact h6⟩;unfold iX;simp only[h1,h2,Ul,if_pos h3];exact h5
theorem aV{e:En}:keeps [] e:=λ_ h=>by cases h
theorem cx{W:List Nat}{fi:FI}{g:FG}{f:FS}{e e1:En}{items:List TN}(h:fi e=some (items,[],e1)):cH W fi g f e=iX [] g f items e1:=by unfold cH;rw[h];rfl
theorem dS{lo:Int}{n i:Nat}{x:TN}(h:(bP lo n)[i]?=some x):x=.int (lo+i)/\i<n:=by unfold bP at h;rw[Ut]at h;obtain⟨k,h1,rfl⟩:=TB h;obtain⟨h2,h3⟩:=TC h1;simp at h2 h3;subst h3;exact⟨rfl,h2⟩
theorem ij{lo:Int}{n:Nat}:(bP lo n).length=n:=by simp[bP]
theorem eY{fs:FA}{e e1:En}{n:Int}(h:fs e=some ([.d (.int n)],e1))(h1:-1000000<=n)(h2:n<=1000000):eS fs e=some (bP 0 n.toNat,[],e1):=by
 unfold eS;rw[h];have:Gg n=true:=by unfold Gg;rw[decide_eq_true h1,decide_eq_true h2];rfl
 simp[bU,this]
theorem fg{ft:FT}{f:FS}(P:En->Prop)(μ:En->Nat)(hs:∀e,P e->(∃e1,ft e=some (false,e1)/\True)\/∃e1 e2,ft e=some (true,e1)/\f e1=some (.nx e2)/\P e2/\μ e2<μ e):∀(n:Nat) (e:En),P e->μ e<n->∃e0 e',lP ft f n e=some (.nx e')/\P e0/\ft e0=some (false,e'):=by intro n;induction n with|zero=>intro e _ h;lia|succ n ih=>
 intro e hp hm;rcases hs e hp with⟨e1,h1,_⟩|⟨e1,e2,h1,h2,h3,h4⟩;·exact⟨e,e1,by unfold lP;rw[h1];rfl,hp,h1⟩
 ·obtain⟨e0,e',g1,g2⟩:=ih e2 h3 ↥0;exact⟨e0,e',by unfold lP;rw[h1];simp only[Ul,if_true,h2];exact g1,g2⟩
theorem bI{cs:En}{ft:FT}{fe:FE}{b:TN->Bool}{y:TN->TN}:∀(items:List TN) (t:Option Sv) (acc:List TN),(∀x∈items,ft (cs++[some (.d x)])=some (b x,cs++[some (.d x)]))->(∀x∈items,b x=true->fe (cs++[some (.d x)])=some (.d (y x),cs++[some (.d x)]))->acc.length+items.length<=1000000->∃t',bT (af cs.length) ft fe items (cs++[t]) acc=some (acc++(items.filter b).map y,cs++[t'])
 |[],t,acc,_,_,_=>⟨t,by simp[bT]⟩|x::r,t,acc,h1,h2,hl=>by
  have hg:af cs.length x (cs++[t])=some (cs++[some (.d x)]):=by simp[af]
  have h1x:=h1 x ↥1;unfold bT;rw[hg];simp only[Ul,h1x];cases hb:b x with|true=>simp only[if_true,h2 x ↥1 hb,Ul,ox];rw[if_pos (by simp at hl;lia)];obtain⟨t',ih⟩:=bI (b:=b) (y:=y) r (some (.d x)) (acc++[y x]) (λz hz=>h1 z (by simp[hz])) (λz hz=>h2 z (by simp[hz])) (by simp at hl⊢;lia);exact⟨t',by rw[ih];simp[hb]⟩|false=>simp only[WZ,if_false];obtain⟨t',ih⟩:=bI (b:=b) (y:=y) r (some (.d x)) acc (λz hz=>h1 z (by simp[hz])) (λz hz=>h2 z (by simp[hz])) (by simp at hl;lia);exact⟨t',by rw[ih];simp[hb]⟩
theorem oU{cp:List (Nat×Str)}{nT:Nat}{fi:FI}{g:FG}{ft:FT}{fe:FE}{e e1 eo:En}{items out:List TN}(h1:fi e=some (items,[],e1))(h3:bT g ft fe items (oV cp nT e1) []=some (out,eo))(h4:(cp.all λp=>!A4 e1[p.1]?)=true):bD cp nT fi g ft fe e=some (.l out,e1):=by
 unfold bD;rw[h1];simp only[Ul,XN,if_true,h3];have hb:jv cp eo e1=true:=by unfold jv;rw[Vd]at h4⊢;intro p hp;rw[h4 p hp];rfl
 rw[if_pos hb];congr 2;refine VT λi=>?_;rw[bX];match hi:e1[i]? with|none=>rfl|some none=>rfl|some (some (.d x))=>rfl|some (some (.n x))=>rfl|some (some (.l x))=>cases hp:oK cp i with|none=>simp[hp]|some k=>obtain⟨s,hs⟩:=fK hp;have:=Vd.mp h4 _ (TK hs);simp[hi,A4]at this
theorem lF{fa:FE}{e e1:En}{xs:List TN}(h:fa e=some (.d (.tuple xs),e1)):eE fa e=some (xs,[],e1):=by unfold eE;rw[h];rfl
theorem Hx{fa:FE}{e e1:En}{xs:List TN}(h:fa e=some (.d (.list xs),e1)):eE fa e=some (xs,[],e1):=by unfold eE;rw[h];rfl
theorem tY{fa:FE}{e e1:En}{xs:List TN}(h:fa e=some (.l xs,e1)):eE fa e=some (xs,[],e1):=by unfold eE;rw[h];rfl
theorem dg{cp:List (Nat×Str)}{nT:Nat}{fi:FI}{g:FG}{ft:FT}{fe:FE}{e e1 cs:En}{t t':En}{items out:List TN}(h1:fi e=some (items,[],e1))(hc:oV cp nT e1=cs++t)(hl:cs.length=cp.length)(h3:bT g ft fe items (oV cp nT e1) []=some (out,cs++t')):bD cp nT fi g ft fe e=some (.l out,e1):=by
 have key:∀i x,e1[i]?=some (some (.l x))->∀k,oK cp i=some k->(cs++t')[k]?=some (some (.l x)):=by
  intro i x hi k hk;obtain⟨s,hs⟩:=fK hk;have hk2:k<cp.length:=(TC hs).1;have:(oV cp nT e1)[k]?=some (some (.l x)):=by unfold oV;rw[UX (by simpa using hk2),Ut,hs];simp[hi,ME]
  rw[hc,UX ↥0]at this;rw[UX ↥0];exact this
 unfold bD;rw[h1];simp only[Ul,XN,if_true,h3];have hb:jv cp (cs++t') e1=true:=by unfold jv;rw[Vd];intro p hp;match hi:e1[p.1]? with|none=>simp[A4]|some none=>simp[A4]|some (some (.d x))=>simp[A4]|some (some (.n x))=>simp[A4]|some (some (.l x))=>cases hq:oK cp p.1 with|none=>unfold oK at hq;rw[Ys]at hq;have:=hq p hp;simp at this|some k=>simp[key p.1 x hi k hq,A4]
 rw[if_pos hb];congr 2;refine VT λi=>?_;rw[bX];match hi:e1[i]? with|none=>rfl|some none=>rfl|some (some (.d x))=>rfl|some (some (.n x))=>rfl|some (some (.l x))=>cases hp:oK cp i with|none=>simp[hp]|some k=>simp[hp,key i x hi k hp]
theorem og{α:Type}{xs:List α}{i:Int}(h0:0<=i)(h1:i<xs.length):∃x∈xs,atI xs i=some x:=by rw[hX h0 h1];exact⟨xs[i.toNat]'↥0,Xd _,Um _⟩
theorem rT{e:En}{xs:List TN}{i:Int}:bF e (.l xs) (.d (.int i))=(atI xs i).map .d:=rfl
theorem gu{e:En}{xs:List TN}{i:Int}:bF e (.d (.tuple xs)) (.d (.int i))=(atI xs i).map .d:=rfl
theorem ms{e:En}{xs:List TN}{i:Int}:bF e (.d (.list xs)) (.d (.int i))=(atI xs i).map .d:=rfl
theorem rV{e:En}{j:Nat}{xs:List TN}{i:Int}(h:e[j]?=some (some (.l xs))):bF e (.s j) (.d (.int i))=(atI xs i).map .d:=by simp[bF,iS,h,bU]
theorem mx{e:En}{xs:List TN}:g1 gU e [.d (.tuple xs)]=some (.d (.int xs.length)):=rfl
theorem j6{e:En}{xs:List TN}:g1 gU e [.d (.list xs)]=some (.d (.int xs.length)):=rfl
theorem mv{e:En}{xs:List TN}:g1 gU e [.l xs]=some (.d (.int xs.length)):=rfl
theorem mw{e:En}{j:Nat}{xs:List TN}(h:e[j]?=some (some (.l xs))):g1 gU e [.s j]=some (.d (.int xs.length)):=by simp[g1,gU,iS,h]
theorem iE{e:En}{j:Nat}{xs:List TN}(h:e[j]?=some (some (.l xs))):g1 cz e [.s j]=some (.d (.tuple xs)):=by simp[g1,cz,iS,h]
theorem iD{e:En}{xs:List TN}:g1 cz e [.l xs]=some (.d (.tuple xs)):=rfl
theorem fH{e:En}{xs:List TN}:g1 cz e [.d (.list xs)]=some (.d (.tuple xs)):=rfl
theorem iF{e:En}{xs:List TN}:g1 cz e [.d (.tuple xs)]=some (.d (.tuple xs)):=rfl
theorem nG{e:En}{xs:List TN}{lo hi:Option Int}:NF e (.d (.tuple xs)) lo hi=some (.d (.tuple (cutD xs lo hi))):=rfl
theorem qz{e:En}{xs ys:List TN}(h:xs.length+ys.length<=1000000):cy e (.d (.tuple xs)) (.d (.tuple ys))=some (.d (.tuple (xs++ys))):=by simp[cy,DU,ED,gI,bU,zt,iS,h]
theorem EF{e:En}{i j:Int}(h:j≠0):bx e (.d (.int i)) (.d (.int j))=some (.d (.int (i.fmod j))):=by unfold bx;rw[qA (by simpa using h)]
theorem BY{e:En}{i j:Int}(h:j≠0)(h2:Bt 8000 j):gY e (.d (.int i)) (.d (.int j))=some (.d (.int (i.fdiv j))):=by unfold gY;rw[qA (by simp[lA.mpr h2,h])]
theorem pE{e:En}{i j:Int}(h:FJ i j=true):A0 e (.d (.int i)) (.d (.int j))=some (.d (.int (i^j.toNat))):=by unfold A0;rw[qA h]
theorem pT:FJ 10 18=true:=by decide
theorem eg{f g:FS}{e e1:En}(h:f e=some (.nx e1)):aC f g e=g e1:=by unfold aC;rw[h];rfl
theorem J6{ft:FT}{f g:FS}{e e1:En}(h:ft e=some (true,e1)):kD ft f g e=f e1:=by unfold kD;rw[h];rfl
theorem J5{ft:FT}{f g:FS}{e e1:En}(h:ft e=some (false,e1)):kD ft f g e=g e1:=by unfold kD;rw[h];rfl
def gZ(i:Nat)(e:En):Nat:=match e[i]? with|some (some (.l xs))=>xs.length|_=>0
def wU(i:Nat)(e:En):Nat:=match e[i]? with|some (some (.d (.int k)))=>k.natAbs|_=>0
theorem lK{n m:Nat}(h:n<2^m)(hm:m<=4200):n<2^4200:=UU h (XH ⋯ hm)
theorem md{α:Type}{a:α}{r:List α}:atI (a::r) 0=some a:=by rw[hX ⋯ ↥1];rfl
theorem cU{α:Type}{a b:α}{r:List α}:atI (a::b::r) 1=some b:=by rw[hX ⋯ ↥7];rfl
theorem me{α:Type}{a b c:α}{r:List α}:atI (a::b::c::r) 2=some c:=by rw[hX ⋯ ↥7];rfl
theorem mf{α:Type}{a b c d:α}{r:List α}:atI (a::b::c::d::r) 3=some d:=by rw[hX ⋯ ↥7];rfl
theorem fU{W:aA}{k:Int}(h:kc W k):atI (W.ties.map bi) k=some (bi (W.tie k)):=by rw[hX h.1 (by rw[Uq];exact h.2),Ut,h.get];rfl
theorem D8{ns:List Int}{k:Int}(h0:0<=k)(h1:k<(ns.length:Int)):atI (ns.map PyData.int) k=some (.int (ns.getD k.toNat 0)):=by
 rw[hX h0 (by rw[Uq];exact h1),Ut];have:k.toNat<ns.length:=by lia
 simp[this]
theorem rD{a b c d:TN}:cutD [a,b,c,d] none (some 2)=[a,b]:=rfl
theorem fD{a b c d:TN}:cutD [a,b,c,d] (some 2) none=[c,d]:=rfl
theorem fx{a b c:TN}:cutD [a,b,c] (some 1) none=[b,c]:=rfl
theorem y_(ns:List Int):Vy (ns.map PyData.int)=true:=by induction ns with|nil=>rfl|cons n r ih=>simp[Vy,Vi,ih]
theorem y4{x:Int}:∀(ns:List Int),((ns.map PyData.int).any λy=>Vk y (.int x))=ns.contains x|[]=>rfl|n::r=>by rw[Uo,List.any_cons,y4 r,List.contains_cons];show(n==x||_)=_;rw[show(n==x)=(x==n) by rw[Xm];simp;exact eq_comm]
theorem gq{e:En}{x:Int}{ns:List Int}{neg:Bool}:Hu neg e (.d (.int x)) (.d (.tuple (ns.map .int)))=some (.d (.bool (if neg then !ns.contains x else ns.contains x))):=by unfold Hu;simp only[kW,iS,Ul,y_,y4];simp[Vi,US]
theorem j4{e:En}{x a b:Int}{neg:Bool}:Hu neg e (.d (.int x)) (.d (.tuple [.int a,.int b]))=some (.d (.bool (if neg then !(a==x||b==x) else(a==x||b==x)))):=by
 have h:=gq (e:=e) (x:=x) (ns:=[a,b]) (neg:=neg);simp only[Uo,Uv]at h;rw[h];have:[a,b].contains x=(a==x||b==x):=by simp only[List.contains_cons,List.contains_nil,Bool.or_false];rw[show(x==a)=(a==x) by rw[Xm];simp;exact eq_comm,show(x==b)=(b==x) by rw[Xm];simp;exact eq_comm]
 rw[this]
theorem tW{e:En}{ns:List Int}(h:ns.length<64):g1 lE e [.d (.tuple (ns.map .int))]=some (.l ((mT ns).map .int)):=by simp[g1,lE,iS,qI,h]
def Bj(p:Int->Bool):TN->Bool|.int k=>p k|_=>false
theorem Du{W:aA}{asked taken:List Int}:((bP 0 W.ties.length).filter (Bj λk=>W.may asked taken k))=(W.can asked taken).map .int:=by
 unfold bP aA.can aA.rng;rw[Yv,Yv,UJ];have:(Uu W.ties.length).filter ((Bj λk=>W.may asked taken k)∘fun(i:Nat)=>PyData.int (0+(i:Int)))=(Uu W.ties.length).filter ((λk=>W.may asked taken k)∘Int.ofNat):=by congr 1;funext i;simp[Bj]
 rw[this];refine XO λi _=>?_;simp
theorem cA(W:aA):ax W=.tuple [.int W.things,.tuple (W.ties.map bi),.tuple (W.pat.map .int),.int W.asks]:=rfl
def Sh(n:Nat)(d:TN):Prop:=d.canLay0=true/\d.depth<=n
theorem Sh.mono{n m:Nat}{d:TN}(h:Sh n d)(l:n<=m):Sh m d:=⟨h.1,UN h.2 l⟩
theorem Sh.ok{n:Nat}{d:TN}(h:Sh n d)(l:n<=64):Vj d=true:=by unfold Vj;rw[h.1,decide_eq_true (UN h.2 l)];rfl
theorem Sh.int{k:Int}:Sh 2 (.int k):=⟨by simp[Vi],by simp[US]⟩
theorem Sh.all{n:Nat}:∀{ds:List TN},(∀d∈ds,Sh n d)->Vy ds=true/\VH ds<=n|[],_=>⟨rfl,by simp[VH]⟩|d::r,h=>by obtain⟨a1,a2⟩:=h d ↥1;obtain⟨b1,b2⟩:=Sh.all (ds:=r) λx hx=>h x (by simp[hx]);exact⟨by simp[Vy,a1,b1],by simp only[VH];lia⟩
theorem Sh.tup{n:Nat}{ds:List TN}(h:∀d∈ds,Sh n d):Sh (n+2) (.tuple ds):=by obtain⟨b1,b2⟩:=Sh.all h;exact⟨by simp[Vi,b1],by simp only[US];lia⟩
theorem Sh.list{n:Nat}{ds:List TN}(h:∀d∈ds,Sh n d):Sh (n+2) (.list ds):=by obtain⟨b1,b2⟩:=Sh.all h;exact⟨by simp[Vi,b1],by simp only[US];lia⟩
theorem Sh.ints{ns:List Int}:Sh 4 (.tuple (ns.map .int)):=Sh.tup (n:=2) λd hd=>by obtain⟨k,_,rfl⟩:=TH hd;exact Sh.int
theorem Sh.st{a b:List Int}:Sh 6 (qu a b):=Sh.tup (n:=4) λd hd=>by simp only[Uy,UK,or_false]at hd;rcases hd with rfl|rfl<;>exact Sh.ints
mutual
theorem zo:∀{d:TN},d.canLay0=true->jz d=true->Vk d d=true|.none,_,_=>by simp[Vk]|.bool b,_,_=>by simp[Vk]|.int i,_,_=>by simp[Vk]|.str x,_,_=>by simp[Vk]|.tuple ds,h,f=>by simp only[Vk];exact rF (by simpa[Vi]using h) (by simpa[jz]using f)|.list ds,h,f=>by simp[jz]at f|.dict _,h,f=>by simp[jz]at f
theorem rF:∀{ds:List TN},Vy ds=true->jX ds=true->Xp ds ds=true|[],_,_=>by simp[Xp]|d::r,h,f=>by simp only[Vy,Uw]at h;simp only[jX,Uw]at f;simp only[Xp,zo h.1 f.1,rF h.2 f.2,Wc]
end
theorem zQ:∀(n:Nat) (l:List Int),l.Nodup->(∀k∈l,0<=k/\k<(n:Int))->l.length<=n
 |0,l,_,h=>by cases l with|nil=>simp|cons a r=>have:=h a ↥1;lia
 |n+1,l,hd,h=>by
  have ih:=zQ n (l.erase (n:Int)) (hd.erase _) λk hk=>by obtain⟨h1,h2⟩:=hd.mem_erase_iff.mp hk;have:=h k h2;lia
  by_cases c:(n:Int)∈l;·rw[List.length_erase_of_mem c]at ih;lia
  ·rw[List.erase_of_not_mem c]at ih;lia
abbrev Std:=List Int×List Int
structure qp (W:aA) (s:Std):Prop where
 inw:∀k∈s.1,kc W k
 nd:s.1.Nodup
 tk:s.2.length<=2*s.1.length
 th:∀t∈s.2,0<=t/\t<W.things
def nxt(W:aA)(s:Std)(k:Int)(b:Bool):Std:=(aA.askd s.1 k,W.took s.2 k b)
theorem qp.len{W:aA}{s:Std}(h:qp W s):s.1.length<=W.ties.length:=zQ _ _ h.nd λk hk=>h.inw k hk
theorem qp.first(W:aA):qp W ([],[]):=⟨λk h=>(by cases h),Yu,VA _,λk h=>(by cases h)⟩
theorem js{a:List Int}{k:Int}:(aA.askd a k).length=a.length+1:=by unfold aA.askd;rw[xh];simp
theorem qp.nxt{W:aA}{s:Std}{k:Int}(b:Bool)(ok:W.Ok)(h:qp W s)(hk:kc W k)(hn:k∉s.1):qp W (nxt W s k b):=by
 refine⟨λj hj=>?_,?_,?_,?_⟩
 ·have:=qW.mp hj;rcases TF this with z|z;·exact h.inw j z
  ·simp at z;rw[z];exact hk
 ·refine(jP _).nodup_iff.mpr ?_;rw[Xo];refine⟨h.nd,by simp,λa ha b hb=>?_⟩;simp at hb;rintro rfl;exact hn (hb▸ha)
 ·have:=h.tk;show(W.took s.2 k b).length<=2*(aA.askd s.1 k).length;rw[js];unfold aA.took;split;·rw[xh];simp;lia
  ·lia
 ·intro t ht;have o:=hk.ok ok;have:=o.o0;have:=o.o1;have:=o.o2;change t∈W.took s.2 k b at ht;unfold aA.took at ht;split at ht
  ·rcases TF (qW.mp ht) with z|z;·exact h.th t z
   ·simp at z;rcases z with rfl|rfl<;>lia
  ·exact h.th t ht
theorem pN{W:aA}{a t:List Int}{k:Int}(h:W.may a t k=true):k∉a:=by
 unfold aA.may at h;intro c;have:a.contains k=true:=by simpa using c
 simp[c]at h
structure Nd where
 tie:Int
 yes:Int
 no:Int
def bg(x:Nd):TN:=.tuple [.int x.tie,.int x.yes,.int x.no]
def C8(x:Nd):List TN:=[.int x.tie,.int x.yes,.int x.no]
def nA(W:aA)(n:Nat)(S:Nat->Std)(i:Nat)(k:Int)(b:Bool)(l:Int):Prop:=l=-1\/(0<=l/\l<(n:Int)/\S l.toNat=nxt W (S i) k b)
structure yZ (W:aA) (n:Nat) (S:Nat->Std) (i:Nat) (x:Nd):Prop where
 tie:kc W x.tie
 st:qp W (S i)may:W.may (S i).1 (S i).2 x.tie=true
 yes:nA W n S i x.tie true x.yes
 no:nA W n S i x.tie false x.no
def be(W:aA)(T:List Nd)(S:Nat->Std):Prop:=∀(i:Nat) (x:Nd),T[i]?=some x->yZ W T.length S i x
structure Wt where
 st:Std
 par:Int
 side:Int
def Hl(w:Wt):TN:=.tuple [qu w.st.1 w.st.2,.int w.par,.int w.side]
theorem Sh.wt{w:Wt}:Sh 8 (Hl w):=Sh.tup (n:=6) λd hd=>by
 simp only[Uy,UK,or_false]at hd;rcases hd with rfl|rfl|rfl;·exact Sh.st
 ·exact Sh.int.mono ⋯
 ·exact Sh.int.mono ⋯
def Ka(S:Nat->Std)(n:Nat)(s:Std):Nat->Std:=λi=>if i=n then s else S i
structure xr (W:aA) (T:List Nd) (S:Nat->Std) (ws:List Wt):Prop where
 tr:be W T S
 wt:∀w∈ws,qp W w.st/\(w.par=-1\/∃(p:Nat) (x:Nd),w.par=(p:Int)/\T[p]?=some x/\((w.side=0/\w.st=L2.nxt W (S p) x.tie true)\/(w.side=1/\w.st=L2.nxt W (S p) x.tie false)))side:∀w∈ws,w.side=0\/w.side=1
theorem nA.up{W:aA}{n:Nat}{S:Nat->Std}{i:Nat}{k:Int}{b:Bool}{l:Int}{s:Std}(h:nA W n S i k b l)(hi:i<n):nA W (n+1) (Ka S n s) i k b l:=by
 rcases h with h|⟨h1,h2,h3⟩;·exact .inl h
 ·refine .inr ⟨h1,by lia,?_⟩;unfold Ka;rw[if_neg ↥0,if_neg ↥0];exact h3
def jT(x:Nd)(side n:Int):Nd:=if side=0 then{x with yes:=n}else{x with no:=n}
theorem E2{x:Nd}{s n:Int}:(jT x s n).tie=x.tie:=by unfold jT;split<;>rfl
theorem xr.more{W:aA}{T:List Nd}{S:Nat->Std}{w:Wt}{ws:List Wt}{k:Int}(ok:W.Ok)(h:xr W T S (w::ws))(hk:kc W k)(hm:W.may w.st.1 w.st.2 k=true):xr W ((if 0<=w.par then T.modify w.par.toNat (λx=>jT x w.side T.length) else T)++[⟨k,-1,-1⟩]) (Ka S T.length w.st) (ws++[⟨L2.nxt W w.st k true,T.length,0⟩,⟨L2.nxt W w.st k false,T.length,1⟩]):=by
 obtain⟨ws1,ws2⟩:=h.wt w ↥1;generalize hT:(if 0<=w.par then T.modify w.par.toNat (λx=>jT x w.side T.length) else T)=T';have len:T'.length=T.length:=by rw[<-hT];split<;>simp
 have old:∀(i:Nat) (y:Nd),T'[i]?=some y->i<T.length/\∃x,T[i]?=some x/\y.tie=x.tie:=by
  intro i y hy;have hi:i<T.length:=by rw[<-len];exact(TC hy).1
  refine⟨hi,?_⟩;rw[<-hT]at hy;split at hy
  ·rw[Xq]at hy;obtain⟨x,hx,e⟩:=TB hy;refine⟨x,hx,?_⟩;rw[<-e];split;·exact E2
   ·rfl
  ·exact⟨y,hy,rfl⟩
 have keep:∀(i:Nat) (x:Nd),T[i]?=some x->∃y,T'[i]?=some y/\y.tie=x.tie:=by
  intro i x hx;have hi:i<T'.length:=by rw[len];exact(TC hx).1
  obtain⟨_,x',hx',e⟩:=old i _ (Um hi);rw[hx]at hx';cases hx';exact⟨_,Um hi,e⟩
 have up:∀i,i<T.length->Ka S T.length w.st i=S i:=λi hi=>by unfold Ka;rw[if_neg ↥0]
 have upn:Ka S T.length w.st T.length=w.st:=by unfold Ka;rw[if_pos rfl]
 refine⟨λi y hy=>?_,λv hv=>?_,λv hv=>?_⟩
 ·rw[VO,len];show yZ W (T.length+1) _ i y;by_cases c:i<T.length
  ·rw[UX ↥0]at hy;have hy0:=hy;rw[<-hT]at hy;split at hy;case isFalse=>have o:=h.tr i y hy;exact⟨o.tie,by rw[up i c];exact o.st,by rw[up i c];exact o.may,o.yes.up c,o.no.up c⟩
   case isTrue hp=>
    rw[Xq]at hy;obtain⟨x,hx,e⟩:=TB hy;have o:=h.tr i x hx;split at e;case isFalse=>subst e;exact⟨o.tie,by rw[up i c];exact o.st,by rw[up i c];exact o.may,o.yes.up c,o.no.up c⟩
    case isTrue hi=>
     rcases ws2 with z|⟨p,x2,z1,z2,z3⟩;·lia
     ·have:i=p:=by lia
      subst this;rw[hx]at z2;cases z2;have new:∀b,w.st=L2.nxt W (S i) x.tie b->nA W (T.length+1) (Ka S T.length w.st) i x.tie b (T.length:Int):=λb hb=>.inr ⟨by lia,by lia,by rw[show((T.length:Int)).toNat=T.length by lia,upn,up i c];exact hb⟩;rw[<-e];rcases z3 with⟨s0,s1⟩|⟨s0,s1⟩
      ·have:jT x w.side T.length={x with yes:=T.length}:=by unfold jT;rw[if_pos s0]
       rw[this];exact⟨o.tie,by rw[up i c];exact o.st,by rw[up i c];exact o.may,new true s1,o.no.up c⟩
      ·have:jT x w.side T.length={x with no:=T.length}:=by unfold jT;rw[if_neg ↥0]
       rw[this];exact⟨o.tie,by rw[up i c];exact o.st,by rw[up i c];exact o.may,o.yes.up c,new false s1⟩
  ·rw[XD ↥0]at hy;have:i=T.length:=by have:=(TC hy).1;simp at this;lia
   subst this;rw[len]at hy;simp at hy;subst hy;exact⟨hk,by rw[upn];exact ws1,by rw[upn];exact hm,.inl rfl,.inl rfl⟩
 ·rcases TF hv with hv|hv
  ·obtain⟨v1,v2⟩:=h.wt v (by simp[hv]);refine⟨v1,?_⟩;rcases v2 with z|⟨p,x,z1,z2,z3⟩;·exact .inl z
   ·obtain⟨y,hy,e⟩:=keep p x z2;have hp:p<T.length:=(TC z2).1;refine .inr ⟨p,y,z1,by rw[UX ↥0];exact hy,?_⟩;rw[up p hp,e];exact z3
  ·have key:∀b,qp W (L2.nxt W w.st k b):=λb=>ws1.nxt b ok hk (pN hm);have at':(T'++[(⟨k,-1,-1⟩:Nd)])[T.length]?=some ⟨k,-1,-1⟩:=by rw[XD ↥0,len];simp
   simp only[Uy,UK,or_false]at hv;rcases hv with rfl|rfl;·exact⟨key true,.inr ⟨T.length,_,rfl,at',.inl ⟨rfl,by rw[upn]⟩⟩⟩
   ·exact⟨key false,.inr ⟨T.length,_,rfl,at',.inr ⟨rfl,by rw[upn]⟩⟩⟩
 ·rcases TF hv with hv|hv;·exact h.side v (by simp[hv])
  ·simp only[Uy,UK,or_false]at hv;rcases hv with rfl|rfl;·exact .inl rfl
   ·exact .inr rfl
theorem xr.less{W:aA}{T:List Nd}{S:Nat->Std}{w:Wt}{ws:List Wt}(h:xr W T S (w::ws)):xr W T S ws:=⟨h.tr,λv hv=>h.wt v (by simp[hv]),λv hv=>h.side v (by simp[hv])⟩
theorem Dy{T:List Nd}{p:Nat}{x:Nd}{n:Int}(h:T[p]?=some x):(T.map C8).set p [.int x.tie,.int n,.int x.no]=(T.modify p (λx=>jT x 0 n)).map C8:=by
 refine VT λi=>?_;rw[Xr,Ut,Ut,Xq];by_cases c:p=i;·subst c;obtain⟨hp,e⟩:=TC h;simp[h,hp,jT,C8,e]
 ·simp[c]
theorem Dz{T:List Nd}{p:Nat}{x:Nd}{n:Int}(h:T[p]?=some x):(T.map C8).set p [.int x.tie,.int x.yes,.int n]=(T.modify p (λx=>jT x 1 n)).map C8:=by
 refine VT λi=>?_;rw[Xr,Ut,Ut,Xq];by_cases c:p=i;·subst c;obtain⟨hp,e⟩:=TC h;simp[h,hp,jT,C8,e]
 ·simp[c]
theorem Hi{W:aA}{a t:List Int}{k:Int}(h:k∈W.can a t):kc W k/\W.may a t k=true:=by unfold aA.can at h;rw[Wg]at h;exact⟨pO.mp h.1,h.2⟩
theorem DO{cp:List (Nat×Str)}{nT:Nat}{fi:FI}{g:FG}{ft:FT}{fe:FE}{e e1 cs:En}{t t':En}{items out:List TN}{own:kG}(h1:fi e=some (items,own,e1))(ho:(own.all λq=>!(cp.any λc=>c.1==q.1))=true)(hc:oV cp nT e1=cs++t)(hl:cs.length=cp.length)(h3:bT g ft fe items (oV cp nT e1) []=some (out,cs++t')):bD cp nT fi g ft fe e=some (.l out,e1):=by have key:=dg (cp:=cp) (nT:=nT) (fi:=λ_=>some (items,[],e1)) (g:=g) (ft:=ft) (fe:=fe) (e:=e) rfl hc hl h3;unfold bD at key⊢;rw[h1];simp only[Ul,XN,if_true]at key;simp only[Ul,ho,if_true];exact key
theorem Gj{W:List Nat}{fi:FI}{g:FG}{f:FS}{e e1:En}{items:List TN}{own:kG}(h:fi e=some (items,own,e1))(ho:(own.all λq=>!W.contains q.1)=true):cH W fi g f e=iX own g f items e1:=by unfold cH;rw[h];simp only[Ul,ho,if_true]
theorem wB{α:Type}(x:α):∀n,(Ug n [x]).flatten=Ug n x|0=>rfl|n+1=>by rw[Wm,XG,wB x n];rfl
theorem Mp{e:En}{x:TN}{n:Int}(h0:0<=n)(h1:n<=100000):cL e (.l [x]) (.d (.int n))=some (.l (Ug n.toNat x)):=by
 have a:zx e (.l [x]) (.d (.int n))=some (.l (Ug n.toNat [x]).flatten):=by simp[zx,Bc,bU];lia
 have b:tU e (.l [x]) (.d (.int n))=none:=by simp[tU,gI,bU]
 have c:tV e (.l [x]) (.d (.int n))=none:=by simp[tV,iS,bU]
 unfold cL DU;rw[b,c,a,wB];rfl
theorem CK{α:Type}{xs:List α}{x:α}:atI (xs++[x]) (-1)=some x:=by unfold atI oz;rw[if_neg ⋯,if_pos ↥7];simp;rw[show(-1+((xs.length:Int)+1)).toNat=xs.length by lia];simp
theorem Ml{n:Nat}:cutD [.int 0] none (some (n:Int))=(if n=0 then[]else[.int 0]):=by unfold cutD;rw[HT.sIx_none,HT.sIx_nat];cases n with|zero=>simp|succ n=>simp
def nm(nums:List Int)(l:Int):Int:=(atI nums l).getD (-1)
theorem Hc{α β:Type}{f:α->β}{xs:List α}{i:Int}:atI (xs.map f) i=(atI xs i).map f:=by unfold atI;rw[Uq];cases oz xs.length i with|none=>rfl|some j=>simp
theorem D9{α:Type}{xs:List α}{i:Int}(h0:-(xs.length:Int)<=i)(h1:i<xs.length):∃x,atI xs i=some x:=by
 unfold atI oz;split;·simp only[if_pos h1,Ul];exact⟨_,Um ↥0⟩
 ·simp only[if_pos h0,Ul];exact⟨_,Um ↥0⟩
theorem JU{nums:List Int}{l:Int}(h0:-(nums.length:Int)<=l)(h1:l<nums.length):atI (nums.map PyData.int) l=some (.int (nm nums l)):=by obtain⟨x,hx⟩:=D9 h0 h1;unfold nm;rw[Hc,hx];rfl
structure lQ (order:List Int) (n:Nat) (nums:List Int):Prop where
 len:nums.length=n+1
 top:nums[n]?=some (-1)at':∀(j:Nat) (v:Int),j<n->nums[j]?=some v->v=-1\/∃p:Nat,v=(p:Int)/\order[p]?=some (j:Int)
theorem lQ.first{order:List Int}{n:Nat}:lQ order n (Ug (n+1) (-1)):=⟨by simp,by simp[Wj],λj v hj h=>by
 rw[Wj]at h;split at h;·cases h;exact .inl rfl
 ·cases h⟩
theorem lQ.set{order:List Int}{n:Nat}{nums:List Int}(h:lQ order n nums){i:Nat}{w:Int}(hw:order[i]?=some w)(w0:0<=w)(w1:w<(n:Int)):lQ order n (nums.set w.toNat (i:Int)):=by
 refine⟨by rw[VG];exact h.len,by rw[UA ↥0];exact h.top,λj v hj hv=>?_⟩;rw[Xr]at hv;split at hv;case isTrue c=>rw[if_pos (by rw[h.len];lia)]at hv;cases hv;exact .inr ⟨i,rfl,by rw[hw];congr 1;lia⟩
 case isFalse c=>exact h.at' j v hj hv
def aS(T:List Nd)(w:Int):Nd:=T.getD w.toNat ⟨0,0,0⟩
theorem dP{T:List Nd}{w:Int}(h0:0<=w)(h1:w<(T.length:Int)):T[w.toNat]?=some (aS T w):=by
 have:w.toNat<T.length:=by lia
 simp[aS,this]
theorem xC{T:List Nd}{w:Int}(h0:0<=w)(h1:w<(T.length:Int)):atI (T.map bg) w=some (bg (aS T w)):=by rw[hX h0 (by rw[Uq];exact h1),Ut,dP h0 h1];rfl
def renum(T:List Nd)(nums:List Int)(w:Int):Nd:=⟨(aS T w).tie,nm nums (aS T w).yes,nm nums (aS T w).no⟩
theorem nA.rng{W:aA}{n:Nat}{S:Nat->Std}{i:Nat}{k:Int}{b:Bool}{l:Int}(h:nA W n S i k b l):-1<=l/\l<(n:Int):=by rcases h with h|h<;>lia
theorem nA.renum{W:aA}{n:Nat}{S:Nat->Std}{order nums:List Int}{i j:Nat}{w:Int}{k:Int}{b:Bool}{l:Int}(hn:lQ order n nums)(hj:order[j]?=some w)(hi:w.toNat=i)(h:nA W n S i k b l):nA W order.length (λj=>S (order.getD j 0).toNat) j k b (nm nums l):=by
 have hj2:(λj=>S (order.getD j 0).toNat) j=S i:=by simp only[Ur,hj,VS,hi]
 rcases h with h|⟨h1,h2,h3⟩;·left;subst h;unfold nm atI oz;rw[if_neg ⋯,if_pos (by rw[hn.len];lia)];simp only[Ul];rw[show(-1+(nums.length:Int)).toNat=n by rw[hn.len];lia,hn.top];rfl
 ·have hl:l.toNat<n:=by lia
  have e:nm nums l=nums.getD l.toNat (-1):=by unfold nm;rw[hX h1 (by rw[hn.len];lia)];simp
  have hx:nums[l.toNat]?=some (nums.getD l.toNat (-1)):=by
   have:l.toNat<nums.length:=by rw[hn.len];lia
   simp[this]
  rcases hn.at' l.toNat _ hl hx with z|⟨p,z1,z2⟩;·left;rw[e];exact z
  ·right;rw[e,z1];have hp:p<order.length:=(TC z2).1;refine⟨by lia,by lia,?_⟩;rw[hj2];have:(λj=>S (order.getD j 0).toNat) ((p:Int)).toNat=S l.toNat:=by simp only[VP,Ur,z2,VS]
   rw[this];exact h3
theorem be.renum{W:aA}{T:List Nd}{S:Nat->Std}{order nums:List Int}(h:be W T S)(ho:∀w∈order,0<=w/\w<(T.length:Int))(hn:lQ order T.length nums):be W (order.map (L2.renum T nums)) (λj=>S (order.getD j 0).toNat):=by
 intro j y hy;rw[Ut]at hy;obtain⟨w,hw,rfl⟩:=TB hy;obtain⟨w0,w1⟩:=ho w (TK hw);have o:=h w.toNat _ (dP w0 w1);have hj2:S (order.getD j 0).toNat=S w.toNat:=by simp only[Ur,hw,VS]
 rw[Uq];exact⟨o.tie,by rw[hj2];exact o.st,by rw[hj2];exact o.may,o.yes.renum hn hw rfl,o.no.renum hn hw rfl⟩
def hang(S:Nat->Std)(w:Int):Nat:=2^(16-(S w.toNat).1.length)-1
def gv(S:Nat->Std)(ws:List Int):Nat:=(ws.map (hang S)).sum
theorem yZ.room{W:aA}{n:Nat}{S:Nat->Std}{i:Nat}{x:Nd}(ok:W.Ok)(h:yZ W n S i x):(S i).1.length<=15:=by have h1:=(h.st.nxt true ok h.tie (pN h.may)).len;have h2:=ok.len;have:(nxt W (S i) x.tie true).1.length=(S i).1.length+1:=js;lia
theorem qF{W:aA}{n:Nat}{S:Nat->Std}{i:Nat}{k:Int}{b:Bool}{l:Int}(hi:(S i).1.length<=15)(h:nA W n S i k b l)(hn:l≠-1):hang S l=2^(15-(S i).1.length)-1:=by
 rcases h with h|⟨h1,h2,h3⟩;·exact absurd h hn
 ·unfold hang;rw[h3];have:(nxt W (S i) k b).1.length=(S i).1.length+1:=js;rw[this,show 16-((S i).1.length+1)=15-(S i).1.length by lia]
def vz(x:Nd):List Int:=[x.yes,x.no].filter λl=>l !=-1
theorem yZ.hang{W:aA}{n:Nat}{S:Nat->Std}{w:Int}{x:Nd}(ok:W.Ok)(h:yZ W n S w.toNat x):gv S (vz x)+1<=L2.hang S w:=by
 have r:=h.room ok;have e:L2.hang S w=2*2^(15-(S w.toNat).1.length)-1:=by unfold L2.hang;rw[show 16-(S w.toNat).1.length=(15-(S w.toNat).1.length)+1 by lia,Nat.pow_succ,Nat.mul_comm]
 have p:1<=2^(15-(S w.toNat).1.length):=Nat.one_le_two_pow;rw[e];unfold gv vz;by_cases c1:x.yes=-1
 ·by_cases c2:x.no=-1;·simp[c1,c2];lia
  ·have:=qF r h.no c2;simp[c1,c2,this];lia
 ·have l1:=qF r h.yes c1;by_cases c2:x.no=-1;·simp[c1,c2,l1];lia
  ·have:=qF r h.no c2;simp[c1,c2,l1,this];lia
theorem KY{W:aA}{n:Nat}{S:Nat->Std}{i:Nat}{x:Nd}(h:yZ W n S i x):∀l∈vz x,0<=l/\l<(n:Int):=by
 intro l hl;unfold vz at hl;rw[Wg]at hl;obtain⟨h1,h2⟩:=hl;simp at h1 h2;rcases h1 with rfl|rfl;·have:=h.yes.rng;lia
 ·have:=h.no.rng;lia
theorem wA{α β:Type}{f:α->β}:∀{xs:List α}{i:Nat},(xs.map f).eraseIdx i=(xs.eraseIdx i).map f|[],_=>by simp|x::r,0=>by simp|x::r,i+1=>by simp[wA (xs:=r) (i:=i)]
def Od(f:Int->TN):TN->TN|.int k=>f k|d=>d
theorem Mq{e:En}{xs:List TN}{lo hi:Option Int}:NF e (.l xs) lo hi=some (.l (cutD xs lo hi)):=rfl
theorem wH{S:Nat->Std}:∀{ws:List Int}{j:Nat}(h:j<ws.length),gv S (ws.eraseIdx j)+hang S ws[j]=gv S ws|[],j,h=>by simp at h|w::r,0,h=>by simp[gv];lia|w::r,j+1,h=>by have:=wH (S:=S) (ws:=r) (j:=j) (by simpa using h);simp[gv]at this⊢;lia
theorem C1{S:Nat->Std}{a b:List Int}:gv S (a++b)=gv S a+gv S b:=by unfold gv;rw[Wq,List.sum_append]
theorem wG{W:aA}{T:List Nd}{S:Nat->Std}{ws:List Int}(ok:W.Ok)(h:be W T S)(hw:∀w∈ws,0<=w/\w<(T.length:Int)):ws.length<=gv S ws:=by induction ws with|nil=>simp|cons w r ih=>have i:=ih λv hv=>hw v (by simp[hv]);obtain⟨w0,w1⟩:=hw w ↥1;have:=(h _ _ (dP w0 w1)).hang ok;unfold gv at i⊢;rw[Uo,UY,Vc];lia
def stp(W:aA)(ss:List Std)(i:Nat)(k:Int)(b:Bool)(l:Int):List Std:=if l=-1 then ss else ss.set l.toNat (nxt W (ss.getD i ([],[])) k b)
structure OQ (S:Nat->Std) (n:Nat) (ss:List Std):Prop where
 len:ss.length=n
 at':∀(j:Nat) (s:Std),ss[j]?=some s->s.1.length<=(S j).1.length/\s.2.length<=2*s.1.length/\(∀k∈s.1,0<=k/\k<16)/\∀t∈s.2,0<=t/\t<12
theorem Ez{T:List Nd}{i:Nat}{x:TN}(h:(jW 0 (T.map bg))[i]?=some x):∃y,T[i]?=some y/\x=.tuple [.int (i:Int),bg y]:=by rw[m7,Ut,Option.map_map]at h;obtain⟨y,hy,rfl⟩:=TB h;exact⟨y,hy,by simp⟩
theorem iT(s:String):Vm (Vh s)=true:=by rw[Str.ofString_eq_toList];unfold Vm;simp only[Uz,Uq];rw[show(List.map Char.toNat s.toList).toArray.all (λa=>decide (a<1114112)) 0 s.toList.length=(List.map Char.toNat s.toList).all (λa=>decide (a<1114112)) by simp];rw[List.all_map,Vd];intro c _;show decide (c.toNat<1114112)=true;rw[decide_eq_true_eq];have:=c.valid;unfold UInt32.isValidChar Nat.isValidChar at this;show c.val.toNat<_;lia
theorem nh{a b:Str}(h1:Vm a=true)(h2:Vm b=true):Vm (a++b)=true:=by unfold Vm at*;rw[show(a++b).cps=a.cps++b.cps from rfl];simp only[Array.all_append,h1,h2,Wc]
theorem uS{sep:Str}(h:Vm sep=true):∀(ts:List Str),(∀t∈ts,Vm t=true)->Vm (Str.join sep ts)=true|[],_=>by show Vm Str.empty=true;simp[Vm,Str.empty]|[x],hx=>hx x ↥1|x::y::r,hx=>nh (nh (hx x ↥1) h) (uS h (y::r) λt ht=>hx t (by simp at ht⊢;exact .inr ht))
theorem DC{ts:List Str}(h:∀t∈ts,Vm t=true):Vm (tupleText ts)=true:=by unfold tupleText;exact nh (nh (iT _) (uS (iT _) ts h)) (iT _)
structure Sz (n dep:Nat) (d:TN):Prop where
 fl:jz d=true
 sh:d.showable=true
 dp:d.depth<=dep
 ln:d.shown.length<=n
 so:Vm d.shown=true
theorem Sz.mono{n m dep e:Nat}{d:TN}(h:Sz n dep d)(h1:n<=m)(h2:dep<=e):Sz m e d:=⟨h.fl,h.sh,UN h.dp h2,UN h.ln h1,h.so⟩
theorem Sz.int{k:Int}(h0:0<=k)(h1:k<16):Sz 2 2 (.int k):=by
 have:k=0\/k=1\/k=2\/k=3\/k=4\/k=5\/k=6\/k=7\/k=8\/k=9\/k=10\/k=11\/k=12\/k=13\/k=14\/k=15:=by lia
 rcases this with rfl|rfl|rfl|rfl|rfl|rfl|rfl|rfl|rfl|rfl|rfl|rfl|rfl|rfl|rfl|rfl<;>exact⟨rfl,by decide,by simp[US],by decide,iT _⟩
theorem Sz.all{n dep:Nat}:∀{ds:List TN},(∀d∈ds,Sz n dep d)->jX ds=true/\Ww ds=true/\VH ds<=dep/\piled (VZ ds)<=ds.length*(n+2)/\∀t∈VZ ds,Vm t=true
 |[],_=>⟨rfl,rfl,by simp[VH],by simp[VZ,piled],by simp[VZ]⟩|d::r,h=>by
  obtain⟨a1,a2,a3,a4,a5⟩:=h d ↥1;obtain⟨b1,b2,b3,b4,b5⟩:=Sz.all (ds:=r) λx hx=>h x (by simp[hx]);refine⟨?_,?_,?_,?_,?_⟩;·simp only[jX,a1,b1,Wc]
  ·simp only[Ww,a2,b2,Wc]
  ·simp only[VH];lia
  ·simp only[VZ,uv,Vc,Nat.succ_mul];lia
  ·intro t ht;simp only[VZ,Uy]at ht;rcases ht with rfl|ht;·exact a5
   ·exact b5 t ht
theorem Sz.tup{n dep m:Nat}{ds:List TN}(h:∀d∈ds,Sz n dep d)(hl:ds.length<=m):Sz (m*(n+2)+3) (dep+2) (.tuple ds):=by obtain⟨b1,b2,b3,b4,b5⟩:=Sz.all h;refine⟨by simpa[jz]using b1,b2,by simp only[US];lia,?_,by simp only[PyData.shown];exact DC b5⟩;have h2:=xm (VZ ds);have:=Nat.mul_le_mul_right (n+2) hl;simp only[PyData.shown];lia
theorem Sz.ok{n dep:Nat}{d:TN}(h:Sz n dep d)(h1:n<=16777216)(h2:dep<=60):qe d=true:=by have sl:Uj=16777216:=VD;unfold qe;rw[h.fl,h.sh,decide_eq_true (UN h.dp h2),decide_eq_true (show d.shown.length<=Uj by rw[sl];exact UN h.ln h1)];rfl
theorem Hv{e:En}{d:TN}(h:qe d=true):g1 rW e [.d d]=some (.d (.str d.shown)):=by simp[g1,rW,h]
theorem Hs{e:En}{s:Str}(h:Vm s=true):bR false e (.d (.str s)) (.d (.str s))=some (.d (.bool true)):=by simp[bR,kW,Vj,Vi,US,Vk,h]
theorem zu{e:En}{d:TN}{n:Nat}(h:Sh n d)(hn:n<=64)(hf:jz d=true):bR true e (.d d) (.d d)=some (.d (.bool false)):=by unfold bR;simp only[kW,Ul,h.ok hn,Wc,if_true,zo h.1 hf];rfl
theorem Hr{e:En}{xs ys:List TN}(hl:xs.length+ys.length<=1000000):cy e (.l xs) (.l ys)=some (.l (xs++ys)):=by simp[cy,DU,ED,gI,bU,zt,iS,BX,Bc,hl]
theorem Kw{e:En}{d:TN}{n:Int}(h0:0<=n)(h1:n<=100000):cL e (.d (.tuple [d])) (.d (.int n))=some (.d (.tuple (Ug n.toNat d))):=by
 have a:tV e (.d (.tuple [d])) (.d (.int n))=some (.d (.tuple (Ug n.toNat d))):=by simp[tV,iS,bU,h0,h1]
 have b:tU e (.d (.tuple [d])) (.d (.int n))=none:=by simp[tU,gI,bU]
 unfold cL DU;rw[b,a];rfl
theorem vY{bs:List Bool}{k:Int}(h0:0<=k)(h1:k<(bs.length:Int)):atI (bs.map PyData.bool) k=some (.bool (bs.getD k.toNat false)):=by
 rw[hX h0 (by rw[Uq];exact h1),Ut];have:k.toNat<bs.length:=by lia
 simp[this]
theorem DM{pos:Nat->Option Nat}{ei e:En}{j k:Nat}{xs ys:List TN}(hp:pos j=some k)(hk:ei[k]?=some (some (.l ys)))(hj:e[j]?=some (some (.l xs)))(ho:∀i,i≠j->pos i=none\/A4 e[i]?=false):oT pos ei e=e.set j (some (.l ys)):=by
 have hjl:j<e.length:=(TC hj).1;refine VT λi=>?_;rw[bX];by_cases c:j=i;·subst c;rw[UW hjl,hj];simp[hp,hk]
 ·rw[UA c];have:=ho i (λz=>c z.symm);match h:e[i]? with
  |none=>rfl|some none=>rfl|some (some (.d x))=>rfl|some (some (.n x))=>rfl|some (some (.l x))=>
   rcases this with z|z;·simp[z]
   ·rw[h]at z;simp[A4]at z
def dR(p:Int×Bool):TN:=.tuple [.int p.1,.bool p.2]
def rn(T:List Nd)(ans:List Bool):Nat->Int->List (Int×Bool)|0,_=>[]|f+1,at'=>if at'<0 then[]else((aS T at').tie,ans.getD (aS T at').tie.toNat false)::rn T ans f (if ans.getD (aS T at').tie.toNat false=true then(aS T at').yes else(aS T at').no)
theorem jI{T:List Nd}{ans:List Bool}{f:Nat}{a:Int}(h:a<0):rn T ans f a=[]:=by cases f with|zero=>rfl|succ f=>unfold rn;rw[if_pos h]
def rt(T:List Nd):Int:=if T.length=0 then-1 else 0
structure kJ (W:aA) (T:List Nd) (S:Nat->Std) (ans:List Bool) (r:List (Int×Bool)) (a:Int):Prop where
 at':a=-1\/(0<=a/\a<(T.length:Int)/\r.length<=(S a.toNat).1.length)eq:r++rn T ans (17-r.length) a=rn T ans 17 (rt T)len:r.length<=16
 inw:∀p∈r,kc W p.1
theorem kJ.first{W:aA}{T:List Nd}{S:Nat->Std}{ans:List Bool}:kJ W T S ans [] (rt T):=⟨by
 unfold rt;split;·exact .inl rfl
 ·exact .inr ⟨by lia,by lia,by simp⟩,rfl,by simp,λp h=>by cases h⟩
theorem kJ.step{W:aA}(ok:W.Ok){T:List Nd}{S:Nat->Std}{ans:List Bool}{r:List (Int×Bool)}{a:Int}(hT:be W T S)(h:kJ W T S ans r a)(h0:0<=a):a<(T.length:Int)/\r.length<=15/\kc W (aS T a).tie/\kJ W T S ans (r++[((aS T a).tie,ans.getD (aS T a).tie.toNat false)]) (if ans.getD (aS T a).tie.toNat false=true then(aS T a).yes else(aS T a).no):=by
 rcases h.at' with z|⟨z1,z2,z3⟩;·lia
 have o:=hT _ _ (dP z1 z2);have rm:=o.room ok;refine⟨z2,by lia,o.tie,?_,?_,by simp;lia,λp hp=>?_⟩
 ·have key:∀b l,nA W T.length S a.toNat (aS T a).tie b l->l=-1\/(0<=l/\l<(T.length:Int)/\(r++[((aS T a).tie,ans.getD (aS T a).tie.toNat false)]).length<=(S l.toNat).1.length):=by
   intro b l hl;rcases hl with hl|⟨h1,h2,h3⟩;·exact .inl hl
   ·refine .inr ⟨h1,h2,?_⟩;rw[h3];have:(nxt W (S a.toNat) (aS T a).tie b).1.length=(S a.toNat).1.length+1:=js;rw[this];simp;lia
  split;·exact key _ _ o.yes
  ·exact key _ _ o.no
 ·have e:=h.eq;rw[show 17-r.length=(17-(r.length+1))+1 by lia]at e;unfold rn at e;rw[if_neg ↥0]at e;rw[WX,VO];exact e
 ·rcases TF hp with hp|hp;·exact h.inw p hp
  ·simp at hp;rw[hp];exact o.tie
theorem kJ.done{W:aA}{T:List Nd}{S:Nat->Std}{ans:List Bool}{r:List (Int×Bool)}{a:Int}(h:kJ W T S ans r a)(h0:a<0):r=rn T ans 17 (rt T):=by have e:=h.eq;rw[jI h0,Vs]at e;exact e
theorem Sz.bool{b:Bool}:Sz 5 2 (.bool b):=by
 cases b;·exact⟨rfl,rfl,by simp[US],by show(Vh "False").length<=5;decide,iT _⟩
 ·exact⟨rfl,rfl,by simp[US],by show(Vh "True").length<=5;decide,iT _⟩
theorem Sz.run{W:aA}(ok:W.Ok){r:List (Int×Bool)}(hl:r.length<=16)(h:∀p∈r,kc W p.1):Sz 1000 6 (.tuple (r.map dR)):=by
 refine(Sz.tup (n:=17) (dep:=4) (m:=16) (λd hd=>?_) (by rw[Uq];exact hl)).mono ⋯ ⋯;obtain⟨p,hp,rfl⟩:=TH hd;refine Sz.tup (n:=5) (dep:=2) (m:=2) (λd hd=>?_) ↥1;simp only[Uy,UK,or_false]at hd;have w:=h p hp;have:=w.1;have:=w.2;have:=ok.len;rcases hd with rfl|rfl;·exact(Sz.int ↥0 ↥0).mono ⋯ ⋯
 ·exact Sz.bool
abbrev Fr:=Int×Int
def dF(f:Fr):TN:=.tuple [.int f.1,.int f.2]
def tm(a b:Fr):Fr:=lowM (a.1*b.1) (a.2*b.2)
def pl(a b:Fr):Fr:=lowM (a.1*b.2+b.1*a.2) (a.2*b.2)
theorem lJ{t b:Int}(hb:0<b)(ht:0<=t):∃d:Int,0<d/\(lowM t b).1*d=t/\(lowM t b).2*d=b/\0<(lowM t b).2/\0<=(lowM t b).1:=by
 obtain⟨d,h1,h2,h3,h4,h5⟩:=ic (t:=t) (b:=b) ↥0;have d0:0<d:=by
  rcases Int.lt_trichotomy d 0 with z|z|z;·have:=Int.mul_neg_of_pos_of_neg h5 z;lia
  ·exact absurd z h2
  ·exact z
 refine⟨d,d0,h3,h4,h5,?_⟩;rcases Int.lt_or_le (lowM t b).1 0 with z|z;·have:=Int.mul_neg_of_neg_of_pos z d0;lia
 ·exact z
theorem sU{t b i:Int}(hb:0<b)(ht:0<=t)(h:t<=i*b):(lowM t b).1<=i*(lowM t b).2:=by obtain⟨d,d0,h3,h4,h5,h6⟩:=lJ hb ht;refine Int.le_of_mul_le_mul_right (a:=d) ?_ d0;rw[h3,UG,h4];exact h
theorem zG{t b:Int}(hb:0<b)(ht:0<=t):(lowM t b).2∣b:=by obtain⟨d,d0,h3,h4,h5,h6⟩:=lJ hb ht;exact⟨d,h4.symm⟩
theorem zF{t b M u:Int}(hb:0<b)(ht:0<=t)(h:t*M=b*u):(lowM t b).2∣M:=by
 have g:=kY (t:=t) (b:=b) ↥0;obtain⟨d,d0,h3,h4,h5,h6⟩:=lJ hb ht;generalize (lowM t b).1=p at*;generalize (lowM t b).2=q at*;have e:p*M=q*u:=by refine Yw (a:=d) ↥0 ?_;rw[show p*M*d=(p*d)*M by rw[UG,Vp M d,<-UG],h3,h,<-h4,UG,Vp d u,<-UG]
 have dv:q.natAbs∣(p*M).natAbs:=Yx.mpr ⟨u,e⟩;rw[WY]at dv;have cp:Xs q.natAbs p.natAbs:=by have:Nat.gcd p.natAbs q.natAbs=1:=g;rw[Xs,Nat.gcd_comm];exact this
 exact Yx.mp (cp.dvd_of_dvd_mul_left dv)
structure u_ (M:Int) (f:Fr):Prop where
 pos:0<f.2
 lo:0<=f.1
 hi:f.1<=f.2
 dv:f.2∣M
theorem u_.tm{M N:Int}{a b:Fr}(h:u_ M a)(k:u_ N b):u_ (M*N) (tm a b):=by have p:0<a.2*b.2:=UO h.pos k.pos;have t:0<=a.1*b.1:=Xu h.lo k.lo;obtain⟨d,d0,h3,h4,h5,h6⟩:=lJ p t;refine⟨h5,h6,?_,Yy (zG p t) (Int.mul_dvd_mul h.dv k.dv)⟩;have:=sU (i:=1) p t (by rw[Int.one_mul];exact Int.mul_le_mul h.hi k.hi k.lo (Wf h.pos));rw[Int.one_mul]at this;exact this
structure l9 (M i:Int) (f:Fr):Prop where
 pos:0<f.2
 lo:0<=f.1
 hi:f.1<=i*f.2
 dv:f.2∣M
theorem l9.pl{M i:Int}{a b:Fr}(h:l9 M i a)(k:u_ M b):l9 M (i+1) (pl a b):=by
 have p:0<a.2*b.2:=UO h.pos k.pos;have t:0<=a.1*b.2+b.1*a.2:=Int.add_nonneg (Xu h.lo (Wf k.pos)) (Xu k.lo (Wf h.pos));obtain⟨d,d0,h3,h4,h5,h6⟩:=lJ p t;refine⟨h5,h6,sU p t ?_,?_⟩;·have e1:a.1*b.2<=i*a.2*b.2:=Xv h.hi (Wf k.pos);have e2:b.1*a.2<=b.2*a.2:=Xv k.hi (Wf h.pos);rw[Xw,Int.one_mul,<-UG,Vp a.2 b.2];rw[UG i a.2 b.2,Vp a.2 b.2,<-UG]at*;lia
 ·obtain⟨x,hx⟩:=h.dv;obtain⟨y,hy⟩:=k.dv;refine zF (u:=a.1*x+b.1*y) p t ?_;rw[Xw,Int.mul_add];congr 1;·rw[hx];rw[show a.1*b.2*(a.2*x)=a.2*b.2*(a.1*x) by ac_rfl]
  ·rw[hy];rw[show b.1*a.2*(b.2*y)=a.2*b.2*(b.1*y) by ac_rfl]
theorem l9.mono{M i j:Int}{f:Fr}(h:l9 M i f)(hj:i<=j):l9 M j f:=⟨h.pos,h.lo,Int.le_trans h.hi (Xv hj (Wf h.pos)),h.dv⟩
theorem u_.bt{M:Int}{f:Fr}{n:Nat}(h:u_ M f)(hM:Bt n M)(h0:0<M):Bt n f.1/\Bt n f.2:=by have l:=Int.le_of_dvd h0 h.dv;have:=h.pos;have:=h.lo;have:=h.hi;exact⟨hM.of_le ↥0,hM.of_le ↥0⟩
theorem l9.bt{M i:Int}{f:Fr}{n m:Nat}(h:l9 M i f)(hM:Bt n M)(h0:0<M)(hi:Bt m i):Bt (m+n) f.1/\Bt n f.2:=by have l:=Int.le_of_dvd h0 h.dv;have p:=h.pos;have q:=h.lo;have r:=h.hi;have b2:Bt n f.2:=hM.of_le ↥0;exact⟨(hi.mul b2).of_le ↥0,b2⟩
def bp(W:aA):List Int->Int|[]=>1|k::r=>(W.tie k).bot*bp W r
theorem sP{W:aA}{a b:List Int}(h:a.Perm b):bp W a=bp W b:=by induction h with|nil=>rfl|cons x _ ih=>simp only[bp,ih]|swap x y l=>simp only[bp];ac_rfl|trans _ _ i1 i2=>rw[i1,i2]
theorem Hg{W:aA}{a:List Int}{k:Int}:bp W (aA.askd a k)=bp W a*(W.tie k).bot:=by unfold aA.askd;rw[sP (jP _),sP (List.perm_append_comm (l₁:=a) (l₂:=[k]))];show(W.tie k).bot*bp W a=_;rw[Vp]
theorem xD{W:aA}:∀{a L:List Int},a.Nodup->(∀k∈a,k∈L)->bp W a∣bp W L|[],L,_,_=>XQ _|k::r,L,hn,hs=>by have hk:=hs k ↥1;rw[VN]at hn;rw[sP (YW hk)];refine Int.mul_dvd_mul (Xx _) (xD hn.2 λj hj=>?_);have:j≠k:=λz=>hn.1 (z▸hj);exact(List.mem_erase_of_ne this).mpr (hs j (by simp[hj]))
theorem Ei{W:aA}(ok:W.Ok):∀{a:List Int},(∀k∈a,kc W k)->0<bp W a/\Bt (7*a.length+1) (bp W a)
 |[],_=>⟨by simp[bp],by unfold Bt;simp[bp]⟩|k::r,h=>by
  obtain⟨i1,i2⟩:=Ei ok (a:=r) λj hj=>h j (by simp[hj]);have o:=(h k ↥1).ok ok;have b0:=o.b0;have b1:=o.b1;have bt:Bt 7 (W.tie k).bot:=by unfold Bt;lia
  refine⟨UO ↥0 i1,?_⟩;have:=bt.mul i2;exact this.mono ↥7
def eD(W:aA):Int:=bp W W.rng
theorem jw{W:aA}(ok:W.Ok):0<eD W/\Bt 113 (eD W):=by
 obtain⟨h1,h2⟩:=Ei ok (a:=W.rng) λk hk=>pO.mp hk;refine⟨h1,h2.mono ?_⟩;have:=ok.len;have:W.rng.length=W.ties.length:=by unfold aA.rng;simp
 lia
theorem qp.bp{W:aA}{s:Std}(h:qp W s):L2.bp W s.1∣eD W:=xD h.nd λk hk=>pO.mpr (h.inw k hk)
def ch(W:aA)(k:Int)(b:Bool):Fr:=if b then((W.tie k).top,(W.tie k).bot) else((W.tie k).bot-(W.tie k).top,(W.tie k).bot)
theorem wn{W:aA}(ok:W.Ok){k:Int}(hk:kc W k)(b:Bool):u_ (W.tie k).bot (ch W k b):=by have o:=hk.ok ok;have:=o.c0;have:=o.c1;have:=o.b0;cases b<;>refine⟨?_,?_,?_,?_⟩<;>simp[ch]<;>lia
theorem zH{t b:Int}(hb:0<b)(hg:Uk t b=1):lowM (b-t) b=(b-t,b):=by
 have g:Uk (b-t) b=1:=by rw[show b-t=-(t-b) by lia,Int.neg_gcd,Int.gcd_sub_self_left,hg]
 unfold lowM;rw[if_neg ↥0,g];simp
def rstp(W:aA)(rs:List Fr)(i:Nat)(k:Int)(b:Bool)(l:Int):List Fr:=if l=-1 then rs else rs.set l.toNat (tm (rs.getD i (1,1)) (ch W k b))
def vN(W:aA)(rs:List Fr)(i:Nat)(x:Nd):List Fr:=rstp W (rstp W rs i x.tie true x.yes) i x.tie false x.no
def aY(W:aA)(T:List Nd):Nat->List Fr|0=>Ug T.length (1,1)|i+1=>match T[i]? with|some x=>vN W (aY W T i) i x|none=>aY W T i
theorem yC{W:aA}{T:List Nd}{i:Nat}{x:Nd}(h:T[i]?=some x):aY W T (i+1)=vN W (aY W T i) i x:=by rw[aY,h]
structure eV (W:aA) (S:Nat->Std) (n:Nat) (rs:List Fr):Prop where
 len:rs.length=n
 at':∀(j:Nat) (f:Fr),rs[j]?=some f->u_ (bp W (S j).1) f
theorem pV{W:aA}{rs:List Fr}{i:Nat}{k:Int}{b:Bool}{l:Int}:(rstp W rs i k b l).length=rs.length:=by unfold rstp;split<;>simp
theorem eV.stp{W:aA}(ok:W.Ok){S:Nat->Std}{n:Nat}{rs:List Fr}{i:Nat}{k:Int}{b:Bool}{l:Int}(h:eV W S n rs)(hi:i<n)(hk:kc W k)(hl:nA W n S i k b l):eV W S n (rstp W rs i k b l):=by
 refine⟨by rw[pV];exact h.len,λj s hs=>?_⟩;unfold L2.rstp at hs;split at hs;·exact h.at' j s hs
 case isFalse c=>
  rw[Xr]at hs;split at hs;case isFalse=>exact h.at' j s hs
  case isTrue cj=>
   split at hs;case isFalse=>cases hs
   case isTrue=>
   cases hs;have hil:i<rs.length:=by rw[h.len];exact hi
   have e:rs[i]?=some (rs.getD i (1,1)):=by simp[hil]
   rcases hl with hl|⟨h1,h2,h3⟩;·exact absurd hl c
   ·rw[<-cj,h3];show u_ (bp W (aA.askd (S i).1 k)) _;rw[Hg];exact(h.at' i _ e).tm (wn ok hk b)
theorem eV.first{W:aA}{S:Nat->Std}{n:Nat}:eV W S n (Ug n (1,1)):=⟨by simp,λj s hs=>by
 rw[Wj]at hs;split at hs;·cases hs;exact⟨by decide,by decide,by decide,XQ _⟩
 ·cases hs⟩
theorem eV.all{W:aA}(ok:W.Ok){S:Nat->Std}{T:List Nd}(h:be W T S):∀i,eV W S T.length (aY W T i)
 |0=>eV.first|i+1=>by
  unfold aY;split;·rename_i x hx;have hi:=(TC hx).1;have o:=h i x hx;exact((eV.all ok h i).stp ok hi o.tie o.yes).stp ok hi o.tie o.no
  ·exact eV.all ok h i
theorem AN{rs:List Fr}{i:Nat}{z:Fr}(h:i<rs.length):atI (rs.map dF) (i:Int)=some (dF (rs.getD i z)):=by rw[hX ↥0 (by rw[Uq];lia),Ut];simp[h,dF]
theorem oZ{rs:List Fr}{k:Int}{z:Fr}(h0:0<=k)(h:k<(rs.length:Int)):atI (rs.map dF) k=some (dF (rs.getD k.toNat z)):=by have:=AN (rs:=rs) (i:=k.toNat) (z:=z) ↥0;rw[show((k.toNat:Nat):Int)=k by lia]at this;exact this
theorem eV.one{W:aA}(ok:W.Ok){S:Nat->Std}{T:List Nd}{rs:List Fr}(h:be W T S)(hs:eV W S T.length rs){i:Nat}(hi:i<T.length):u_ (eD W) (rs.getD i (1,1)):=by
 have hil:i<rs.length:=by rw[hs.len];exact hi
 have e:rs[i]?=some (rs.getD i (1,1)):=by simp[hil]
 have r:=hs.at' i _ e;exact⟨r.pos,r.lo,r.hi,Yy r.dv (h i _ (Um hi)).st.bp⟩
def J7(ss:List Fr)(k:Int)(r:Fr):List Fr:=ss.set k.toNat (pl (ss.getD k.toNat (0,1)) r)
def lr(W:aA)(T:List Nd)(rs:List Fr):Nat->List Fr|0=>Ug W.ties.length (0,1)|i+1=>match T[i]? with|some x=>J7 (lr W T rs i) x.tie (rs.getD i (1,1))|none=>lr W T rs i
theorem Bp{W:aA}{T:List Nd}{rs:List Fr}{i:Nat}{x:Nd}(h:T[i]?=some x):lr W T rs (i+1)=J7 (lr W T rs i) x.tie (rs.getD i (1,1)):=by rw[lr,h]
structure xt (W:aA) (i:Nat) (ss:List Fr):Prop where
 len:ss.length=W.ties.length
 at':∀(j:Nat) (f:Fr),ss[j]?=some f->l9 (eD W) (i:Int) f
theorem xt.all{W:aA}(ok:W.Ok){S:Nat->Std}{T:List Nd}{rs:List Fr}(h:be W T S)(hs:eV W S T.length rs):∀i,xt W i (lr W T rs i)
 |0=>⟨by simp[lr],λj f hf=>by
  simp only[lr]at hf;rw[Wj]at hf;split at hf;·cases hf;exact⟨by decide,by decide,by simp,XQ _⟩
  ·cases hf⟩|i+1=>by
  have ih:=xt.all ok h hs i;unfold lr;split
  ·rename_i x hx;have hi:=(TC hx).1;have o:=h i x hx;have k0:=o.tie.1;have k1:=o.tie.2;refine⟨by unfold J7;rw[VG];exact ih.len,λj f hf=>?_⟩;unfold J7 at hf;rw[Xr]at hf;split at hf
   ·split at hf
    ·cases hf;have hil:x.tie.toNat<(lr W T rs i).length:=by rw[ih.len];lia
     have e:(lr W T rs i)[x.tie.toNat]?=some ((lr W T rs i).getD x.tie.toNat (0,1)):=by simp[hil]
     have:=(ih.at' _ _ e).pl (hs.one ok h hi);exact this.mono ↥0
    ·cases hf
   ·exact(ih.at' j f hf).mono ↥0
  ·exact⟨ih.len,λj f hf=>(ih.at' j f hf).mono ↥0⟩
theorem Sz.intB{n:Nat}{k:Int}(h:Bt n k)(h0:0<n)(hn:n<=1900):Sz (n+1) 2 (.int k):=by
 have l:=h.log h0;refine⟨rfl,?_,by simp[US],?_,iT _⟩;·show decide (k.natAbs.log2<1920)=true;rw[decide_eq_true_eq];lia
 ·have:=int_text_length_le h0 l;show(Vh (toString k)).length<=n+1;rw[YM];exact this
theorem Sz.fr{n:Nat}{f:Fr}(h1:Bt n f.1)(h2:Bt n f.2)(h0:0<n)(hn:n<=1900):Sz (2*(n+3)+3) 4 (dF f):=Sz.tup (n:=n+1) (dep:=2) (m:=2) (λd hd=>by
 simp only[Uy,UK,or_false]at hd;rcases hd with rfl|rfl;·exact Sz.intB h1 h0 hn
 ·exact Sz.intB h2 h0 hn) ↥1
def lm(l:Int)(f:Fr):TN:=.tuple [.int l,dF f]
def lq(W:aA)(x:Nd):List TN:=(if x.yes=-1 then[]else[lm x.yes (ch W x.tie true)])++(if x.no=-1 then[]else[lm x.no (ch W x.tie false)])
theorem pW{W:aA}{rs:List Fr}{i:Nat}{k:Int}{b:Bool}:rstp W rs i k b (-1)=rs:=by unfold rstp;rw[if_pos rfl]
theorem xM{W:aA}{k:Int}:dF (ch W k true)=.tuple [.int (W.tie k).top,.int (W.tie k).bot]:=rfl
def L6(sc:Us)(x:Str):Bool:=match sc.names.lookup x with|some .local=>true|some .cell=>true|some .free=>true|_=>false
theorem Js{sc:Us}{x:Str}(h:L6 sc x=true):G6 sc x:=by
 unfold L6 at h;unfold G6;split at h;·rename_i e;exact .inl e
 ·rename_i e;exact .inr (.inl e)
 ·rename_i e;exact .inr (.inr e)
 ·cases h
section
variable{X:Cx}{K:⇑0}
theorem qw(i:Nat){x:Str}{pos:Pos}(hN:X.N[i]?=some x)(hv:L6 X.env.scope x=true)(hd:((x==("__debug__":Str))||(x==("__classdict__":Str)))=false):PE X (.Name x pos) (fE K (ac i)):=qv i hN (Js hv) (Bool.or_eq_false_iff.mp hd).1 (Bool.or_eq_false_iff.mp hd).2
end
def NM(top:Int)(n:Nat):It:=⟨λi _=>i<n,λi H x H'=>H'=H/\x=.int (top-i),λi _=>n<=i⟩
theorem Ay{P:Uc}{w:TX}{K:⇑0}{tg:TU}(it:TM)(top:Int)(n:Nat):AL P w K tg (NM top n) [it] it (λi h=>IsRangeIter h it (top+(i:Nat)*(-1)) ((n:Int)-(i:Nat)) (-1)) where
 mem:=by simp
 obj:=λi h st b hb=>by
  have e:b=it:=by simpa using hb
  subst e;exact⟨_,st,λv z=>by have z':Data.fields _=Data.cell v:=z;cases z'⟩
 keep:=λi h h' st k=>k it ↥1 _ st;item:=by intro X hP hw hK hc i pins s σ H E I hf st hg;subst hP hw hK;obtain⟨f0,f1,f2,f3,f4,f5⟩:=hf it ↥1;have W:=Walks.range (prog:=X.prog) (w:=X.w) (I.ok.hd hc) it top (-1) n;refine W.item i s _ _ hg st λv h' tk hv st' kk=>?_;obtain⟨t,rfl⟩:=hv;have I1:aM X pins σ H {s with heap:=h',toks:=tk}:=I.turned (λb o hb e=>kk b o (by simpa using hb) e) f0 f1 f3 f4 f5;refine⟨_,rfl,B0 (s:={s with heap:=h',toks:=tk}) (n:="range_iterator") st' rfl rfl ⋯ ⟨.int (top-i),H,I1,⟨t,?_⟩,⟨rfl,rfl⟩,st',λb hb=>(hf b hb).1⟩⟩;rw[show(top+(i:Int)*-1:Int)=top-(i:Int) by lia]
 done:=by intro X hP hw hK hc i pins s σ H E I hf st hg;subst hP hw hK;obtain⟨f0,f1,f2,f3,f4,f5⟩:=hf it ↥1;exact wpAny_pyNext_range_end (I.ok.hd hc) st (by have:n<=i:=hg;lia) λh' eb=>⟨rfl,I.turned (t':=s.toks) (λb o hb e=>eb b o hb e) f0 f1 f3 f4 f5⟩
 self:=λ_ _ _ _ _ st h=>YG st h
section
variable{X:Cx}{tg a b c:TU}{ta:TA}{p pos p2 pos2:Pos}
def N8(ta:TA):TI:=λσ H R=>ta σ H λvs H1=>∃j:Int,vs=[.int j]/\(0<=j/\j<=100000/\R (NM (j-1) j.toNat) H1)
theorem Ll(hgv:Gl X "reversed")(hmv:X.mg "reversed"=none)(hg:Gl X "range")(hm:X.mg "range"=none)(ha:PA X [a] ta)(hs:Ue [a] X.env=[(false,Ui a X.env)])(he:Ue [.Call (.Name "range" p) [a] [] pos] X.env=(false,Ui (.Call (.Name "range" p) [a] [] pos) X.env)::Ue [] X.env):PI X tg (.Call (.Name "reversed" p2) [.Call (.Name "range" p) [a] [] pos] [] pos2) (N8 ta):=by
 intro pins s σ H R I h;refine Yg (mI I hgv hmv ve ?_ ⋯ ⋯);refine Xi ?_ he rfl;rw[he];refine Calls.spliced_cons (dn (EA hg hm ha hs I h) λu s1⟨r,j,H1,t,u1,w,e,hr,lt,I1,j0,j1,q⟩=>?_);subst e;refine Uh ?_;refine Gd hr j0 j1 ?_;have hI:IsRangeIter (s1.heap.push (wY j)) ↑s1 (j-1) (j.toNat:Int) (-1):=by
  have:((j.toNat:Nat):Int)=j:=by lia
  rw[this];exact UT _ rfl
 have I2:aM X pins σ H1 {s1 with heap:=s1.heap.push (wY j)}:=I1.kept (t':=s1.toks) λb o e=>UC _ e;refine YG hI ?_;refine⟨↑s1,[↑s1],_,_,H1,rfl,I2,Ay _ (j-1) j.toNat,?_,λb hb=>?_,q⟩;·show IsRangeIter _ _ (j-1+((0:Nat):Int)*(-1)) ((j.toNat:Int)-((0:Nat):Int)) (-1);rw[show(j-1+((0:Nat):Int)*(-1):Int)=j-1 by lia,show((j.toNat:Int)-((0:Nat):Int):Int)=(j.toNat:Int) by lia];exact hI
 ·have e:b=↑s1:=by simpa using hb
  subst e;exact I1.fpOk ↥8 (I1.hok.fresh ↥8)
end
def pz(top:Int)(n:Nat):List TN:=(Uu n).map fun(i:Nat)=>.int (top-(i:Int))
section
variable{K:⇑0}{σ:L2.St}
theorem C4{top:Int}{n:Nat}{F0:Hp}:AI K σ (NM top n) (pz top n) [] F0:=by intro F H s0 s1 hh;unfold pz;rw[Uq,List.length_range];refine⟨λi hi=>hi,λi hi=>hi,λi x v H' hx hy=>?_⟩;obtain⟨rfl,rfl⟩:=hy;rw[Ut]at hx;obtain⟨k,h1,rfl⟩:=TB hx;have h2:=(TC h1).2;simp at h2;subst h2;exact⟨F,aF.refl _,aF.refl _,s1,λ_ h _=>h,bZ.mpr rfl⟩
end
section
variable{X:Cx}{K:⇑0}{tg a b c:TU}{fs:FA}{pos p p2 pos2:Pos}
def B3(fs:FA):FI:=λe=>(fs e).bind λp=>match p.1 with|[r]=>(bU r).bind λj=>if 0<=j/\j<=100000 then some (pz (j-1) j.toNat,[],p.2) else none|_=>none
theorem Lx(hgv:Gl X "reversed")(hmv:X.mg "reversed"=none)(hg:Gl X "range")(hm:X.mg "range"=none)(ha:PA X [a] (fA K fs))(hs:Ue [a] X.env=[(false,Ui a X.env)])(he:Ue [.Call (.Name "range" p) [a] [] pos] X.env=(false,Ui (.Call (.Name "range" p) [a] [] pos) X.env)::Ue [] X.env):PI X tg (.Call (.Name "reversed" p2) [.Call (.Name "range" p) [a] [] pos] [] pos2) (fI K (B3 fs)):=(Ll hgv hmv hg hm ha hs he).mono λσ H R hh=>by obtain⟨F,e,items,own,e',R0,hf,q⟩:=hh;unfold B3 at hf;obtain⟨⟨rs,e1⟩,h1,hf⟩:=Tz hf;match rs,h1,hf with
 |[r],h1,hf=>
 obtain⟨j,h2,hf⟩:=Tz hf;split at hf;case isFalse=>cases hf
 case isTrue hj=>cases hf;refine⟨F,e,_,e1,R0,h1,λF1 H1 vs X1 R1 A1=>?_⟩;obtain⟨v,rfl,A2⟩:=pX A1;exact⟨j,by rw[cN A2 h2],hj.1,hj.2,q _ F1 H1 X1 R1 (λ_ h=>by cases h) C4⟩
end
theorem CV{top:Int}{n i:Nat}{x:TN}(h:(pz top n)[i]?=some x):x=.int (top-i)/\i<n:=by unfold pz at h;rw[Ut]at h;obtain⟨k,h1,rfl⟩:=TB h;obtain⟨h2,h3⟩:=TC h1;simp at h2 h3;subst h3;exact⟨rfl,h2⟩
theorem CW{top:Int}{n:Nat}:(pz top n).length=n:=by simp[pz]
section
variable(P:Uc)(w:TX)
end
section
variable{P:Uc}{w:TX}{H H':Hp}{h h':Ua}{a:TM}{o:HO}
end
section
variable{P:Uc}{w:TX}{H:Hp}{h h':Ua}{x e:TM}{o':HO}
end
section
variable{fs fs' ex ex':List TM}{H H1 H2:Hp}{h h1 h2 h':Ua}{a x e:TM}{o:HO}
end
section
variable{X:Cx}{pins:List (TM×Obj)}{σ:List (Option V)}{H H':Hp}{s:TQ}{h':Ua}
end
section
variable{X:Cx}
variable{a b:TU}{ta tb:TE}{pos:Pos}
variable{tA tB':TT}{iL:List TU}
end
section
variable{X:Cx}{pins:List (TM×Obj)}{σ:St}{H:Hp}{s:TQ}{a:TM}{xs ys:List V}
end
section
variable{X:Cx}{pins:List (TM×Obj)}{σ:St}{H:Hp}{s:TQ}{E:TL->TQ->Prop}
end
section
variable{X:Cx}{st:Ub}{iL:List Ub}{t u:TS}{e:TU}{te:TE}{pos:Pos}
end
section
variable{X:Cx}{pos:Pos}
end
section
variable{X:Cx}{pos:Pos}
end
section
variable{X:Cx}{tg:TU}
end
section
variable{X:Cx}{a b c:TU}{ta tb tc:TE}{pos:Pos}
end
section
variable{X:Cx}{a b c:TU}{ta tb tc:TE}{pos:Pos}
end
section
variable{prog:Uc}{w:TX}{A:Ud}{E:TL->TQ->Prop}{s:TQ}{K:⇑0}{x dx C f:TM}{mA:Str->Option TL}{name:Str}{v:TL}
end
section
variable{P:Uc}{w:TX}{H H':Hp}{h h':Ua}{a C dx:TM}{fs fs':List (Str×V)}
end
section
variable{X:Cx}{pins:List (TM×Obj)}{σ:St}{H:Hp}{s:TQ}{a C dx:TM}{fs:List (Str×V)}{f:Str}{v:V}{A:Ud}{E:TL->TQ->Prop}
end
section
variable{X:Cx}{o e value:TU}{f:Str}{pos pos' tpos:Pos}{ta tv:TE}
end
section
variable{X:Cx}{pins:List (TM×Obj)}{σ:St}{H:Hp}{s:TQ}{A:Ud}{E:TL->TQ->Prop}{Q:TL->TQ->Prop}{c:TL}{b:Bool}
end
section
variable{X:Cx}{e:TU}{es:List TU}{te:TE}{t:TA}{pos:Pos}
end
section
variable{X:Cx}{pins:List (TM×Obj)}{σ:St}{H:Hp}{s s':TQ}
end
section
variable{X:Cx}{CX:AH}{k:Nat}{f C:TM}{fd:UM}{ps:List Str}{sp:Sp}{dvs:List V}{ds:List TL}{E:XK}{x m:Str}{p pos apos:Pos}{e o:TU}{es:List TU}{ta:TE}{t:TA}
end
section
variable{X:Cx}{CX:AH}{k:Nat}{f C:TM}{fd:UM}{ps ks:List Str}{sp:Sp}{E:XK}{x m:Str}{p pos apos kpos:Pos}{e o:TU}{es:List TU}{kws:List Vn}{te ta:TE}{t tk:TA}{nm:Option Str}
variable{g:List TL->List TL->List TL}{gV:List V->List V->List V}
end
section
variable{X:Cx}{x:Str}{p pos:Pos}{e:TU}{es:List TU}{t:TA}{id T:String}{r:List V->Hp->VK->Prop}
end
section
variable{κ:Type}[DecidableEq κ]
def MU(kvs:List (κ×V))(k:κ)(v:V):List (κ×V):=if (kvs.any λkv=>decide (kv.1=k))=true then kvs.map (λkv=>if kv.1=k then(kv.1,v) else kv) else kvs++[(k,v)]
end
section
variable{P:Uc}{w:TX}{H:Hp}{h:Ua}{a:TM}
end
section
variable{X:Cx}{pins:List (TM×Obj)}{σ:St}{H:Hp}{s:TQ}{a:TM}{y v:V}{u r:TL}{o:Option V}{A:Ud}{E:TL->TQ->Prop}
end
section
variable{X:Cx}{pins:List (TM×Obj)}{σ:St}{H:Hp}{s:TQ}{a:TM}{kvs:List (nY×V)}{k:nY}{u:TL}{A:Ud}{E:TL->TQ->Prop}
end
section
variable{X:Cx}{o i e value:TU}{pos pos' tpos:Pos}{td ty tv:TE}
end
section
variable{X:Cx}{pos:Pos}
end
section
variable{X:Cx}{pins:List (TM×Obj)}{σ:St}{H:Hp}{s:TQ}{a:TM}{y d:V}{u r:TL}{o:Option V}{A:Ud}{E:TL->TQ->Prop}
end
section
variable{X:Cx}{o e f:TU}{apos cpos:Pos}{td ty tx:TE}
end
section
variable{X:Cx}{pins:List (TM×Obj)}{σ:St}{H:Hp}{s:TQ}{a:TM}{kvs:List (nY×V)}{A:Ud}{E:TL->TQ->Prop}
end
section
variable{X:Cx}{pins:List (TM×Obj)}{σ:St}{H:Hp}{s:TQ}{a:TM}{y:V}{u:TL}{A:Ud}{E:TL->TQ->Prop}
end
end L2
namespace Att
open PySem PySem.W PySem.Calls PyProof.Rows
section
variable{prog:Uc}{w:TX}{A:Ud}{E:TL->TQ->Prop}{s:TQ}{K:Frag}
end
end Att
namespace L2
open PySem PySem.Spec PyProof.Rows
section
variable{P:Uc}{w:TX}{K:⇑0}{mg:Str->Option TL}{base:Ua}
end
section
variable{X:Cx}
end
section
variable{κ:Type}[DecidableEq κ]
end
def Nw:TN->String|.none=>"NoneType"|.bool _=>"bool"|.int _=>"int"|.str _=>"str"|.tuple _=>"tuple"|.list _=>"list"|.dict _=>"dict"
def LP(t T:String):Bool:=t==T||(t=="bool"&&T=="int")
def Mw(T:String)(d:TN):Bool:=LP (Nw d) T
def xQ(T:String):En->Rv->Option Rv:=λ_ r=>match r with|.d x=>some (.d (.bool (Mw T x)))|_=>some (.d (.bool (Mw T (.list []))))
section
variable{X:Cx}{K:⇑0}{a:TU}{fa:FE}{pos p p2:Pos}
def NV(K:⇑0)(H:Hp):V->String->Prop|.non,t=>t="NoneType"|.bl _,t=>t="bool"|.int _,t=>t="int"|.str _,t=>t="str"|.ref a,t=>(t="tuple"/\∃xs,fj K H a xs)\/(t="list"/\∃xs,jU K H a xs)\/(t="dict"/\∃m,H a=some (.dK m))|_,_=>False
theorem Eo{T:String}:fR X (.builtin "isinstance") (λxs H Q=>∃x t b,xs=[x,.ty T]/\NV X.K H x t/\PySem.W.kitOne X.K (.type t) (.type T)=some b/\Q (.bl b) H):=by
 intro pins s σ H xs us Q I r h;obtain⟨x,t,b,rfl,ht,hk,q⟩:=h;obtain⟨u1,u2,rfl,r1,r2⟩:∃u1 u2,us=[u1,u2]/\bY x u1/\bY (.ty T) u2:=by cases r with|cons p q=>cases q with|cons p' q'=>cases q';exact⟨_,_,rfl,p,p'⟩
 cases r2;have q':∀tk,EP X pins σ Q (.bool b) {s with toks:=tk}:=λtk=>⟨.bl b,H,I.tok _,rfl,q⟩;cases x with|non=>cases (show u1=Value.none from r1);cases (show t=_ from ht);exact Xe PySem.W.kitx_none I.kIn True.intro hk (λz=>nomatch z) q'|bl y=>cases (show u1=Value.bool y from r1);cases (show t=_ from ht);exact Xe PySem.W.kitx_bool I.kIn True.intro hk (λz=>nomatch z) q'|int i=>obtain⟨tt,rfl⟩:=r1;cases (show t=_ from ht);exact Xe PySem.W.kitx_int I.kIn True.intro hk (λz=>nomatch z) q'|str y=>obtain⟨tt,rfl⟩:=r1;cases (show t=_ from ht);exact Xe PySem.W.kitx_str I.kIn True.intro hk (λz=>nomatch z) q'|ref a=>
  cases (show u1=Value.ref a from r1);rcases ht with⟨rfl,xs,hs⟩|⟨rfl,xs,hs⟩|⟨rfl,m,hs⟩;·obtain⟨its,rv,pl,hz⟩:=I.tuple hs;obtain⟨o,h1,h2⟩:=pl.typeIs;exact Xe PySem.W.kitx_tuple I.kIn ⟨o,h1,h2⟩ hk (λz=>nomatch z) q'
  ·obtain⟨its,rv,pl,hz⟩:=I.list hs;obtain⟨o,h1,h2⟩:=pl.isList.typeIs;exact Xe PySem.W.kitx_list I.kIn ⟨o,h1,h2⟩ hk (λz=>nomatch z) q'
  ·obtain⟨_,_,vs,_,pp⟩:=(show jr X.prog X.w H s.heap a (.dK m) from I.hok a _ hs);obtain⟨o,es,ep,h1,h2,_⟩:=pp;exact Xe PySem.W.kitx_dict I.kIn ⟨o,h1,h2.1⟩ hk (λz=>nomatch z) q'|_=>exact VX ht
theorem Fx{x:Str}{T:String}(hg:Gl X x)(hm:X.mg x=none)(hv:Vu x=some (.type T))(hn:x≠"__name__")(hd:(x==("__debug__":Str))=false):PE X (.Name x pos) (tC (.ty T)):=λpins s σ H Q I h=>mI I hg hm hv ⟨.ty T,H,I,rfl,h⟩ hn hd
theorem KQ{t T:String}(ht:t∈["NoneType","bool","int","str","tuple","list","dict"])(hT:T∈["int","bool","tuple","str"]):PySem.W.kitOne K (.type t) (.type T)=some (LP t T):=by simp only[Uy,UK,or_false]at ht hT;rcases ht with rfl|rfl|rfl|rfl|rfl|rfl|rfl<;>rcases hT with rfl|rfl|rfl|rfl<;>rfl
theorem Jn(d:TN):Nw d∈["NoneType","bool","int","str","tuple","list","dict"]:=by cases d<;>simp[Nw]
theorem LZ{F H:Hp}{d:TN}{v:V}(h:DA K F d v)(s:aF F H):NV K H v (Nw d):=by have h:=DA.mono s h;cases d with|none=>rw[lD.mp h];rfl|bool b=>rw[gb.mp h];rfl|int b=>rw[bZ.mp h];rfl|str b=>rw[AV.mp h];rfl|tuple ds=>obtain⟨a,xs,rfl,h1,_⟩:=dk.mp h;exact .inl ⟨rfl,xs,h1⟩|list ds=>obtain⟨a,xs,rfl,h1,_⟩:=dD.mp h;exact .inr (.inl ⟨rfl,xs,h1⟩)|dict m=>simp only[DA]at h;obtain⟨a,m,rfl,h1,_⟩:=h;exact .inr (.inr ⟨rfl,_,h1⟩)
theorem Hn{f:FE}{σ:L2.St}{H:Hp}{Q Q':VK}(h:fE K f σ H Q)(m:∀v H1,Q v H1->Q' v H1):fE K f σ H Q':=by obtain⟨F,e,r,e',R,hf,q⟩:=h;exact⟨F,e,r,e',R,hf,λF' H' v x R' A=>m _ _ (q F' H' v x R' A)⟩
theorem Mx{T:String}:Mf K (λv H Q=>∃t,t∈["NoneType","bool","int","str","tuple","list","dict"]/\NV K H v t/\Q (.bl (LP t T)) H) (xQ T):=by intro σ H0 F H e x z v Q R A hg q;unfold xQ at hg;cases x with|d d=>cases hg;exact⟨Nw d,Jn d,LZ A R.sm,q F H _ (hV.refl _ _ _ _) R jg⟩|l xs=>cases hg;obtain⟨l,vs,rfl,h1,h2,h3,h4⟩:=A;exact⟨"list",by simp,.inr (.inl ⟨rfl,vs,jU.of h3⟩),q F H _ (hV.refl _ _ _ _) R jg⟩|s i=>cases hg;obtain⟨h1,xs,h2⟩:=A;obtain⟨l,vs,h3,h4,h5,h6⟩:=R.own i xs h2;rw[h1]at h3;cases h3;exact⟨"list",by simp,.inr (.inl ⟨rfl,vs,jU.of h5⟩),q F H _ (hV.refl _ _ _ _) R jg⟩
theorem FR{x:Str}{T:String}(hK:X.K=K)(hT:T∈["int","bool","tuple","str"])(hg:Gl X "isinstance")(hm:X.mg "isinstance"=none)(hgT:Gl X x)(hmT:X.mg x=none)(OB:Vu x=some (.type T))(hn:x≠"__name__")(hd:(x==("__debug__":Str))=false)(ha:PE X a (fE K fa))(he:Ue [a,.Name x p2] X.env=(false,Ui a X.env)::Ue [.Name x p2] X.env)(hpl:(UD pos (Ue [.Name x p2] X.env)).any (·.1)=false):PE X (.Call (.Name "isinstance" p) [a,.Name x p2] [] pos) (fE K (si (xQ T) fa)):=(uu (Eo (T:=T)) hg hm boot_isinstance (yv ha (yv (Fx hgT hmT OB hn hd) qL) he) ⋯ ⋯ he hpl).mono λσ H Q h=>by subst hK;have h1:=GU (Mx (T:=T)) h;refine Hn h1 λv H1⟨t,ht,k,q⟩=>?_;exact⟨v,t,_,rfl,k,KQ ht hT,q⟩
end
section
variable{X:Cx}{K:⇑0}
def J4:FS:=λ_=>none
theorem IQ{st:Ub}:PS X st (fS K J4 []):=λpins s σ H D I h=>by obtain⟨F,e,fl,R,hf,_⟩:=h;cases hf
end
section
variable{X:Cx}{K:⇑0}{σ:L2.St}{F H:Hp}{e:En}{pos p1 p2:Pos}
end
section
variable{X:Cx}{K:⇑0}{a b c d:TU}{ta tb tc td:TE}{fa fb fc fd:FE}{pos:Pos}
end
section
variable{X:Cx}{K:⇑0}{a b:TU}{es:List TU}{fa fb:FE}{fs:FA}{pos p apos:Pos}
end
section
variable{X:Cx}{K:⇑0}{a b:TU}{fa fb:FE}{fs:FA}{pos p p2 p3:Pos}
end
theorem u_.tmS{N M i:Int}{c y:Fr}(hc:u_ N c)(hy:l9 M i y):l9 (N*M) i (L2.tm c y):=by have p:0<c.2*y.2:=UO hc.pos hy.pos;have t:0<=c.1*y.1:=Xu hc.lo hy.lo;obtain⟨d,d0,h3,h4,h5,h6⟩:=lJ p t;refine⟨h5,h6,sU p t ?_,Yy (zG p t) (Int.mul_dvd_mul hc.dv hy.dv)⟩;have e1:c.1*y.1<=c.2*y.1:=Xv hc.hi hy.lo;have e2:c.2*y.1<=c.2*(i*y.2):=Int.mul_le_mul_of_nonneg_left hy.hi (Wf hc.pos);rw[show i*(c.2*y.2)=c.2*(i*y.2) by ac_rfl];lia
theorem l9.plS{M i j:Int}{a b:Fr}(h:l9 M i a)(k:l9 M j b):l9 M (i+j) (L2.pl a b):=by
 have p:0<a.2*b.2:=UO h.pos k.pos;have t:0<=a.1*b.2+b.1*a.2:=Int.add_nonneg (Xu h.lo (Wf k.pos)) (Xu k.lo (Wf h.pos));obtain⟨d,d0,h3,h4,h5,h6⟩:=lJ p t;refine⟨h5,h6,sU p t ?_,?_⟩;·have e1:a.1*b.2<=i*a.2*b.2:=Xv h.hi (Wf k.pos);have e2:b.1*a.2<=j*b.2*a.2:=Xv k.hi (Wf h.pos);rw[Xw,show i*(a.2*b.2)=i*a.2*b.2 by ac_rfl,show j*(a.2*b.2)=j*b.2*a.2 by ac_rfl];lia
 ·obtain⟨x,hx⟩:=h.dv;obtain⟨y,hy⟩:=k.dv;refine zF (u:=a.1*x+b.1*y) p t ?_;rw[Xw,Int.mul_add];congr 1;·rw[hx];rw[show a.1*b.2*(a.2*x)=a.2*b.2*(a.1*x) by ac_rfl]
  ·rw[hy];rw[show b.1*a.2*(b.2*y)=a.2*b.2*(b.1*y) by ac_rfl]
def bq(W:aA)(as:List Int):Int:=bp W (W.rng.filter λk=>!as.contains k)
theorem wX(W:aA):W.rng.Nodup:=by unfold aA.rng;rw[UB,List.pairwise_map];exact List.nodup_range.imp λh z=>h (by have:((_:Nat):Int)=((_:Nat):Int):=z;lia)
theorem BR{W:aA}{as:List Int}{k:Int}(hk:kc W k)(hn:k∉as):bq W as=(W.tie k).bot*bq W (aA.askd as k):=by
 unfold bq;have hm:k∈W.rng.filter λk=>!as.contains k:=by rw[Wg];exact⟨pO.mpr hk,by simpa using hn⟩
 rw[sP (YW hm)];show(W.tie k).bot*_=_;congr 2;have nd:(W.rng.filter λk=>!as.contains k).Nodup:=(wX W).filter _;rw[nd.erase_eq_filter,List.filter_filter];congr 1;funext j;have:(aA.askd as k).contains j=(as.contains j||j==k):=by rw[Xm];simp[aA.askd,qW]
 rw[this];cases as.contains j<;>cases h:(j==k)<;>simp[bne,h]
theorem Km{W:aA}{as:List Int}:bq W as∣eD W:=xD ((wX W).filter _) λk hk=>(Wg.mp hk).1
def wI(l:Nat):Int:=1000*(2^(16-l)-1)
theorem Jt{l:Nat}(h:l<=15):wI l=1000+wI (l+1)+wI (l+1):=by unfold wI;rw[show 16-l=(16-(l+1))+1 by lia,Int.pow_succ];lia
theorem AF{l:Nat}:0<=wI l/\wI l<=65536000:=by
 unfold wI;have h1:(2:Nat)^(16-l)<=2^16:=XH ⋯ ↥0;have h2:1<=(2:Nat)^(16-l):=Nat.one_le_two_pow;have e:((2:Int)^(16-l))=((2^(16-l):Nat):Int):=by simp
 rw[e];lia
def aw(W:aA)(k:Int)(y n:Fr):Fr:=pl (tm (ch W k true) (pl ((W.tie k).worth,1) y)) (tm (ch W k false) n)
structure sj (W:aA) (k:Int) (as:List Int) (y n:Fr):Prop where
 y:l9 (bq W (aA.askd as k)) (wI (as.length+1)) y
 n:l9 (bq W (aA.askd as k)) (wI (as.length+1)) n
 len:as.length<=15
 inw:kc W k
 new:k∉as
theorem sj.w{W:aA}{k:Int}{as:List Int}{y n:Fr}(ok:W.Ok)(h:sj W k as y n):l9 (bq W (aA.askd as k)) 1000 ((W.tie k).worth,1):=by have o:=h.inw.ok ok;have:=o.w0;have:=o.w1;exact⟨by show(0:Int)<1;decide,by show 0<=(W.tie k).worth;lia,by show(W.tie k).worth<=1000*1;lia,XQ _⟩
theorem sj.t1{W:aA}{k:Int}{as:List Int}{y n:Fr}(ok:W.Ok)(h:sj W k as y n):l9 (bq W (aA.askd as k)) (1000+wI (as.length+1)) (pl ((W.tie k).worth,1) y):=(h.w ok).plS h.y
theorem sj.t2{W:aA}{k:Int}{as:List Int}{y n:Fr}(ok:W.Ok)(h:sj W k as y n):l9 (bq W as) (1000+wI (as.length+1)) (tm (ch W k true) (pl ((W.tie k).worth,1) y)):=by rw[BR h.inw h.new];exact(wn ok h.inw true).tmS (h.t1 ok)
theorem sj.t3{W:aA}{k:Int}{as:List Int}{y n:Fr}(ok:W.Ok)(h:sj W k as y n):l9 (bq W as) (wI (as.length+1)) (tm (ch W k false) n):=by rw[BR h.inw h.new];exact(wn ok h.inw false).tmS h.n
theorem sj.t4{W:aA}{k:Int}{as:List Int}{y n:Fr}(ok:W.Ok)(h:sj W k as y n):l9 (bq W as) (wI as.length) (aw W k y n):=by rw[Jt h.len];exact(h.t2 ok).plS (h.t3 ok)
theorem l9.b{W:aA}(ok:W.Ok){as:List Int}{i:Int}{f:Fr}(h:l9 (bq W as) i f)(h0:0<=i)(hi:i<=65537000):Bt 140 f.1/\Bt 140 f.2:=by have b:=jw ok;have h2:l9 (eD W) i f:=⟨h.pos,h.lo,h.hi,Yy h.dv Km⟩;obtain⟨b1,b2⟩:=h2.bt b.2 b.1 (m:=27) (by unfold Bt;lia);exact⟨b1,b2.mono ⋯⟩
def lk(ws:List Fr)(l:Int):Fr:=if l=-1 then(0,1) else ws.getD l.toNat (0,1)
structure n_ (W:aA) (S:Nat->Std) (n:Nat) (ws:List Fr):Prop where
 len:ws.length=n
 at':∀(j:Nat) (f:Fr),ws[j]?=some f->l9 (bq W (S j).1) (wI (S j).1.length) f
theorem q_{M i:Int}(h:0<=i):l9 M i (0,1):=⟨by decide,by decide,by show(0:Int)<=i*1;lia,XQ _⟩
theorem wQ{W:aA}{S:Nat->Std}{n:Nat}{ws:List Fr}{i:Nat}{k:Int}{b:Bool}{l:Int}(h:n_ W S n ws)(hl:nA W n S i k b l):l9 (bq W (aA.askd (S i).1 k)) (wI ((S i).1.length+1)) (lk ws l):=by
 unfold lk;rcases hl with hl|⟨h1,h2,h3⟩;·rw[if_pos hl];exact q_ AF.1
 ·rw[if_neg ↥0];have hil:l.toNat<ws.length:=by rw[h.len];lia
  have e:ws[l.toNat]?=some (ws.getD l.toNat (0,1)):=by simp[hil]
  have:=h.at' _ _ e;rw[h3]at this;have e1:(nxt W (S i) k b).1.length=(S i).1.length+1:=js;rw[e1]at this;exact this
theorem Jz{W:aA}(ok:W.Ok){S:Nat->Std}{T:List Nd}{ws:List Fr}{i:Nat}{x:Nd}(h:be W T S)(hs:n_ W S T.length ws)(hx:T[i]?=some x):sj W x.tie (S i).1 (lk ws x.yes) (lk ws x.no):=by have o:=h i x hx;exact⟨wQ hs o.yes,wQ hs o.no,o.room ok,o.tie,pN o.may⟩
def wd1(W:aA)(ws:List Fr)(i:Nat)(x:Nd):List Fr:=ws.set i (aw W x.tie (lk ws x.yes) (lk ws x.no))
def eA(W:aA)(T:List Nd):Nat->List Fr|0=>Ug T.length (0,1)|m+1=>match T[T.length-1-m]? with|some x=>wd1 W (eA W T m) (T.length-1-m) x|none=>eA W T m
theorem GV{W:aA}{T:List Nd}{m:Nat}{x:Nd}(h:T[T.length-1-m]?=some x):eA W T (m+1)=wd1 W (eA W T m) (T.length-1-m) x:=by rw[eA,h]
theorem n_.wd1{W:aA}(ok:W.Ok){S:Nat->Std}{T:List Nd}{ws:List Fr}{i:Nat}{x:Nd}(h:be W T S)(hs:n_ W S T.length ws)(hx:T[i]?=some x):n_ W S T.length (L2.wd1 W ws i x):=by
 refine⟨by unfold L2.wd1;rw[VG];exact hs.len,λj f hf=>?_⟩;unfold L2.wd1 at hf;rw[Xr]at hf;split at hf;case isFalse=>exact hs.at' j f hf
 case isTrue c=>
  split at hf;case isFalse=>cases hf
  case isTrue=>cases hf;rw[<-c];exact(Jz ok h hs hx).t4 ok
theorem n_.all{W:aA}(ok:W.Ok){S:Nat->Std}{T:List Nd}(h:be W T S):∀m,n_ W S T.length (eA W T m)
 |0=>⟨by simp[eA],λj f hf=>by
  simp only[eA]at hf;rw[Wj]at hf;split at hf;·cases hf;exact q_ AF.1
  ·cases hf⟩|m+1=>by
  unfold eA;split;·rename_i x hx;exact(n_.all ok h m).wd1 ok h hx
  ·exact n_.all ok h m
theorem Sz.int10{n m:Nat}{k:Int}(hb:Bt m k)(m0:0<m)(m1:m<=1900)(h:k.natAbs<10^n)(h0:0<n):Sz (n+1) 2 (.int k):=by
 refine⟨rfl,?_,by simp[US],?_,iT _⟩;·show decide (k.natAbs.log2<1920)=true;rw[decide_eq_true_eq];have:=hb.log m0;lia
 ·have:=int_text_length_le10 h0 h;show(Vh (toString k)).length<=n+1;rw[YM];exact this
theorem Sz.fr140{f:Fr}(h1:Bt 140 f.1)(h2:Bt 140 f.2):Sz 95 4 (dF f):=by
 have key:∀{k:Int},Bt 140 k->Sz 44 2 (.int k):=fun{k}h=>Sz.int10 (n:=43) h ⋯ ⋯ (UU h ⋯) ⋯;exact Sz.tup (n:=44) (dep:=2) (m:=2) (λd hd=>by
  simp only[Uy,UK,or_false]at hd;rcases hd with rfl|rfl;·exact key h1
  ·exact key h2) ↥1
theorem Hd{T:List Nd}{i:Nat}{y:Nd}(h:T[i]?=some y):atI (T.map bg) (i:Int)=some (bg y):=by have hi:i<T.length:=(TC h).1;rw[hX ↥0 (by rw[Uq];lia),Ut];simp[h]
theorem BJ{ws:List Fr}{l:Int}(c:l≠-1)(h0:-1<=l)(h1:l<(ws.length:Int)):atI (ws.map dF) l=some (dF (lk ws l)):=by unfold lk;rw[if_neg c];exact oZ ↥0 h1
theorem hZ{cs:En}{g:FG}{ft:FT}{fe:FE}{b:TN->Bool}{y:TN->TN}{u:TN->En}(n:Nat):∀(items:List TN) (t:En) (acc:List TN),t.length=n->(∀x∈items,∀t:En,t.length=n->g x (cs++t)=some (cs++u x))->(∀x∈items,(u x).length=n)->(∀x∈items,ft (cs++u x)=some (b x,cs++u x))->(∀x∈items,b x=true->fe (cs++u x)=some (.d (y x),cs++u x))->acc.length+items.length<=1000000->∃t',t'.length=n/\bT g ft fe items (cs++t) acc=some (acc++(items.filter b).map y,cs++t')|[],t,acc,h,_,_,_,_,_=>⟨t,h,by simp[bT]⟩|x::r,t,acc,h,hg,hu,h1,h2,hl=>by have h1x:=h1 x ↥1;unfold bT;rw[hg x ↥1 t h];simp only[Ul,h1x];cases hb:b x with|true=>simp only[if_true,h2 x ↥1 hb,Ul,ox];rw[if_pos (by simp at hl;lia)];obtain⟨t',e1,ih⟩:=hZ (b:=b) (y:=y) (u:=u) n r (u x) (acc++[y x]) (hu x ↥1) (λz hz=>hg z (by simp[hz])) (λz hz=>hu z (by simp[hz])) (λz hz=>h1 z (by simp[hz])) (λz hz=>h2 z (by simp[hz])) (by simp at hl⊢;lia);exact⟨t',e1,by rw[ih];simp[hb]⟩|false=>simp only[WZ,if_false];obtain⟨t',e1,ih⟩:=hZ (b:=b) (y:=y) (u:=u) n r (u x) acc (hu x ↥1) (λz hz=>hg z (by simp[hz])) (λz hz=>hu z (by simp[hz])) (λz hz=>h1 z (by simp[hz])) (λz hz=>h2 z (by simp[hz])) (by simp at hl;lia);exact⟨t',e1,by rw[ih];simp[hb]⟩
theorem ni{nT:Nat}{fi:FI}{g:FG}{ft:FT}{fe:FE}{e e1 eo:En}{items out:List TN}{own:kG}(h1:fi e=some (items,own,e1))(h3:bT g ft fe items (Ug nT none) []=some (out,eo)):bD [] nT fi g ft fe e=some (.l out,e1):=by unfold bD;rw[h1];simp only[Ul];rw[if_pos ↥1,show oV [] nT e1=Ug nT none from rfl,h3];simp only[Ul];rw[if_pos (by simp[jv])];congr 2;refine VT λi=>?_;rw[bX];match h:e1[i]? with|none=>rfl|some none=>rfl|some (some (.d x))=>rfl|some (some (.n x))=>rfl|some (some (.l x))=>rfl
theorem Bv{ls:List Str}{k:Nat}(h:∀x∈ls,x.length<=k):(ls.map (·.length)).sum<=ls.length*k:=by induction ls with|nil=>simp|cons x r ih=>have h1:=h x ↥1;have h2:=ih λy hy=>h y (by simp[hy]);simp only[Uo,UY,Vc,Nat.succ_mul];lia
section
variable{X:Cx}{K:⇑0}{a:TU}{fa:FE}{pos p pos2 p2:Pos}
end
section
variable{X:Cx}{K:⇑0}{a:TU}{fa:FE}
end
abbrev Rn:=List (Int×Bool)
def Hq(R:Rn):List Int:=R.map (·.1)
def JH(W:aA)(R:Rn):List Int:=(R.filter (·.2)).flatMap λr=>[(W.tie r.1).one,(W.tie r.1).other]
structure OP (W:aA) (R:Rn) (asked taken:List Int):Prop where
 pa:asked.Perm (Hq R)pt:taken.Perm (JH W R)inw:∀k∈Hq R,kc W k
 nd:(Hq R).Nodup
 nk:(JH W R).Nodup
 bd:∀t:Int,0<=t->t<W.things->W.many (Hq R) t<=W.pat.getD t.toNat 0
 ak:(R.length:Int)<=W.asks
 sa:asked.Pairwise (·<=·)st:taken.Pairwise (·<=·)
section
variable{prog:Uc}{w:TX}{A:Ud}{R:Result->TQ->Prop}
def pF(elt tg iter tg2 iter2:TU)(ifs ifs2:List TU)(scope:Us)(pos:Pos)(acc:TL)(env:Env)(k:Sem WH):Sem WH:=do
 let x<-Ui iter2 env
 Wh iter2.pos let x<-Va iter2 env x let _<-runOwn (.compStart (.ListComp elt [⟨tg,iter,ifs,0⟩,⟨tg2,iter2,ifs2,0⟩] scope pos) 1 (<-VR [x] (pyIter x)) acc env) env
 k
theorem xJ(elt tg iter tg2 iter2:TU)(ifs ifs2:List TU)(scope:Us)(pos:Pos)(it acc:TL)(env:Env):compTurn (.ListComp elt [⟨tg,iter,ifs,0⟩,⟨tg2,iter2,ifs2,0⟩] scope pos) 0 it acc env=(do Wh iter.pos match<-VM it with
 |none=>pure (.done .next)|some v=>
  WN tg it v
  Vr tg env v let mut ok:=true
  for c in ifs do if ok then ok<-isTrue c env (Ui c env)
  if ok then pF elt tg iter tg2 iter2 ifs ifs2 scope pos acc env (again (.compLoop (.ListComp elt [⟨tg,iter,ifs,0⟩,⟨tg2,iter2,ifs2,0⟩] scope pos) 0 it acc env))else again (.compLoop (.ListComp elt [⟨tg,iter,ifs,0⟩,⟨tg2,iter2,ifs2,0⟩] scope pos) 0 it acc env)):=by rfl
theorem zh(elt tg iter tg2 iter2:TU)(ifs ifs2:List TU)(scope:Us)(pos:Pos)(it acc:TL)(env:Env):compTurn (.ListComp elt [⟨tg,iter,ifs,0⟩,⟨tg2,iter2,ifs2,0⟩] scope pos) 1 it acc env=(do Wh iter2.pos match<-VM it with
 |none=>pure (.done .next)|some v=>
  WN tg2 it v
  Vr tg2 env v let mut ok:=true
  for c in ifs2 do if ok then ok<-isTrue c env (Ui c env)
  if ok then(do let _<-call (.builtin "list.append") [acc,<-Ui elt env])
  again (.compLoop (.ListComp elt [⟨tg,iter,ifs,0⟩,⟨tg2,iter2,ifs2,0⟩] scope pos) 1 it acc env)):=by rfl
def Hj(prog:Uc)(w:TX)(A:Ud)(B:Sem WH->Sem WH)(tg:TU)(ifs:List TU)(env:Env)(it:TL)(onward:TQ->Prop)(v:TL)(u:TQ):Prop:=TY (TZ prog w) A (WN tg it v) (λ_ u1=>TY (TZ prog w) A (Vr tg env v) (λ_ u2=>TY (TZ prog w) A (forIn ifs true λc r=>if r=true then do let ok<-isTrue c env (Ui c env);pure (WE ok) else pure (WE r)) (λok u3=>if ok=true then(∀(k:Sem WH) (Q:WH->TQ->Prop) (E:TL->TQ->Prop),(∀u5,onward u5->TY (TZ prog w) A k Q E u5)->TY (TZ prog w) A (B k) Q E u3) else onward u3) Cf u2) Cf u1) Cf u
theorem xH{elt tg iter tg2 iter2:TU}{ifs ifs2:List TU}{scope:Us}{pos:Pos}{it acc:TL}{env:Env}(J:Nat->TQ->Prop)(turn:∀n u,J n u->TY (TZ prog w) A (VM it) (λr u1=>(r=none->R (.ok .next) u1)/\∀v,r=some v->Hj prog w A (pF elt tg iter tg2 iter2 ifs ifs2 scope pos acc env) tg ifs env it (λu2=>∃m,m<n/\J m u2) v u1) Cf u){n0:Nat}{u0:TQ}(i6:J n0 u0):VE (TZ prog w) A (.compLoop (.ListComp elt [⟨tg,iter,ifs,0⟩,⟨tg2,iter2,ifs2,0⟩] scope pos) 0 it acc env) R u0:=by refine codeAny_loop rfl J (λn u ju=>?_) n0 i6;show TY _ A ((compTurn (.ListComp elt [⟨tg,iter,ifs,0⟩,⟨tg2,iter2,ifs2,0⟩] scope pos) 0 it acc env).onRaise _) _ _ u;refine wpAny_noted ?_;rw[xJ];refine TV (Wi (TV (UE (turn n u ju) (λr u1 k1=>?_) λ_ _ z=>z.elim)));cases r with|none=>exact Uh (k1.1 rfl)|some v=>refine TV (UE (k1.2 v rfl) (λ_ u2 k2=>TV (UE k2 (λ_ u3 k3=>TV (UE k3 (λok u4 k4=>?_) λ_ _ z=>z.elim)) λ_ _ z=>z.elim)) λ_ _ z=>z.elim);cases ok with|false=>rw[if_neg Vw]at k4;exact Uh ⟨rfl,k4⟩|true=>rw[if_pos rfl]at k4;exact k4 _ _ _ λu6 k6=>Uh ⟨rfl,k6⟩
theorem zg{elt tg iter tg2 iter2:TU}{ifs ifs2:List TU}{scope:Us}{pos:Pos}{it acc:TL}{env:Env}(J:Nat->TQ->Prop)(turn:∀n u,J n u->TY (TZ prog w) A (VM it) (λr u1=>(r=none->R (.ok .next) u1)/\∀v,r=some v->Es prog w A elt tg2 ifs2 env it acc (λu2=>∃m,m<n/\J m u2) v u1) Cf u){n0:Nat}{u0:TQ}(i6:J n0 u0):VE (TZ prog w) A (.compLoop (.ListComp elt [⟨tg,iter,ifs,0⟩,⟨tg2,iter2,ifs2,0⟩] scope pos) 1 it acc env) R u0:=by refine codeAny_loop rfl J (λn u ju=>?_) n0 i6;show TY _ A ((compTurn (.ListComp elt [⟨tg,iter,ifs,0⟩,⟨tg2,iter2,ifs2,0⟩] scope pos) 1 it acc env).onRaise _) _ _ u;refine wpAny_noted ?_;rw[zh];refine TV (Wi (TV (UE (turn n u ju) (λr u1 k1=>?_) λ_ _ z=>z.elim)));cases r with|none=>exact Uh (k1.1 rfl)|some v=>refine TV (UE (k1.2 v rfl) (λ_ u2 k2=>TV (UE k2 (λ_ u3 k3=>TV (UE k3 (λok u4 k4=>?_) λ_ _ z=>z.elim)) λ_ _ z=>z.elim)) λ_ _ z=>z.elim);cases ok with|false=>rw[if_neg Vw]at k4;exact Uh ⟨rfl,k4⟩|true=>rw[if_pos rfl]at k4;refine TV (TV (UE k4 (λx u5 k5=>TV (UE k5 (λ_ u6 k6=>?_) λ_ _ z=>z.elim)) λ_ _ z=>z.elim));exact Uh (Uh ⟨rfl,k6⟩)
theorem xI{elt tg iter tg2 iter2:TU}{ifs ifs2:List TU}{scope:Us}{pos:Pos}{it acc:TL}{env:Env}{s:TQ}(h0:VE (TZ prog w) A (.compLoop (.ListComp elt [⟨tg,iter,ifs,0⟩,⟨tg2,iter2,ifs2,0⟩] scope pos) 1 it acc env) R s)(h:TY (TZ prog w) A (pyIter it) (λit' s'=>VE (TZ prog w) A (.compLoop (.ListComp elt [⟨tg,iter,ifs,0⟩,⟨tg2,iter2,ifs2,0⟩] scope pos) 1 it' acc env) R s') (notedBy (TZ prog w) A env λx s'=>R (.error x) s') s):VE (TZ prog w) A (.compStart (.ListComp elt [⟨tg,iter,ifs,0⟩,⟨tg2,iter2,ifs2,0⟩] scope pos) 1 it acc env) R s:=by
 refine codeAny_of_tree ?_;show TY _ _ ((compStart (.ListComp elt [⟨tg,iter,ifs,0⟩,⟨tg2,iter2,ifs2,0⟩] scope pos) 1 it acc env).onRaise (λx=>do noteFrame x env;Wh theWindowsPlace)) _ _ s;refine wpAny_notedAt ?_;unfold compStart;show TY _ _ (ask>>=_) _ _ s;refine TV (wpAny_askSetting (wpAny_ite ?_));split;·first|exact TV (Uh (Uh (And.intro rfl h0)))|exact Uh (And.intro rfl h0)
 ·first|exact TV (WC (TV (Wi (TV (UE h (λit' s' h'=>Uh (And.intro rfl h')) λ_ _ x=>x)))))|(refine TV (WC ?_);show TY _ _ (Wh iter2.pos>>=_) _ _ s;exact TV (Wi (TV (UE h (λit' s' h'=>Uh (And.intro rfl h')) λ_ _ x=>x))))
end
def GF(l:TM)(wi:TI)(g:TG)(tc:TT)(te:TE)(σ:L2.St)(H:Hp)(N:L2.St->Hp->Prop):Prop:=wi σ H λJ H1=>∃W:Nat->Nat->L2.St->Hp->Prop,(∃m,W 0 m σ H1)/\∀i m σ' H',W i m σ' H'->(J.stop i H'/\N σ' H')\/(J.go i H'/\∃N2:L2.St->Hp->Prop,(∀σ2 H2,N2 σ2 H2->∃m',m'<m/\W (i+1) m' σ2 H2)/\∀x H2,J.yld i H' x H2->g x σ' H2 λσ2 H3=>tc σ2 H3 λb H4=>if b=true then te σ2 H4 λv H5=>∃ys,H5 l=some (.lst ys)/\ys.length<Uj/\N2 σ2 (cg H5 l (.lst (ys++[v]))) else N2 σ2 H4)
theorem EK{Y:Cx}{elt tg iter tg2 iter2:TU}{ifs ifs2:List TU}{scope:Us}{pos:Pos}{wi:TI}{g:TG}{tc:TT}{te:TE}(hc:Y.calm=true)(hxe:Y.xe=Cf)(hi:PI Y tg2 iter2 wi)(hg:PG Y tg2 g)(ht:tJ Y ifs2 tc)(he:PE Y elt te)(hs:∀x,Va iter2 Y.env x=pure x){pins:List (TM×Obj)}{s:TQ}{σ:L2.St}{H:Hp}{D:TM}{N:L2.St->Hp->Prop}(I:aM Y pins σ H s)(h:GF D wi g tc te σ H N)(k:Sem WH)(Q:WH->TQ->Prop)(E:TL->TQ->Prop)(hk:∀s',(∃σ' H',aM Y pins σ' H' s'/\N σ' H')->TY (TZ Y.prog Y.w) Y.A k Q E s'):TY (TZ Y.prog Y.w) Y.A (pF elt tg iter tg2 iter2 ifs ifs2 scope pos (.ref D) Y.env k) Q E s:=by
 unfold pF;have hi':=hi pins s σ H _ I h;rw[hxe]at hi';refine TV (UE hi' (λv s1 h1=>TV (Wi (TV (Wp (hs v) (TV (WL (UE h1 (λitv s2 h2=>?_) λ_ _ z=>z.elim))))))) λ_ _ z=>z.elim);obtain⟨it,fp,tn,J,H2,rfl,I2,T,st2,f2,W,⟨m0,w0⟩,turn⟩:=h2;have stat:∀{H':Hp},(∀b∈fp,H' b=none)->∀b∈fp,jS Y pins H' b:=λhn b hb=>⟨hn b hb,(f2 b hb).2⟩;have loop:VE (TZ Y.prog Y.w) Y.A (.compLoop (.ListComp elt [⟨tg,iter,ifs,0⟩,⟨tg2,iter2,ifs2,0⟩] scope pos) 1 (.ref it) (.ref D) Y.env) (λr s'=>match r with|.ok f=>TY (TZ Y.prog Y.w) Y.A k Q E s'|.error e=>cameBackBy (TZ Y.prog Y.w) Y.A Y.env E e s') s2:=by
  refine zg (λn s'=>∃i σ' H',aM Y pins σ' H' s'/\tn i s'.heap/\(∀b∈fp,H' b=none)/\W i n σ' H') ?_ (n0:=m0) ⟨0,σ,H2,I2,st2,λb hb=>(f2 b hb).1,w0⟩;rintro n s3⟨i,σ3,H3,I3,st3,fr3,w3⟩;rcases turn i n σ3 H3 w3 with⟨stop,qn⟩|⟨go,N2,hN,step⟩;·refine dn (T.done Y rfl rfl rfl hc i pins s3 σ3 H3 Cf I3 (stat fr3) st3 stop) λr s4⟨hr,I4⟩=>?_;subst hr;exact⟨λ_=>hk _ ⟨σ3,H3,I4,qn⟩,λv z=>by cases z⟩
  ·refine dn (T.item Y rfl rfl rfl hc i pins s3 σ3 H3 Cf I3 (stat fr3) st3 go) λr s4⟨u,hr,h4⟩=>?_;subst hr;refine⟨λz=>(by cases z),λv z=>?_⟩;cases z;refine dn h4 λ_ s5⟨x,H5,I5,r5,y5,st5,fr5⟩=>?_;have I5':=I5.pinned (stat fr5) (T.obj _ _ st5);have again:∀{σ8:L2.St}{H8:Hp}{s8:TQ},aM Y (pins++oJ fp s5.heap) σ8 H8 s8->N2 σ8 H8->∃m,m<n/\∃i σ' H',aM Y pins σ' H' s8/\tn i s8.heap/\(∀b∈fp,H' b=none)/\W i m σ' H':=fun{σ8 H8 s8}I8 n8=>by obtain⟨m',hm,w8⟩:=hN σ8 H8 n8;refine⟨m',hm,i+1,σ8,H8,I8.unpinned,T.keep _ _ _ st5 λb hb o e=>(I8.pin (b,o) (UR _ (UR _ (dO hb e)))).1,λb hb=>?_,w8⟩;obtain⟨o,e,d⟩:=T.obj _ _ st5 b hb;exact(I8.pin (b,o) (UR _ (UR _ (dO hb e)))).2.1
   have hg':=hg _ s5 σ3 H5 x u _ I5' r5 (step x H5 y5);rw[hxe]at hg';refine dn hg' λ_ s8⟨σ8,H8,I8,q8⟩=>?_;have ht':=ht _ s8 σ8 H8 _ I8 q8;rw[hxe]at ht';refine dn ht' λok s9⟨H9,I9,q9⟩=>?_;cases ok with|false=>rw[if_neg Vw]at q9⊢;exact again I9 q9|true=>rw[if_pos rfl]at q9⊢;have he':=he _ s9 σ8 H9 _ I9 q9;rw[hxe]at he';refine dn he' λv s10⟨xv,H10,I10,r10,ys,hl,hz,n10⟩=>?_;have ha:=nc _ s10 σ8 H10 (.ref D) [xv] (.ref D) [v] (λ_ H=>N2 σ8 H) I10 rfl (.cons r10 .nil) ⟨D,ys,xv,rfl,rfl,hl,hz,n10⟩;rw[hxe]at ha;refine dn ha λ_ s11⟨_,H11,I11,_,q11⟩=>?_;exact again I11 q11
 exact TV (wpAny_runOwn (xI loop (T.self Y.A 0 _ _ _ st2 loop)))
structure yH (cp:List (Nat×Str)) (nT:Nat) (wi:TI) (g:TG) (tc:TT) (wi2:TI) (g2:TG) (tc2:TT) (te:TE) (σ:L2.St) (H:Hp) (Q:VK):Prop where go:wi σ H λJ H1=>∀l,H1 l=none->∃W:Nat->Nat->L2.St->Hp->Prop,(∃m,W 0 m (ji cp nT σ) (cg H1 l (.lst [])))/\∀i m σ' H',W i m σ' H'->(J.stop i H'/\Q (.ref l) H')\/(J.go i H'/\∃N:L2.St->Hp->Prop,(∀σ2 H2,N σ2 H2->∃m',m'<m/\W (i+1) m' σ2 H2)/\∀x H2,J.yld i H' x H2->g x σ' H2 λσ2 H3=>tc σ2 H3 λb H4=>if b=true then GF l wi2 g2 tc2 te σ2 H4 N else N σ2 H4)
def iW(g:FG)(ft:FT)(fi2:FI)(g2:FG)(ft2:FT)(fe:FE):List TN->En->List TN->Option (List TN×En)|[],e,acc=>some (acc,e)|x::r,e,acc=>(g x e).bind λe1=>(ft e1).bind λb=>if b.1=true then(fi2 b.2).bind λp=>if p.2.1=[]then(bT g2 ft2 fe p.1 p.2.2 acc).bind λz=>iW g ft fi2 g2 ft2 fe r z.2 z.1 else none else iW g ft fi2 g2 ft2 fe r b.2 acc
def kB(cp:List (Nat×Str))(nT:Nat)(fi:FI)(g:FG)(ft:FT)(fi2:FI)(g2:FG)(ft2:FT)(fe:FE):FE:=λe=>(fi e).bind λp=>if (p.2.1.all λq=>!(cp.any λc=>c.1==q.1))=true then(iW g ft fi2 g2 ft2 fe p.1 (oV cp nT p.2.2) []).bind λz=>if jv cp z.2 p.2.2=true then some (.l z.1,oT (oK cp) z.2 p.2.2) else none else none
section
variable{K:⇑0}{F H:Hp}{σ:L2.St}{e:En}{cp:List (Nat×Str)}{nT:Nat}
theorem xn{Q:VK}{fi fi2:FI}{g g2:FG}{W:List Nat}{ft ft2:FT}{fe:FE}(hn:(cp.map (·.1)).Nodup)(hW:∀j∈W,cp.length<=j)(h:fE K (kB cp nT fi g ft fi2 g2 ft2 fe) σ H Q):yH cp nT (fI K fi) (fG K g W) (fT K ft) (fI K fi2) (fG K g2 W) (fT K ft2) (fE K fe) σ H Q:=by
 obtain⟨F0,e0,z,e',R0,hf,q⟩:=h;unfold kB at hf;obtain⟨⟨items,own,e1⟩,h1,hf⟩:=Tz hf;dsimp only at hf;split at hf;case isFalse=>cases hf
 case isTrue hO=>
 obtain⟨⟨out,eo⟩,h2,hf⟩:=Tz hf;dsimp only at hf;split at hf;case isFalse=>cases hf
 case isTrue hB=>
 cases hf;refine⟨⟨F0,e0,items,own,e1,R0,h1,λJ F1 H1 X1 R1 kp ok=>?_⟩⟩;intro l hl;obtain⟨Ri,sub⟩:=R1.inn (nT:=nT) hn;have hFl:F1 l=none:=R1.freeF hl;let Iv:Nat->L2.St->Hp->Prop:=λi=>CI K W (ji cp nT σ) F1 H1 (oV cp nT e1) l λ_ ei acc=>iW g ft fi2 g2 ft2 fe (items.drop i) ei acc=some (out,eo);have notown:∀p∈own,∀a,σ[p.1]?=some (some (.ref a))->¬c9 (ji cp nT σ) (oV cp nT e1) H1 a:=by rintro p hp a ha⟨k,zf⟩;obtain⟨xs,c1,c2⟩:=zf.resolve_right λ⟨xss,_,_,z,_⟩=>lH k xss z;obtain⟨i,s,d1,d2⟩:=lG c1;have e2:=qg d1 c2;have:p.1=i:=R1.inj p.1 i p.2 xs a (kp p hp) d2 ha e2;have hh:=Vd.mp hO p hp;simp only[Yt,List.any_eq_false,beq_iff_eq]at hh;exact hh (i,s) (TK d1) this.symm
 refine⟨λi m σ' H'=>m=items.length-i/\i<=items.length/\Iv i σ' H',⟨items.length,by simp,Wv _,.mk (Ri.putT hFl (λz=>(Ri.ownH l z) hl)).1 (er.refl.putT hl (Ri.putT hFl (λz=>(Ri.ownH l z) hl)).2) hFl (λz=>(Ri.ownH l (((Ri.putT hFl (λz=>(Ri.ownH l z) hl)).2 l).mp z)) hl) aH aW.nil h2⟩,?_⟩;rintro i m σ' H'⟨rfl,hi,⟨R',X',fl,no,hl',da,hc⟩⟩;rename_i F' ei acc vs;have held:CH K σ F' H' own:=λp hp=>by obtain⟨a,us,c1,c2,c3,c4⟩:=R1.own p.1 p.2 (kp p hp);exact⟨a,us,c1,X'.tmp a _ c3 (notown p hp a c1),c4.mono X'.sf⟩
 obtain⟨go,stop,yld⟩:=ok F' H' X'.sf R'.sm held;by_cases hlt:i<items.length
 ·have hd:items.drop i=items[i]::items.drop (i+1):=Yq hlt;rw[hd]at hc;unfold iW at hc;obtain⟨e2,c2,hc⟩:=Tz hc;obtain⟨⟨b,e3⟩,c3,hc⟩:=Tz hc;refine .inr ⟨go i hlt,Iv (i+1),λσ2 H2 r=>⟨items.length-(i+1),by lia,rfl,hlt,r⟩,λx H2 hy=>?_⟩;obtain⟨F2,sH,sF2,sm2,fz,hx⟩:=yld i items[i] x H2 (Um hlt) hy;obtain⟨R2,X2⟩:=R'.step sH sF2 sm2 fz;refine⟨F2,ei,items[i],e2,R2,hx,c2,λσ3 X3 R3=>⟨F2,e2,b,e3,R3,c3,λF4 H4 X4 R4=>?_⟩⟩;have hlH2:H2 l=some (.lst vs):=sH _ _ hl';have no2:¬c9 σ' ei H2 l:=λz=>by
   rcases X2.ow l z with z|z;·exact no z
   ·rw[hl']at z;cases z
  have no3:¬c9 σ3 e2 H2 l:=λz=>by
   rcases X3.own l z with z|z;·exact no2 z
   ·rw[hlH2]at z;cases z
  have fl2:F2 l=none:=fz l fl (by rw[hl'];simp);have hlH4:H4 l=some (.lst vs):=X4.tmp l _ hlH2 no3;have fl4:F4 l=none:=X4.fr l vs fl2 hlH2 no3;have no4:¬c9 σ3 e3 H4 l:=λz=>by
   rcases X4.ow l z with z|z;·exact no3 z
   ·rw[hlH2]at z;cases z
  have E4:er W (ji cp nT σ) F1 H1 (oV cp nT e1) σ3 F4 H4 e3:=((X'.trans X2.s).trans X3).trans X4.s;have da4:=da.mono (sF2.trans X4.sf);cases b with|false=>rw[if_neg ↥1]at hc;exact HA (.mk R4 E4 fl4 no4 hlH4 da4 hc)|true=>
   rw[if_pos rfl]at hc;obtain⟨⟨its2,own2,e5⟩,c5,hc⟩:=Tz hc;dsimp only at hc;split at hc;case isFalse=>cases hc
   case isTrue ho2=>
   subst ho2;obtain⟨⟨acc2,e6⟩,c6,hc⟩:=Tz hc;refine HB ⟨F4,e3,its2,[],e5,R4,c5,λJ2 F5 H5 X5 R5 _ ok2=>?_⟩;have hlH5:H5 l=some (.lst vs):=X5.tmp l _ hlH4 no4;have fl5:F5 l=none:=X5.fr l vs fl4 hlH4 no4;have no5:¬c9 σ3 e5 H5 l:=λz=>by
    rcases X5.ow l z with z|z;·exact no4 z
    ·rw[hlH4]at z;cases z
   let Iv2:Nat->L2.St->Hp->Prop:=λj=>CI K W (ji cp nT σ) F1 H1 (oV cp nT e1) l λF' ei acc=>aF F5 F'/\bT g2 ft2 fe (its2.drop j) ei acc=some (acc2,e6);refine⟨λj m σ' H'=>m=its2.length-j/\j<=its2.length/\Iv2 j σ' H',⟨its2.length,by simp,Wv _,.mk R5 (E4.trans X5.s) fl5 no5 hlH5 (da4.mono X5.sf) ⟨aF.refl _,c6⟩⟩,?_⟩;rintro j m σ6 H6⟨rfl,hj,⟨R6,X6,fl6,no6,hl6,da6,s6,hc6⟩⟩;rename_i F6 ei6 acc6 vs6;obtain⟨go2,stop2,yld2⟩:=ok2 F6 H6 s6 R6.sm (λp hp=>by cases hp);by_cases hjt:j<its2.length
   ·have hd2:its2.drop j=its2[j]::its2.drop (j+1):=Yq hjt;rw[hd2]at hc6;unfold bT at hc6;obtain⟨e7,c7,hc6⟩:=Tz hc6;obtain⟨⟨b8,e8⟩,c8,hc6⟩:=Tz hc6;refine .inr ⟨go2 j hjt,Iv2 (j+1),λσ2 H2 r=>⟨its2.length-(j+1),by lia,rfl,hjt,r⟩,λx7 H7 hy7=>?_⟩;obtain⟨F7,sH7,sF7,sm7,fz7,hx7⟩:=yld2 j its2[j] x7 H7 (Um hjt) hy7;obtain⟨R7,X7⟩:=R6.step sH7 sF7 sm7 fz7;refine⟨F7,ei6,its2[j],e7,R7,hx7,c7,λσ8 X8 R8=>⟨F7,e7,b8,e8,R8,c8,λF9 H9 X9 R9=>?_⟩⟩;have hlH7:H7 l=some (.lst vs6):=sH7 _ _ hl6;have no7:¬c9 σ6 ei6 H7 l:=λz=>by
     rcases X7.ow l z with z|z;·exact no6 z
     ·rw[hl6]at z;cases z
    have no8:¬c9 σ8 e7 H7 l:=λz=>by
     rcases X8.own l z with z|z;·exact no7 z
     ·rw[hlH7]at z;cases z
    have fl7:F7 l=none:=fz7 l fl6 (by rw[hl6];simp);have hlH9:H9 l=some (.lst vs6):=X9.tmp l _ hlH7 no8;have fl9:F9 l=none:=X9.fr l vs6 fl7 hlH7 no8;have no9:¬c9 σ8 e8 H9 l:=λz=>by
     rcases X9.ow l z with z|z;·exact no8 z
     ·rw[hlH7]at z;cases z
    have E9:er W (ji cp nT σ) F1 H1 (oV cp nT e1) σ8 F9 H9 e8:=((X6.trans X7.s).trans X8).trans X9.s;have s9:aF F5 F9:=(s6.trans sF7).trans X9.sf;cases b8 with|false=>rw[if_neg ↥1]at hc6;exact HA (.mk R9 E9 fl9 no9 hlH9 (da6.mono (sF7.trans X9.sf)) ⟨s9,hc6⟩)|true=>
     rw[if_pos rfl]at hc6;obtain⟨⟨r,e10⟩,c10,hc6⟩:=Tz hc6;obtain⟨d,c11,hc6⟩:=Tz hc6;split at hc6;case isFalse=>cases hc6
     case isTrue hlen=>
     refine HB ⟨F9,e8,r,e10,R9,c10,λFa Ha v Xa Ra Aa=>?_⟩;have hlHa:Ha l=some (.lst vs6):=Xa.tmp l _ hlH9 no9;have fla:Fa l=none:=Xa.fr l vs6 fl9 hlH9 no9;have noa:¬c9 σ8 e10 Ha l:=λz=>by
      rcases Xa.ow l z with z|z;·exact no9 z
      ·rw[hlH9]at z;cases z
     obtain⟨Fb,Rb,sb,db,fb⟩:=eC.frozen Ra (rs:=[r]) (vs:=[v]) ⟨v,[],rfl,Aa,rfl⟩ (m5 c11);have flb:Fb l=none:=fb l fla (by rw[hlH9];simp);have Xb:=Xa.frz sb fb;have ll:=da6.len;have sl:Uj=16777216:=VD;have dv:DA K Fb d v:=by simp only[aW]at db;obtain⟨v',r',e',hv,_⟩:=db;cases e';exact hv
     obtain⟨Rc,oc⟩:=Rb.putT (ws:=vs6++[v]) flb noa;exact⟨vs6,hlHa,by lia,.mk Rc ((E9.trans Xb.s).putT hl oc) flb (λz=>noa ((oc l).mp z)) aH ((da6.mono (sF7.trans (X9.sf.trans (Xa.sf.trans sb)))).append (aW.one dv)) ⟨s9.trans (Xa.sf.trans sb),hc6⟩⟩
   ·have hd2:its2.drop j=[]:=Yr ↥0;rw[hd2]at hc6;cases hc6;exact .inl ⟨stop2 j ↥0,.mk R6 X6 fl6 no6 hl6 da6 hc⟩
 ·have hd:items.drop i=[]:=Yr ↥0;rw[hd]at hc;cases hc;refine .inl ⟨stop i ↥0,?_⟩;obtain⟨R9,X9,o9⟩:=uT R1 sub lH X'.sf X'.dom X'.fr X'.lst X'.tmp X'.fd R' (λi k xs g1 g2=>X'.wr k λz=>by obtain⟨s,g⟩:=fK g2;have:=(TC g).1;have:=hW k z;lia) λi k xs g1 g2=>by obtain⟨s,g⟩:=fK g2;unfold jv at hB;have hb:=Vd.mp hB _ (TK g);simp only[g1,g2,VS,A4,Bool.not_true,Bool.false_or]at hb;exact B5.mp hb
  exact q F' H' (.ref l) (X1.trans X9) R9 ⟨l,vs,rfl,X1.dom l hl,fl,hl',da,λz=>R1.ownH l (o9 l z) hl⟩
end
theorem PG.wide{X:Cx}{K:⇑0}{tg:TU}{g:FG}{W W':List Nat}(h:PG X tg (fG K g W))(hw:∀j,j∈W->j∈W'):PG X tg (fG K g W'):=h.mono λv σ H Q⟨F,e,x,e',R,d,hg,q⟩=>⟨F,e,x,e',R,d,hg,λσ' x=>q σ' (x.mono hw)⟩
section
variable{X:Cx}{K:⇑0}{pos:Pos}
end
section
variable{X:Cx}{K:⇑0}{pos:Pos}
variable{o:TU}{fo:FE}{apos cpos:Pos}
end
section
variable{X:Cx}{K:⇑0}
def OW:List Int->Int|[]=>0|x::r=>r.foldl max x
end
structure nZ (f:Fr):Prop where
 pos:0<f.2
 cop:Uk f.1 f.2=1
def Vl(M:Int)(f:Fr)(v:Int):Prop:=f.1*M=v*f.2
theorem Vl.of{M i:Int}{f:Fr}(h:l9 M i f):Vl M f (f.1*(M/f.2)):=by unfold Vl;obtain⟨c,hc⟩:=h.dv;have hp:=h.pos;rw[hc,Int.mul_ediv_cancel_left _ ↥0,UG,Vp c f.2]
theorem Vl.pl{M:Int}{a b:Fr}{v w:Int}(ha:Vl M a v)(hb:Vl M b w)(pa:0<a.2)(pb:0<b.2):Vl M (pl a b) (v+w):=by
 unfold Vl at*;have p:a.2*b.2≠0:=XR (UO pa pb);have hc:=ue (t:=a.1*b.2+b.1*a.2) (b:=a.2*b.2) p;change (L2.pl a b).1*(a.2*b.2)=(L2.pl a b).2*(a.1*b.2+b.1*a.2) at hc;generalize (L2.pl a b).1=x at*;generalize (L2.pl a b).2=y at*;refine Yw (a:=a.2*b.2) p ?_;have e1:x*M*(a.2*b.2)=y*(a.1*M*b.2+b.1*M*a.2):=by
  rw[show x*M*(a.2*b.2)=x*(a.2*b.2)*M by rw[UG,Vp M,<-UG],hc,UG y,Xw];congr 2;·rw[UG,Vp b.2 M,<-UG]
  ·rw[UG,Vp a.2 M,<-UG]
 rw[e1,ha,hb];have e2:v*a.2*b.2+w*b.2*a.2=(v+w)*(a.2*b.2):=by rw[Xw,UG v,UG w,Vp b.2 a.2]
 rw[e2,<-UG,Vp y (v+w)]
theorem nZ.lowM{t b:Int}(h:0<b):nZ (L2.lowM t b):=by obtain⟨d,_,_,_,_,h5⟩:=ic (t:=t) (b:=b) ↥0;exact⟨h5,kY ↥0⟩
theorem nZ.pl{a b:Fr}(pa:0<a.2)(pb:0<b.2):nZ (pl a b):=nZ.lowM (UO pa pb)
theorem nZ.uniq{M v:Int}{a b:Fr}(hM:0<M)(ha:nZ a)(hb:nZ b)(va:Vl M a v)(vb:Vl M b v):a=b:=by
 unfold Vl at*;have cr:a.1*b.2=b.1*a.2:=by refine Yw (a:=M) ↥0 ?_;rw[show a.1*b.2*M=a.1*M*b.2 by rw[UG,Vp b.2,<-UG],va,show b.1*a.2*M=b.1*M*a.2 by rw[UG,Vp a.2,<-UG],vb,UG,UG,Vp a.2]
 have pa:=ha.pos;have pb:=hb.pos;have d1:a.2.natAbs∣b.2.natAbs:=by
  have dv:a.2.natAbs∣(a.1*b.2).natAbs:=Yx.mpr ⟨b.1,by rw[cr,Vp]⟩;rw[WY]at dv;have cp:Xs a.2.natAbs a.1.natAbs:=by have:Nat.gcd a.1.natAbs a.2.natAbs=1:=ha.cop;rw[Xs,Nat.gcd_comm];exact this
  exact cp.dvd_of_dvd_mul_left dv
 have d2:b.2.natAbs∣a.2.natAbs:=by
  have dv:b.2.natAbs∣(b.1*a.2).natAbs:=Yx.mpr ⟨a.1,by rw[<-cr,Vp]⟩;rw[WY]at dv;have cp:Xs b.2.natAbs b.1.natAbs:=by have:Nat.gcd b.1.natAbs b.2.natAbs=1:=hb.cop;rw[Xs,Nat.gcd_comm];exact this
  exact cp.dvd_of_dvd_mul_left dv
 have e2:a.2=b.2:=by have:=Nat.dvd_antisymm d1 d2;lia
 have e1:a.1=b.1:=by rw[e2]at cr;exact Yw ↥0 cr
 exact Prod.ext e1 e2
def bj(a:Fr)(L:List Fr):Fr:=L.foldl pl a
theorem qi{M j:Int}:∀(L:List Fr){a:Fr}{i:Int},l9 M i a->nZ a->0<=j->(∀f∈L,l9 M j f)->l9 M (i+j*(L.length:Int)) (bj a L)/\nZ (bj a L)/\∀v,Vl M a v->Vl M (bj a L) (v+(L.map λf=>f.1*(M/f.2)).sum)
 |[],a,i,h,hl,_,_=>⟨by simpa[bj]using h,hl,λv hv=>by simpa[bj]using hv⟩|f::r,a,i,h,hl,hj,hf=>by
  have k:=hf f ↥1;have hp:=h.plS k;obtain⟨c1,c2,c3⟩:=qi r (a:=pl a f) hp (nZ.pl h.pos k.pos) hj λx hx=>hf x (by simp[hx]);refine⟨?_,c2,λv hv=>?_⟩
  ·have e:i+j*((f::r).length:Int)=i+j+j*(r.length:Int):=by simp only[Vc,Int.natCast_add,Int.natCast_one,Int.mul_add,Int.mul_one];lia
   rw[e];exact c1
  ·have:=c3 _ (hv.pl (Vl.of k) h.pos k.pos);simp only[Uo,UY];rw[Int.add_assoc]at this;exact this
theorem GC{a b:List Int}(h:a.Perm b):a.sum=b.sum:=by induction h with|nil=>rfl|cons x _ ih=>simp only[UY,ih]|swap x y l=>simp only[UY];lia|trans _ _ h1 h2=>rw[h1,h2]
theorem kb:nZ ((0,1):Fr):=⟨by decide,by decide⟩
theorem DD{M j:Int}{L L':List Fr}(hM:0<M)(hj:0<=j)(h:L.Perm L')(hf:∀f∈L,l9 M j f):bj (0,1) L=bj (0,1) L':=by
 obtain⟨_,l1,v1⟩:=qi (M:=M) L (a:=(0,1)) (i:=0) (q_ (XS 0)) kb hj hf;obtain⟨_,l2,v2⟩:=qi (M:=M) L' (a:=(0,1)) (i:=0) (q_ (XS 0)) kb hj (λf hf'=>hf f (h.mem_iff.mpr hf'));have z:Vl M ((0,1):Fr) 0:=by unfold Vl;simp
 have w1:=v1 0 z;have w2:=v2 0 z;rw[GC (h.map λf:Fr=>f.1*(M/f.2))]at w1;exact nZ.uniq hM l1 l2 w1 w2
def bW:Nat->List (List Bool)|0=>[[]]|n+1=>(bW n).flatMap λr=>[r++[true],r++[false]]
def aQ:Nat->List (List Bool)|0=>[[]]|n+1=>(aQ n).map (·++[true])++(aQ n).map (·++[false])
theorem zp{α β:Type}(f g:α->β):∀(l:List α),(l.flatMap λx=>[f x,g x]).Perm (l.map f++l.map g)|[]=>.refl _|x::r=>by simp only[List.flatMap_cons,Uo,VQ,Ux];refine List.Perm.cons _ ?_;refine((zp f g r).cons _).trans ?_;exact(List.perm_middle (a:=g x) (l₁:=r.map f) (l₂:=r.map g)).symm
theorem k_:∀n,(bW n).Perm (aQ n)|0=>.refl _|n+1=>by unfold bW aQ;exact(zp _ _ _).trans (((k_ n).map _).append ((k_ n).map _))
theorem fM:∀n,(aQ n).length=2^n/\∀r∈aQ n,r.length=n|0=>⟨rfl,λr hr=>by simp[aQ]at hr;subst hr;rfl⟩|n+1=>by obtain⟨h1,h2⟩:=fM n;refine⟨by simp only[aQ,VO,Uq,h1,Nat.pow_succ];lia,λr hr=>?_⟩;simp only[aQ,Vq,Wz]at hr;rcases hr with⟨q,hq,rfl⟩|⟨q,hq,rfl⟩<;>simp[h2 q hq]
theorem qR(n:Nat):(bW n).length=2^n/\∀r∈bW n,r.length=n:=by obtain⟨h1,h2⟩:=fM n;exact⟨by rw[(k_ n).length_eq,h1],λr hr=>h2 r ((k_ n).mem_iff.mp hr)⟩
def qo(t:kd)(b:Bool):Fr:=if b then(t.top,t.bot) else(t.bot-t.top,t.bot)
def oX:Fr->List kd->List Bool->Fr|a,t::ts,b::bs=>oX (tm a (qo t b)) ts bs|a,_,_=>a
theorem tO{n:Int}{t:kd}(o:t.Ok n)(b:Bool):u_ t.bot (qo t b):=by have:=o.c0;have:=o.c1;have:=o.b0;unfold qo;cases b with|true=>exact⟨by show 0<t.bot;lia,by show 0<=t.top;lia,by show t.top<=t.bot;lia,Xx _⟩|false=>exact⟨by show 0<t.bot;lia,by show 0<=t.bot-t.top;lia,by show t.bot-t.top<=t.bot;lia,Xx _⟩
def vA(M:Int)(ts:List kd):Int:=ts.foldl (λm t=>m*t.bot) M
theorem zM{n:Int}:∀{ts:List kd}{M:Int}{k:Nat},(∀t∈ts,t.Ok n)->0<M->Bt k M->0<vA M ts/\Bt (k+7*ts.length) (vA M ts)
 |[],M,k,_,h0,hb=>⟨h0,by simpa[vA]using hb⟩|t::r,M,k,h,h0,hb=>by
  have o:=h t ↥1;have b0:=o.b0;have b1:=o.b1;have:=zM (ts:=r) (M:=M*t.bot) (k:=k+7) (λx hx=>h x (by simp[hx])) (UO h0 ↥0) (hb.mul (show Bt 7 t.bot by unfold Bt;lia));refine⟨this.1,?_⟩;have e:k+7*(t::r).length=k+7+7*r.length:=by simp only[Vc];lia
  rw[e];exact this.2
theorem Bl{n:Int}:∀{ts:List kd}{bs:List Bool}{M:Int}{a:Fr},(∀t∈ts,t.Ok n)->bs.length=ts.length->u_ M a->u_ (vA M ts) (oX a ts bs)|[],[],M,a,_,_,h=>h|t::ts,b::bs,M,a,ho,hl,h=>by show u_ (vA (M*t.bot) ts) (oX (tm a (qo t b)) ts bs);exact Bl (λx hx=>ho x (by simp[hx])) (by simpa using hl) (h.tm (tO (ho t ↥1) b))|[],_::_,_,_,_,hl,_=>by simp at hl|_::_,[],_,_,_,hl,_=>by simp at hl
abbrev Pg:=List Int×Int
def OX(t:kd)(p:Pg):Bool:=!p.1.contains t.one&&!p.1.contains t.other
def NY(t:kd)(p:Pg):Pg:=(p.1++[t.one,t.other],p.2+t.worth)
def O0(ps:List Pg)(t:kd):List Pg:=ps++(ps.filter (OX t)).map (NY t)
def OY(ts:List kd):List Pg:=ts.foldl O0 [([],0)]
structure Oz (k:Nat) (ps:List Pg):Prop where
 ne:ps≠[]len:ps.length<=2^k
 pt:∀p∈ps,p.1.length<=2*k/\0<=p.2/\p.2<=1000*(k:Int)
def OB(ts:List kd):Int:=OW ((OY ts).map (·.2))
section
variable{prog:Uc}{w:TX}{A:Ud}{E:TL->TQ->Prop}{s:TQ}
end
section
variable{X:Cx}{a:TU}{ta:TA}{p p2 pos pos2:Pos}
variable{K:⇑0}{fs:FA}{p3:Pos}
end
def JK:TN->Bool|.int _=>true|_=>false
def Mv(lo hi:Int):TN->Bool|.int i=>decide (lo<=i)&&decide (i<=hi)|_=>false
def uniq(many:Int):List Int->List TN->Bool|_,[]=>true|pre,.int i::r=>Mv 0 (many-1) (.int i)&&(!pre.contains i&&uniq many (pre++[i]) r)|_,_::_=>false
theorem wm{α:Type}(p:α->Bool):∀(ds:List α),ly (ds.map λd=>PyData.bool (p d))=some (ds.map p)|[]=>rfl|d::r=>by simp[ly,wm p r]
theorem tS{α:Type}{e:En}(p:α->Bool)(ds:List α):g1 (i4 rS) e [.l (ds.map λd=>.bool (p d))]=some (.d (.bool (ds.all p))):=by simp[g1,i4,iS,rS,wm p,List.all_map]
theorem oq{α:Type}:∀(l:List α) (i:Nat) (h:i<l.length),(l[i]::l.eraseIdx i).Perm l|x::r,0,_=>.refl _|x::r,i+1,h=>(List.Perm.swap x _ _).trans ((oq r i (by simpa using h)).cons x)|[],_,h=>by simp at h
theorem wu{g:FG}{ft:FT}{fe:FE}(P:Nat->En->Prop)(R:TN->Prop):∀(items:List TN) (k:Nat) (e:En) (acc:List TN),(∀i x e,items[i]?=some x->P (k+i) e->∃e1 r d e2,g x e=some e1/\ft e1=some (true,e1)/\fe e1=some (r,e2)/\ox r=some d/\R d/\P (k+i+1) e2)->P k e->acc.length+items.length<=1000000->∃out e',bT g ft fe items e acc=some (acc++out,e')/\out.length=items.length/\(∀d∈out,R d)/\P (k+items.length) e'
 |[],k,e,acc,_,h,_=>⟨[],e,by simp[bT],rfl,(λ_ h=>by cases h),h⟩|x::r,k,e,acc,hs,h,hl=>by
  obtain⟨e1,v,d,e2,h1,h2,h3,h3',h4,h5⟩:=hs 0 x e rfl h;simp only[Vc]at hl;obtain⟨out,e',h6,h7,h8,h9⟩:=wu P R r (k+1) e2 (acc++[d]) (λi y e hy hp=>by have:=hs (i+1) y e (by simpa using hy) (by rw[show k+(i+1)=k+1+i by lia];exact hp);rw[show k+(i+1)+1=k+1+i+1 by lia]at this;exact this) (by simpa using h5) ↥7;refine⟨d::out,e',?_,by simp[h7],λy hy=>?_,by rw[Vc,show k+(r.length+1)=k+1+r.length by lia];exact h9⟩;·unfold bT;simp only[h1,h2,h3,h3',Ul,if_true];rw[if_pos ↥0,h6];simp
  ·rcases TJ hy with rfl|hy;·exact h4
   ·exact h8 y hy
theorem DP{cp:List (Nat×Str)}{nT:Nat}{fi:FI}{g:FG}{ft:FT}{fe:FE}{e e1 eo:En}{items out:List TN}(h1:fi e=some (items,[],e1))(h3:bT g ft fe items (oV cp nT e1) []=some (out,eo))(hb:jv cp eo e1=true):bD cp nT fi g ft fe e=some (.l out,oT (oK cp) eo e1):=by unfold bD;rw[h1];simp only[Ul,XN,if_true,h3];rw[if_pos hb]
mutual
def wt:TN->Nat|.list xs=>GX xs+1|.tuple xs=>GX xs+1|.dict _=>1|.none=>1|.bool _=>1|.int _=>1|.str _=>1
def GX:List TN->Nat|[]=>0|x::r=>wt x+GX r
end
structure O8 (d:TN) (k:Nat):Prop where
 lay:d.canLay0=true
 sh:d.showable=true
 dp:d.depth<=k
 ln:d.shown.length+2<=104*wt d
 so:Vm d.shown=true
def sD(n:Int):TN->Bool|.tuple ds=>(ds.length:Int)==n|_=>false
def wD:TN->Bool|.tuple [.int t,.int b]=>decide (1<=b)&&decide (Uk t b=1)|_=>false
theorem Oh{d:TN}(h:sD 2 d=true):∃x y,d=.tuple [x,y]:=by
 cases d with|tuple ds=>
  rcases ds with _|⟨x,_|⟨y,_|⟨z,r⟩⟩⟩;·simp[sD]at h
  ·simp[sD]at h
  ·exact⟨x,y,rfl⟩
  ·simp[sD]at h;lia|_=>simp[sD]at h
theorem B6{d:TN}(h:JK d=true):∃i,d=.int i:=by cases d with|int i=>exact⟨i,rfl⟩|_=>simp[JK]at h
theorem tT{e:En}{a b c d:Int}:bR false e (.d (.tuple [.int a,.int b])) (.d (.tuple [.int c,.int d]))=some (.d (.bool (a==c&&b==d))):=by
 unfold bR;have h0:∀x y:Int,Vj (.tuple [.int x,.int y])=true:=λx y=>by simp[Vj,Vi,Vy,US,VH]
 simp only[kW,Ul,h0,Wc,if_true];simp[Vk,Xp]
theorem Kn{b:Int}(h:b.natAbs.log2<1920)(h0:b≠0):Bt 4000 b:=Bt.mono (m:=1920) ((Nat.log2_lt ↥0).mp h) ⋯
theorem HM{t b:Int}(hb:0<b):((lowM t b).1==t&&(lowM t b).2==b)=decide (Uk t b=1):=by
 rw[Xm];simp only[Uw,beq_iff_eq,decide_eq_true_eq];constructor;·rintro⟨h1,h2⟩;have:=kY (t:=t) (b:=b) ↥0;rwa[h1,h2]at this
 ·intro h;unfold lowM;rw[if_neg ↥0,h];simp
theorem D4{ds:List TN}(h:Ww ds=true):∀d∈ds,d.showable=true:=λd hd=>by induction ds with|nil=>cases hd|cons x r ih=>
 simp only[Ww,Uw]at h;rcases TJ hd with rfl|hd;·exact h.1
 ·exact ih h.2 hd
section
variable{X:Cx}{K:⇑0}
variable{a b:TU}{fa fb:FE}{pos:Pos}
end
def tx(s:Str):List Nat:=s.cps.toList
def D1(i:Nat)(l:Int):Prop:=l=-1\/(i:Int)<l
def fQ(T:List Nd):Prop:=∀(i:Nat) (x:Nd),T[i]?=some x->D1 i x.yes/\D1 i x.no
theorem E7{ws:List Fr}{i j:Nat}{v:Fr}{l:Int}(h:D1 j l)(hij:i<=j):lk (ws.set i v) l=lk ws l:=by
 unfold lk;rcases h with h|h;·rw[if_pos h,if_pos h]
 ·have:i≠l.toNat:=by lia
  rw[if_neg ↥0,if_neg ↥0,Ur,Ur,UA this]
theorem JR{ws vs:List Fr}{i:Nat}{l:Int}(h:D1 i l)(e:∀j,i<j->ws[j]?=vs[j]?):lk ws l=lk vs l:=by
 unfold lk;rcases h with h|h;·rw[if_pos h,if_pos h]
 ·rw[if_neg ↥0,if_neg ↥0,Ur,Ur,e l.toNat ↥0]
theorem eU{W:aA}{T:List Nd}:∀m,(eA W T m).length=T.length
 |0=>by simp[eA]|m+1=>by
  rw[eA];split;·unfold wd1;rw[VG];exact eU m
  ·exact eU m
theorem nq{W:aA}{T:List Nd}(o:fQ T):∀(m:Nat),m<=T.length->∀(i:Nat) (x:Nd),T.length-m<=i->T[i]?=some x->(eA W T m)[i]?=some (aw W x.tie (lk (eA W T m) x.yes) (lk (eA W T m) x.no))
 |0,_,i,x,hi,hx=>by have:=(TC hx).1;lia|m+1,hm,i,x,hi,hx=>by
  have hi':i<T.length:=(TC hx).1;have hy:T[T.length-1-m]?=some (T[T.length-1-m]'↥0):=Um ↥0;generalize T[T.length-1-m]'↥0=y at hy;rw[GV hy];have ln:=eU (W:=W) (T:=T) m;obtain⟨o1,o2⟩:=o i x hx;unfold wd1;rw[E7 o1 ↥0,E7 o2 ↥0];by_cases c:i=T.length-1-m;·subst c;rw[hx]at hy;cases hy;rw[UW (by rw[ln];exact hi')]
  ·rw[UA ↥0];exact nq o m ↥0 i x ↥0 hx
theorem GW{W:aA}{T:List Nd}(o:fQ T){ws:List Fr}(hl:ws.length=T.length)(h:∀(i:Nat) (x:Nd),T[i]?=some x->ws[i]?=some (aw W x.tie (lk ws x.yes) (lk ws x.no))):ws=eA W T T.length:=by
 have ln:=eU (W:=W) (T:=T) T.length;have key:∀k i,T.length-k<=i->ws[i]?=(eA W T T.length)[i]?:=by intro k;induction k with|zero=>intro i hi;rw[Xf ↥0,Xf ↥0]|succ k ih=>
  intro i hi;by_cases c:T.length-k<=i;·exact ih i c
  ·have hi':i<T.length:=by lia
   have hx:T[i]?=some T[i]:=Um hi';generalize T[i]=x at hx;obtain⟨o1,o2⟩:=o i x hx;rw[h i x hx,nq (W:=W) o T.length ↥8 i x ↥0 hx];rw[JR o1 (vs:=eA W T T.length) λj hj=>ih j ↥0,JR o2 (vs:=eA W T T.length) λj hj=>ih j ↥0]
 exact VT λi=>key T.length i ↥0
theorem C'{ws:List Int}{k:Nat}{w v:Int}(hw:ws[k]?=some w)(hv:v∈ws):v=w\/v∈ws.eraseIdx k:=by obtain⟨hk,e⟩:=TC hw;have:=(oq ws k hk).mem_iff (a:=v);rw[Uy,e]at this;exact this.mpr hv
def vd(T:List Nd)(ws order:List Int):Prop:=∀(j:Nat) (w:Int),order[j]?=some w->∀l∈vz (aS T w),l∈ws\/∃j':Nat,j<j'/\order[j']?=some l
theorem vd.first{T:List Nd}{ws:List Int}:vd T ws []:=λj w h=>by simp at h
theorem vd.turn{T:List Nd}{ws ws' order:List Int}{w:Int}(h:vd T ws order)(h1:∀v∈ws,v=w\/v∈ws')(h2:∀l∈vz (aS T w),l∈ws'):vd T ws' (order++[w]):=λj u hj l hl=>by
 by_cases c:j<order.length
 ·rw[UX c]at hj;rcases h j u hj l hl with q|⟨j',a,b⟩
  ·rcases h1 l q with rfl|q;·exact .inr ⟨order.length,c,by simp⟩
   ·exact .inl q
  ·exact .inr ⟨j',a,by rw[UX (TC b).1];exact b⟩
 ·have hj':=(TC hj).1;simp at hj';have:j=order.length:=by lia
  subst this;simp at hj;subst hj;exact .inl (h2 l hl)
def l_(order nums:List Int)(i:Nat):Prop:=∀(j:Nat) (l:Int),j<i->order[j]?=some l->(j:Int)<=nums.getD l.toNat (-1)
theorem l_.first{order nums:List Int}:l_ order nums 0:=λj l h=>by lia
theorem l_.set{order nums:List Int}{i:Nat}{w:Int}(h:l_ order nums i)(hw:order[i]?=some w)(hl:w.toNat<nums.length):l_ order (nums.set w.toNat (i:Int)) (i+1):=λj l hj e=>by
 rw[Ur];by_cases c:w.toNat=l.toNat;·rw[<-c,UW hl];show(j:Int)<=(i:Int);lia
 ·rw[UA c];by_cases d:j<i;·have:=h j l d e;rwa[Ur]at this
  ·have:j=i:=by lia
   subst this;rw[hw]at e;cases e;exact absurd rfl c
theorem Dm{T:List Nd}{order nums:List Int}{W:aA}{S:Nat->Std}(h:be W T S)(ho:∀w∈order,0<=w/\w<(T.length:Int))(hn:lQ order T.length nums)(hg:l_ order nums order.length)(hw:vd T [] order):fQ (order.map (renum T nums)):=λj y hy=>by
 rw[Ut]at hy;obtain⟨w,hw2,rfl⟩:=TB hy;obtain⟨a0,a1⟩:=ho w (TK hw2);have o:=h _ _ (dP a0 a1);have key:∀l:Int,l=(aS T w).yes\/l=(aS T w).no->-1<=l->l<(T.length:Int)->D1 j (nm nums l):=λl hl l0 l1=>by
  by_cases c:l=-1;·left;subst c;unfold nm atI oz;rw[if_neg ⋯,if_pos (by rw[hn.len];lia)];simp only[Ul];rw[show(-1+(nums.length:Int)).toNat=T.length by rw[hn.len];lia,hn.top];rfl
  ·right;have hm:l∈vz (aS T w):=by unfold vz;rw[Wg];refine⟨?_,by simpa using c⟩;rcases hl with rfl|rfl<;>simp
   rcases hw j w hw2 l hm with q|⟨j',q1,q2⟩;·cases q
   ·have g:=hg j' l (TC q2).1 q2;have e:nm nums l=nums.getD l.toNat (-1):=by unfold nm atI oz;rw[if_pos ↥0,if_pos (by rw[hn.len];lia)];simp only[Ul,Ur]
    rw[e];lia
 exact⟨key _ (.inl rfl) o.yes.rng.1 o.yes.rng.2,key _ (.inr rfl) o.no.rng.1 o.no.rng.2⟩
section
variable{X:Cx}{K:⇑0}{es:List TU}{k0:Nat}{tp:Pos}{a b:TU}{fs:FA}{p pos:Pos}
def nH(fs:FA):FI:=λe=>(fs e).bind λp=>match p.1 with|[.d (.tuple xs),.d (.tuple ys)]=>some (cI xs ys,[],p.2)|_=>none
end
def dI(x:Nd)(b:Bool):Int:=if b=true then x.yes else x.no
def jc(T:List Nd)(i:Nat)(b:Bool):Int:=match T[i]? with|some x=>dI x b|none=>-1
theorem cu{T:List Nd}{i:Nat}{x:Nd}{b:Bool}(h:T[i]?=some x):jc T i b=dI x b:=by unfold jc;rw[h]
theorem cO{T:List Nd}{i:Nat}{b:Bool}(h:T[i]?=none):jc T i b=-1:=by unfold jc;rw[h]
theorem E6{x:Nd}{s n:Int}{b:Bool}(hs:s=0\/s=1):dI (jT x s n) b=if b=(s==0) then n else dI x b:=by rcases hs with rfl|rfl<;>cases b<;>simp[dI,jT]
def y3(T:List Nd):Prop:=∀(i j:Nat) (a b:Bool),jc T i a=jc T j b->jc T i a≠-1->i=j/\a=b
def Ju(w:Wt):Int×Int:=(w.par,w.side)
structure AJ (T:List Nd) (ws:List Wt):Prop where
 unq:y3 T
 rng:∀i a,jc T i a=-1\/(0<jc T i a/\jc T i a<(T.length:Int))free:∀w∈ws,w.par=-1\/(0<=w.par/\w.par<(T.length:Int)/\jc T w.par.toNat (w.side==0)=-1)dst:(ws.map Ju).Nodup
 side:∀w∈ws,w.side=0\/w.side=1
theorem AJ.first{s:Std}:AJ [] [⟨s,-1,0⟩]:=⟨λi j a b _ h=>absurd (cO ↥1) h,λi a=>.inl (cO ↥1),λw hw=>by simp at hw;subst hw;exact .inl rfl,by simp,λw hw=>by simp at hw;subst hw;exact .inl rfl⟩
theorem AJ.less{T:List Nd}{w:Wt}{ws:List Wt}(h:AJ T (w::ws)):AJ T ws:=⟨h.unq,h.rng,λv hv=>h.free v (by simp[hv]),(VN.mp h.dst).2,λv hv=>h.side v (by simp[hv])⟩
theorem E5{T:List Nd}{p s k:Int}{i:Nat}{a:Bool}(hs:s=0\/s=1)(hp:p=-1\/(0<=p/\p<(T.length:Int))):jc ((if 0<=p then T.modify p.toNat (λx=>jT x s T.length) else T)++[⟨k,-1,-1⟩]) i a=if (i:Int)=p/\a=(s==0) then(T.length:Int) else jc T i a:=by
 generalize hT:(if 0<=p then T.modify p.toNat (λx=>jT x s T.length) else T)=T';have len:T'.length=T.length:=by rw[<-hT];split<;>simp
 by_cases c:i<T.length
 ·have hx:T[i]?=some T[i]:=Um c;generalize T[i]=x at hx;by_cases e:(i:Int)=p
  ·have e2:p.toNat=i:=by lia
   have:(T'++[(⟨k,-1,-1⟩:Nd)])[i]?=some (jT x s T.length):=by rw[UX ↥0,<-hT,if_pos ↥0,Xq,e2,hx];simp
   rw[cu this,E6 hs,cu hx];simp[e]
  ·have:(T'++[(⟨k,-1,-1⟩:Nd)])[i]?=some x:=by
    rw[UX ↥0,<-hT];split
    ·rw[Xq,hx];have:¬p.toNat=i:=by lia
     simp[this]
    ·exact hx
   rw[cu this,cu hx,if_neg (λz=>e z.1)]
 ·rw[if_neg (λz=>by lia),cO (T:=T) (Xf ↥0)];by_cases d:i=T.length;·subst d;rw[cu (x:=⟨k,-1,-1⟩) (by rw[XD ↥0,len];simp)];cases a<;>rfl
  ·exact cO (Xf (by simp[len];lia))
theorem AJ.more{T:List Nd}{w:Wt}{ws:List Wt}{k:Int}{s1 s2:Std}(h:AJ T (w::ws)):AJ ((if 0<=w.par then T.modify w.par.toNat (λx=>jT x w.side T.length) else T)++[⟨k,-1,-1⟩]) (ws++[⟨s1,T.length,0⟩,⟨s2,T.length,1⟩]):=by
 have hs:=h.side w ↥1;have hp:w.par=-1\/(0<=w.par/\w.par<(T.length:Int)):=(h.free w ↥1).imp id λz=>⟨z.1,z.2.1⟩;have F:=λi a=>E5 (T:=T) (k:=k) (i:=i) (a:=a) hs hp;have len:((if 0<=w.par then T.modify w.par.toNat (λx=>jT x w.side T.length) else T)++[(⟨k,-1,-1⟩:Nd)]).length=T.length+1:=by rw[VO];split<;>simp
 generalize (if 0<=w.par then T.modify w.par.toNat (λx=>jT x w.side T.length) else T)++[(⟨k,-1,-1⟩:Nd)]=T' at F len;have hd:=h.dst;rw[Uo,VN]at hd;refine⟨λi j a b e n=>?_,λi a=>?_,λv hv=>?_,?_,λv hv=>?_⟩
 ·rw[F,F]at e;rw[F]at n;have r1:=h.rng i a;have r2:=h.rng j b;by_cases c1:(i:Int)=w.par/\a=(w.side==0)
  ·by_cases c2:(j:Int)=w.par/\b=(w.side==0);·exact⟨by lia,by rw[c1.2,c2.2]⟩
   ·rw[if_pos c1,if_neg c2]at e;lia
  ·by_cases c2:(j:Int)=w.par/\b=(w.side==0);·rw[if_neg c1,if_pos c2]at e;lia
   ·rw[if_neg c1,if_neg c2]at e;rw[if_neg c1]at n;exact h.unq i j a b e n
 ·rw[F,len];split;·rename_i c;right;lia
  ·have:=h.rng i a;lia
 ·rw[len];rcases TF hv with hv|hv
  ·rcases h.free v (by simp[hv]) with z|⟨z1,z2,z3⟩;·exact .inl z
   ·refine .inr ⟨z1,by lia,?_⟩;rw[F,if_neg ?_];·exact z3
    ·intro⟨c1,c2⟩;refine hd.1 (Wz.mpr ⟨v,hv,?_⟩);have e1:v.par=w.par:=by lia
     have e2:v.side=w.side:=by rcases h.side v (by simp[hv]) with q|q<;>rcases hs with r|r<;>rw[q,r]at c2⊢<;>simp at c2
     unfold Ju;rw[e1,e2]
  ·have:v.par=(T.length:Int):=by simp only[Uy,UK,or_false]at hv;rcases hv with rfl|rfl<;>rfl
   refine .inr ⟨by lia,by lia,?_⟩;rw[this,F,if_neg ↥0];exact cO (Xf ↥1)
 ·rw[Wq,Xo];refine⟨hd.2,by simp[Ju],λx hx y hy=>?_⟩;obtain⟨v,hv,rfl⟩:=TH hx;have hv2:=h.free v (by simp[hv]);intro e;have:y.1=(T.length:Int):=by simp only[Uo,Uv,Uy,UK,or_false,Ju]at hy;rcases hy with rfl|rfl<;>rfl
  rw[<-e]at this;have:v.par=(T.length:Int):=this;lia
 ·rcases TF hv with hv|hv;·exact h.side v (by simp[hv])
  ·simp only[Uy,UK,or_false]at hv;rcases hv with rfl|rfl;·exact .inl rfl
   ·exact .inr rfl
theorem yg{T:List Nd}{w l:Int}(h0:0<=w)(h1:w<(T.length:Int)):l∈vz (aS T w)↔l≠-1/\∃b,jc T w.toNat b=l:=by
 have hx:=dP h0 h1;unfold vz;rw[Wg];simp only[Uy,UK,or_false,bne_iff_ne];constructor
 ·rintro⟨rfl|rfl,n⟩;·exact⟨n,true,cu hx⟩
  ·exact⟨n,false,cu hx⟩
 ·rintro⟨n,b,e⟩;rw[cu hx]at e;refine⟨?_,n⟩;cases b;·exact .inr e.symm
  ·exact .inl e.symm
theorem C_{T:List Nd}{w:Int}(u:y3 T)(h0:0<=w)(h1:w<(T.length:Int)):(vz (aS T w)).Nodup:=by
 have hx:=dP h0 h1;have key:(aS T w).yes=(aS T w).no->(aS T w).yes=-1:=λe=>by
  by_cases c:(aS T w).yes=-1;·exact c
  ·have e1:jc T w.toNat true=(aS T w).yes:=cu hx;have e2:jc T w.toNat false=(aS T w).no:=cu hx;have:=(u w.toNat w.toNat true false (by rw[e1,e2];exact e) (by rw[e1];exact c)).2;cases this
 unfold vz;by_cases c1:(aS T w).yes=-1;·by_cases c2:(aS T w).no=-1<;>simp[c1,c2]
 ·by_cases c2:(aS T w).no=-1;·simp[c1,c2]
  ·have:¬(aS T w).yes=(aS T w).no:=λe=>c1 (key e);simp[c1,c2,this]
structure G4 (T:List Nd) (w0 ws order:List Int):Prop where
 nd:(order++ws).Nodup
 par:∀v∈order++ws,v=0\/∃u∈order,∃b,jc T u.toNat b=v/\v≠-1
 fst:(order=[]/\ws=w0)\/order[0]?=some 0
theorem G4.first{T:List Nd}{w0:List Int}(h:w0=[]\/w0=[0]):G4 T w0 w0 []:=by
 rcases h with rfl|rfl;·exact⟨by simp,λv hv=>by simp at hv,.inl ⟨rfl,rfl⟩⟩
 ·exact⟨by simp,λv hv=>by simp at hv;exact .inl hv,.inl ⟨rfl,rfl⟩⟩
theorem G4.turn{T:List Nd}{w0 ws order:List Int}{k:Nat}{w:Int}(hw0:w0=[]\/w0=[0])(h:G4 T w0 ws order)(u:y3 T)(rg:∀i a,jc T i a=-1\/(0<jc T i a/\jc T i a<(T.length:Int)))(ho:∀v∈order++ws,0<=v/\v<(T.length:Int))(hw:ws[k]?=some w):G4 T w0 (ws.eraseIdx k++vz (aS T w)) (order++[w]):=by
 obtain⟨hk,e⟩:=TC hw;have hwm:w∈ws:=TK hw;obtain⟨a0,a1⟩:=ho w (by simp[hwm]);have pm:(order++[w]++ws.eraseIdx k).Perm (order++ws):=by rw[WX];refine List.Perm.append_left _ ?_;have:=oq ws k hk;rw[e]at this;exact this
 have nd:=h.nd;refine⟨?_,λv hv=>?_,?_⟩
 ·rw[<-WX,Xo];refine⟨pm.nodup_iff.mpr nd,C_ u a0 a1,λx hx y hy e2=>?_⟩;subst e2;obtain⟨n,b,eb⟩:=(yg a0 a1).mp hy;have hx':=pm.mem_iff.mp hx;rcases h.par x hx' with z|⟨v,hv,c,ec,_⟩;·have:=rg w.toNat b;lia
  ·have q:=(u v.toNat w.toNat c b (by rw[ec,eb]) (by rw[ec];exact n)).1;obtain⟨v0,v1⟩:=ho v (by simp[hv]);have:v=w:=by lia
   subst this;rw[Xo]at nd;exact nd.2.2 v hv v hwm rfl
 ·rw[<-WX]at hv;rcases TF hv with hv|hv
  ·rcases h.par v (pm.mem_iff.mp hv) with z|⟨x,hx,b,q⟩;·exact .inl z
   ·exact .inr ⟨x,by simp[hx],b,q⟩
  ·obtain⟨n,b,eb⟩:=(yg a0 a1).mp hv;exact .inr ⟨w,by simp,b,eb,n⟩
 ·right;rcases h.fst with⟨z1,z2⟩|z
  ·subst z1 z2;rcases hw0 with q|q;·rw[q]at hwm;cases hwm
   ·rw[q]at hwm;simp at hwm;subst hwm;rfl
  ·rw[UX (TC z).1];exact z
def en(T:List Nd):Prop:=y3 T/\∀j:Nat,0<j->j<T.length->∃i b,jc T i b=(j:Int)
theorem pQ{order:List Int}(h:order.Nodup){i j:Nat}{w:Int}(hi:order[i]?=some w)(hj:order[j]?=some w):i=j:=by
 obtain⟨a,e1⟩:=TC hi;obtain⟨b,e2⟩:=TC hj;have pw:=List.pairwise_iff_getElem.mp h;rcases Nat.lt_trichotomy i j with c|c|c;·exact absurd (e1.trans e2.symm) (pw i j a b c)
 ·exact c
 ·exact absurd (e2.trans e1.symm) (pw j i b a c)
theorem Bz{T:List Nd}{order nums w0:List Int}{W:aA}{S:Nat->Std}(h:be W T S)(u:y3 T)(ho:∀w∈order,0<=w/\w<(T.length:Int))(hn:lQ order T.length nums)(hg:l_ order nums order.length)(hw:vd T [] order)(hr:G4 T w0 [] order):en (order.map (renum T nums)):=by
 have nd:order.Nodup:=by have:=hr.nd;rwa[Vs]at this
 have nmE:∀l:Int,0<=l->l<(T.length:Int)->nm nums l=nums.getD l.toNat (-1):=λl l0 l1=>by unfold nm atI oz;rw[if_pos l0,if_pos (by rw[hn.len];lia)];simp only[Ul,Ur]
 have nm1:nm nums (-1)=-1:=by unfold nm atI oz;rw[if_neg ⋯,if_pos (by rw[hn.len];lia)];simp only[Ul];rw[show(-1+(nums.length:Int)).toNat=T.length by rw[hn.len];lia,hn.top];rfl
 have inv:∀(j:Nat) (l:Int),order[j]?=some l->nm nums l=(j:Int):=λj l hj=>by
  obtain⟨l0,l1⟩:=ho l (TK hj);have g:=hg j l (TC hj).1 hj;rw[nmE l l0 l1];have hx:nums[l.toNat]?=some (nums.getD l.toNat (-1)):=by
   have:l.toNat<nums.length:=by rw[hn.len];lia
   simp[this]
  rcases hn.at' l.toNat _ ↥0 hx with z|⟨p,z1,z2⟩;·lia
  ·rw[show((l.toNat:Nat):Int)=l by lia]at z2;rw[z1,pQ nd z2 hj]
 have lkR:∀(i:Nat) (w:Int) (b:Bool),order[i]?=some w->jc (order.map (renum T nums)) i b=nm nums (jc T w.toNat b):=λi w b hi=>by obtain⟨a0,a1⟩:=ho w (TK hi);rw[cu (x:=renum T nums w) (by rw[Ut,hi];rfl),cu (dP a0 a1)];cases b<;>rfl
 have inO:∀(i:Nat) (w:Int) (b:Bool),order[i]?=some w->jc T w.toNat b≠-1->∃p:Nat,order[p]?=some (jc T w.toNat b):=λi w b hi n=>by
  obtain⟨a0,a1⟩:=ho w (TK hi);rcases hw i w hi (jc T w.toNat b) ((yg a0 a1).mpr ⟨n,b,rfl⟩) with q|⟨p,_,q⟩;·cases q
  ·exact⟨p,q⟩
 refine⟨λi j a b e n=>?_,λj j0 j1=>?_⟩;·cases hi:order[i]? with|none=>exact absurd (cO (by rw[Ut,hi];rfl)) n|some w=>cases hj:order[j]? with|none=>rw[cO (i:=j) (by rw[Ut,hj];rfl)]at e;exact absurd e n|some v=>
    rw[lkR i w a hi]at e n;rw[lkR j v b hj]at e;have n1:jc T w.toNat a≠-1:=λz=>n (by rw[z,nm1]);have n2:jc T v.toNat b≠-1:=λz=>n (by rw[e,z,nm1]);obtain⟨p,hp⟩:=inO i w a hi n1;obtain⟨q,hq⟩:=inO j v b hj n2;rw[inv p _ hp,inv q _ hq]at e;have:p=q:=by lia
    subst this;rw[hp]at hq;have e3:=UH hq;obtain⟨e4,e5⟩:=u w.toNat v.toNat a b e3 n1;obtain⟨a0,a1⟩:=ho w (TK hi);obtain⟨b0,b1⟩:=ho v (TK hj);have:w=v:=by lia
    subst this;exact⟨pQ nd hi hj,e5⟩
 ·rw[Uq]at j1;have hj:order[j]?=some order[j]:=Um j1;generalize order[j]=v at hj;have h0:order[0]?=some 0:=by
   rcases hr.fst with⟨z,_⟩|z;·rw[z]at j1;simp at j1
   ·exact z
  rcases hr.par v (by rw[Vs];exact TK hj) with z|⟨x,hx,b,e,n⟩;·subst z;have:=pQ nd h0 hj;lia
  ·obtain⟨i,hi⟩:=We hx;exact⟨i,b,by rw[lkR i x b hi,e];exact inv j v hj⟩
theorem sZ{W:aA}{rs:List Fr}{i j:Nat}{k:Int}{b:Bool}{l:Int}(h:l=-1\/l.toNat≠j):(rstp W rs i k b l).getD j (1,1)=rs.getD j (1,1):=by
 unfold rstp;split;·rfl
 ·rename_i c;have:l.toNat≠j:=by rcases h with h|h;exact absurd h c;exact h
  rw[Ur,UA this,Ur]
theorem Ab{W:aA}{rs:List Fr}{i:Nat}{k:Int}{b:Bool}{l:Int}(h:l≠-1)(hl:l.toNat<rs.length):(rstp W rs i k b l).getD l.toNat (1,1)=tm (rs.getD i (1,1)) (ch W k b):=by unfold rstp;rw[if_neg h,Ur,UW hl];rfl
theorem Gc{W:aA}{rs:List Fr}{i:Nat}{x:Nd}:vN W rs i x=rstp W (rstp W rs i x.tie true (dI x true)) i x.tie false (dI x false):=rfl
def Mc(W:aA)(T:List Nd)(rs:List Fr)(i:Nat):Prop:=∀(x:Nd) (b:Bool),T[i]?=some x->dI x b≠-1->rs.getD (dI x b).toNat (1,1)=tm (rs.getD i (1,1)) (ch W x.tie b)
theorem jH{W:aA}{T:List Nd}:∀m,(aY W T m).length=T.length
 |0=>by simp[aY]|m+1=>by
  rw[aY];split;·unfold vN;rw[pV,pV];exact jH m
  ·exact jH m
theorem Fm{T:List Nd}(o:fQ T){i:Nat}{x:Nd}(hx:T[i]?=some x)(b:Bool):D1 i (dI x b):=by
 cases b;·exact(o i x hx).2
 ·exact(o i x hx).1
theorem sY{W:aA}{rs:List Fr}{i j:Nat}{x:Nd}(h:∀b,dI x b=-1\/(dI x b).toNat≠j):(vN W rs i x).getD j (1,1)=rs.getD j (1,1):=by rw[Gc,sZ (h false),sZ (h true)]
theorem k9{W:aA}{T:List Nd}{S:Nat->Std}(h:be W T S)(o:fQ T)(u:y3 T):∀m,∀i,i<m->Mc W T (aY W T m) i
 |0,i,hi=>by lia|m+1,i,hi=>λx b hx hn=>by
  have ln:=jH (W:=W) (T:=T) m;have hb:=Fm o hx b;have hrx:(dI x b)<(T.length:Int):=by
   cases b;·exact(h i x hx).no.rng.2
   ·exact(h i x hx).yes.rng.2
  have hxi:i<T.length:=(TC hx).1;cases hy:T[m]? with|none=>rw[aY,hy];have:T.length<=m:=List.getElem?_eq_none_iff.mp hy;exact k9 h o u m i ↥0 x b hx hn|some y=>
   rw[yC hy];have oy:=λc=>Fm o hy c;by_cases c:i=m
   ·subst c;rw[hx]at hy;cases hy;have e0:(vN W (aY W T i) i x).getD i (1,1)=(aY W T i).getD i (1,1):=sY λc=>by
     rcases oy c with z|z;·exact .inl z
     ·right;lia
    rw[e0];have dif:∀c,c≠b->dI x c=-1\/(dI x c).toNat≠(dI x b).toNat:=λc hc=>by
     by_cases z:dI x c=-1;·exact .inl z
     ·right;intro e;have:=oy c;have e1:jc T i c=dI x c:=cu hx;have e2:jc T i b=dI x b:=cu hx;have:=(u i i c b (by rw[e1,e2];unfold D1 at*;lia) (by rw[e1];exact z)).2;exact hc this
    rw[Gc];have hll:(dI x b).toNat<(aY W T i).length:=by rw[ln];unfold D1 at*;lia
    cases b;·rw[Ab (l:=dI x false) hn (by rw[pV];exact hll)];rw[sZ (l:=dI x true) (j:=i) (by
      rcases oy true with z|z;·exact .inl z
      ·right;lia)]
    ·rw[sZ (l:=dI x false) (dif false ⋯)];exact Ab (l:=dI x true) hn hll
   ·have e0:(vN W (aY W T m) m y).getD i (1,1)=(aY W T m).getD i (1,1):=sY λc=>by
     rcases oy c with z|z;·exact .inl z
     ·right;lia
    have e1:(vN W (aY W T m) m y).getD (dI x b).toNat (1,1)=(aY W T m).getD (dI x b).toNat (1,1):=sY λd=>by
     by_cases z:dI y d=-1;·exact .inl z
     ·right;intro e;have a1:jc T m d=dI y d:=cu hy;have a2:jc T i b=dI x b:=cu hx;have z2:=oy d;have:=(u m i d b (by rw[a1,a2];unfold D1 at*;lia) (by rw[a1];exact z)).1;lia
    rw[e0,e1];exact k9 h o u m i ↥0 x b hx hn
theorem qQ{W:aA}{T:List Nd}(o:fQ T):∀m,(aY W T m).getD 0 (1,1)=(1,1)|0=>by rw[aY,Ur,Wj];split<;>rfl|m+1=>by cases hy:T[m]? with
 |none=>rw[aY,hy];exact qQ o m
 |some y=>rw[yC hy,sY λc=>by
  rcases Fm o hy c with z|z;·exact .inl z
  ·right;lia];exact qQ o m
theorem Dv{W:aA}{T:List Nd}{S:Nat->Std}(h:be W T S)(o:fQ T)(t:en T){ws:List Fr}(hl:ws.length=T.length)(h0:ws.getD 0 (1,1)=(1,1))(he:∀i,Mc W T ws i):ws=aY W T T.length:=by
 have ln:=jH (W:=W) (T:=T) T.length;have key:∀n j,j<n->j<T.length->ws.getD j (1,1)=(aY W T T.length).getD j (1,1):=by intro n;induction n with|zero=>intro j hj;lia|succ n ih=>
  intro j hj hjT;by_cases c:j=0;·subst c;rw[h0,qQ o]
  ·obtain⟨i,b,e⟩:=t.2 j ↥0 hjT;cases hx:T[i]? with|none=>rw[cO hx]at e;lia|some x=>
   rw[cu hx]at e;have ob:=Fm o hx b;have hi:i<j:=by unfold D1 at ob;lia
   have n1:dI x b≠-1:=by lia
   have q1:=he i x b hx n1;have q2:=k9 (W:=W) h o t.1 T.length i (TC hx).1 x b hx n1;rw[show(dI x b).toNat=j by lia]at q1 q2;rw[q1,q2,ih i ↥0 ↥0]
 refine XT (by rw[hl,ln]) λj h1 h2=>?_;have:=key (j+1) j ↥0 ↥0;simpa[Ur,h1,h2]using this
theorem rB{cs:En}{g g2:FG}{ft ft2:FT}{fi2:FI}{fe:FE}{f:TN->List TN}(n:Nat):∀(items:List TN) (t:En) (acc:List TN),t.length=n->(∀x∈items,(f x).length<=2)->(∀x∈items,∀(t:En) (acc:List TN),t.length=n->acc.length+2<=1000000->∃e1 e2 its e3 t',g x (cs++t)=some e1/\ft e1=some (true,e2)/\fi2 e2=some (its,[],e3)/\bT g2 ft2 fe its e3 acc=some (acc++f x,cs++t')/\t'.length=n)->acc.length+2*items.length<=1000000->∃t',t'.length=n/\iW g ft fi2 g2 ft2 fe items (cs++t) acc=some (acc++items.flatMap f,cs++t')|[],t,acc,h,_,_,_=>⟨t,h,by simp[iW]⟩|x::r,t,acc,h,hf,hs,hl=>by simp only[Vc]at hl;obtain⟨e1,e2,its,e3,t1,a1,a2,a3,a4,a5⟩:=hs x ↥1 t acc h ↥0;have:=hf x ↥1;obtain⟨t',b1,b2⟩:=rB n r t1 (acc++f x) a5 (λy hy=>hf y (by simp[hy])) (λy hy=>hs y (by simp[hy])) (by rw[VO];lia);refine⟨t',b1,?_⟩;unfold iW;simp only[a1,a2,a3,a4,b2,Ul,if_true,List.flatMap_cons,WX]
theorem DN{cp:List (Nat×Str)}{nT:Nat}{fi fi2:FI}{g g2:FG}{ft ft2:FT}{fe:FE}{e e1 cs:En}{t t':En}{items out:List TN}(h1:fi e=some (items,[],e1))(hc:oV cp nT e1=cs++t)(hl:cs.length=cp.length)(h3:iW g ft fi2 g2 ft2 fe items (oV cp nT e1) []=some (out,cs++t')):kB cp nT fi g ft fi2 g2 ft2 fe e=some (.l out,e1):=by
 have key:=dg (cp:=cp) (nT:=nT) (fi:=λ_=>some ([.none],[],e1)) (g:=λ_ _=>some (cs++t')) (ft:=λe=>some (false,e)) (fe:=fe) (e:=e) (cs:=cs) (t:=t) (t':=t') (out:=[]) rfl hc hl rfl;have c0:bT (λ_ _=>some (cs++t')) (λe=>some (false,e)) fe [.none] (oV cp nT e1) []=some ([],cs++t'):=rfl;unfold bD at key;unfold kB;rw[h1];simp only[Ul,XN,if_true,h3,c0]at key⊢;split at key;·rename_i q;rw[if_pos q];have:=UH key;have e2:oT (oK cp) (cs++t') e1=e1:=(Prod.ext_iff.mp this).2;rw[e2]
 ·cases key
section
variable{prog:Uc}{w:TX}{A:Ud}{E:TL->TQ->Prop}{s:TQ}
end
section
variable{X:Cx}{tg a:TU}{ta:TA}{p pos:Pos}
end
section
variable{X:Cx}{K:⇑0}{σ:L2.St}{tg a:TU}{fs:FA}{p pos:Pos}
end
section
variable{X:Cx}{a k:TU}{p2 pos:Pos}{fa fk:FE}{K:⇑0}
section
variable{prog:Uc}{w:TX}{A:Ud}{E:TL->TQ->Prop}{s:TQ}
end
end
section
variable{X:Cx}{a b:TU}{ta:TA}{p p2 pos pos2:Pos}{K:⇑0}{fs:FA}
end
section
variable{X:Cx}{o i e:TU}{fo fi:FE}{tpos pos:Pos}{K:⇑0}
end
section
variable{X:Cx}{K:⇑0}
end
section
open PySem.MeetsSeq2 PySem.AutoSeq1 PySem.SeqAt
end
section
variable{X:Cx}{K:⇑0}{o a:TU}{to te:TE}{name:Str}{apos cpos:Pos}{T id:String}{r:V->List V->Hp->VK->Prop}{fo fa:FE}
def gC(ns:List Int)(k:Int):Option Nat:=some (ns.count k)
end
section
variable{X:Cx}{K:⇑0}{o a:TU}{apos cpos:Pos}{fo fa:FE}
end
section
variable{K:⇑0}{F H:Hp}{σ:L2.St}{e:En}{cp:List (Nat×Str)}{nT:Nat}
end
section
variable{X:Cx}{K:⇑0}{a b:TU}{es:List TU}{fa fb:FE}{fs:FA}{pos p p2 p3:Pos}{lo hi:Option TU}
end
section
variable{X:Cx}{K:⇑0}
end
section
variable{X:Cx}{K:⇑0}{a b:TU}{fa fb:FE}{pos:Pos}
end
section
variable{X:Cx}{K:⇑0}
end
structure Sw (b:Bool) (n dep:Nat) (d:TN):Prop where
 dl:bif b then oG d=true else d.hasDict=false
 sh:d.showable=true
 dp:d.depth<=dep
 ln:d.shown.length+2<=n
 so:Vm d.shown=true
structure S1 (n:Nat) (f:Fr):Prop where
 low:nZ f
 lo:0<=f.1
 hi:f.1<=f.2
 bt:Bt n f.2
def OU(e:Int)(t:kd):Bool:=t.one==e||t.other==e
structure Pc (b f g:Fr):Prop where
 pf:0<f.2
 pg:0<g.2
 eq:g.1*(f.2*b.1)=g.2*(f.1*b.2)
def vR(f:Fr):Rat:=(f.1:Rat)/(f.2:Rat)
theorem ja{b:Int}(h:0<b):(b:Rat)≠0:=λe=>by
 have:b=0:=by exact_mod_cast e
 lia
theorem GR{t b:Int}(hb:0<b):vR (lowM t b)=(t:Rat)/(b:Rat):=by
 have c:=ue (t:=t) (b:=b) (XR hb);have p:=(nZ.lowM (t:=t) hb).pos;have c':((lowM t b).1:Rat)*(b:Rat)=((lowM t b).2:Rat)*(t:Rat):=by exact_mod_cast c
 have h1:=ja hb;have h2:=ja p;unfold vR;generalize ((lowM t b).1:Rat)=x at*;generalize ((lowM t b).2:Rat)=y at*;generalize (b:Rat)=z at*;generalize (t:Rat)=w at*;grind
theorem CG{a b:Fr}(ha:0<a.2)(hb:0<b.2):vR (pl a b)=vR a+vR b:=by have h:=GR (t:=a.1*b.2+b.1*a.2) (UO ha hb);have h1:=ja ha;have h2:=ja hb;change vR (pl a b)=_ at h;rw[h];unfold vR;rw[Rat.intCast_add,XU,XU,XU];generalize (a.1:Rat)=x at*;generalize (a.2:Rat)=y at*;generalize (b.1:Rat)=z at*;generalize (b.2:Rat)=w at*;grind
theorem uY{a b:Fr}(ha:0<a.2)(hb:0<b.2):vR (tm a b)=vR a*vR b:=by have h:=GR (t:=a.1*b.1) (UO ha hb);have h1:=ja ha;have h2:=ja hb;change vR (tm a b)=_ at h;rw[h];unfold vR;rw[XU,XU];generalize (a.1:Rat)=x at*;generalize (a.2:Rat)=y at*;generalize (b.1:Rat)=z at*;generalize (b.2:Rat)=w at*;grind
theorem yT{a b:Fr}(ha:nZ a)(hb:nZ b)(h:vR a=vR b):a=b:=by
 have h1:=ja ha.pos;have h2:=ja hb.pos;have c:(b.1:Rat)*(a.2:Rat)=(a.1:Rat)*(b.2:Rat):=by unfold vR at h;generalize (a.1:Rat)=x at*;generalize (a.2:Rat)=y at*;generalize (b.1:Rat)=z at*;generalize (b.2:Rat)=w at*;grind
 have c':b.1*a.2=a.1*b.2:=by exact_mod_cast c
 exact nZ.uniq (M:=a.2) (v:=a.1) ha.pos ha hb rfl c'
theorem GQ:vR (0,1)=0:=by unfold vR;simp;grind
theorem Nx:vR (1,1)=1:=by unfold vR;simp;grind
theorem BD(n:Int):vR (n,1)=(n:Rat):=by unfold vR;simp;grind
def SR(n:Nat)(f:List Bool->Rat):Rat:=((aQ n).map f).sum
theorem lj(a b:List Rat):(a++b).sum=a.sum+b.sum:=by induction a with|nil=>simp only[Ux,Vt];grind|cons x r ih=>simp only[VQ,UY,ih];grind
theorem GB(c:Rat){α:Type}(f:α->Rat)(l:List α):(l.map λx=>c*f x).sum=c*(l.map f).sum:=by induction l with|nil=>simp|cons x r ih=>simp only[Uo,UY,ih];grind
theorem GA{α:Type}(f g:α->Rat)(l:List α):(l.map λx=>f x+g x).sum=(l.map f).sum+(l.map g).sum:=by induction l with|nil=>simp only[Uv,Vt];grind|cons x r ih=>simp only[Uo,UY,ih];grind
theorem oR{α:Type}{f g:α->Rat}{l:List α}(h:∀x∈l,f x=g x):(l.map f).sum=(l.map g).sum:=by rw[XO h]
theorem DE{a b:List Rat}(h:a.Perm b):a.sum=b.sum:=by induction h with|nil=>rfl|cons x _ ih=>simp only[UY,ih]|swap x y l=>simp only[UY];grind|trans _ _ h1 h2=>rw[h1,h2]
theorem xw{n:Nat}{f:List Bool->Rat}:SR (n+1) f=SR n (λr=>f (r++[true]))+SR n (λr=>f (r++[false])):=by unfold SR;rw[aQ,Wq,lj,UJ,UJ];rfl
theorem ma{n:Nat}(c:Rat)(f:List Bool->Rat):SR n (λr=>c*f r)=c*SR n f:=GB c f _
theorem xu{n:Nat}(f g:List Bool->Rat):SR n (λr=>f r+g r)=SR n f+SR n g:=GA f g _
theorem bN{n:Nat}{f g:List Bool->Rat}(h:∀r,r.length=n->f r=g r):SR n f=SR n g:=oR λr hr=>h r ((fM n).2 r hr)
def cR(t:kd)(b:Bool):Rat:=vR (qo t b)
def wR:List kd->List Bool->Rat|t::ts,b::bs=>cR t b*wR ts bs|_,_=>1
theorem nj{t:kd}{b:Bool}:∀{ts:List kd}{bs:List Bool},bs.length=ts.length->wR (ts++[t]) (bs++[b])=cR t b*wR ts bs|[],[],_=>by simp[wR]|u::ts,c::bs,h=>by show cR u c*wR (ts++[t]) (bs++[b])=cR t b*(cR u c*wR ts bs);rw[nj (by simpa using h)];grind|[],_::_,h=>by simp at h|_::_,[],h=>by simp at h
theorem Ek{t:kd}(h:0<t.bot):cR t true+cR t false=1:=by have h1:=ja h;unfold cR vR qo;simp only[if_true,WZ,if_false];rw[Rat.intCast_sub];generalize (t.top:Rat)=x at*;generalize (t.bot:Rat)=y at*;grind
theorem Cw{α:Type}{n:Nat}{ts:List α}(h:ts.length=n+1):∃us t,ts=us++[t]/\us.length=n:=by
 have ne:ts≠[]:=by intro e;rw[e]at h;simp at h
 exact⟨ts.dropLast,ts.getLast ne,(List.dropLast_concat_getLast ne).symm,by simp[h]⟩
theorem BF:∀(n:Nat) (ts:List kd),ts.length=n->(∀t∈ts,0<t.bot)->SR n (wR ts)=1
 |0,ts,h,_=>by rw[Yl.mp h];unfold SR;simp only[aQ,Uo,Uv,UY,Vt,wR];grind|n+1,ts,h,hb=>by
  obtain⟨us,t,rfl,hu⟩:=Cw h;rw[xw];have e:∀b,SR n (λr=>wR (us++[t]) (r++[b]))=cR t b*SR n (wR us):=λb=>by rw[<-ma];exact bN λr hr=>nj ↥0
  rw[e,e,BF n us hu λx hx=>hb x (by simp[hx])];have:=Ek (hb t ↥1);grind
theorem jV{t:kd}(h:0<t.bot)(b:Bool):0<(qo t b).2:=by cases b<;>exact h
theorem Cj:∀{ts:List kd}{bs:List Bool}{a:Fr},(∀t∈ts,0<t.bot)->0<a.2->0<(oX a ts bs).2|[],_,a,_,h=>by unfold oX;exact h|_::_,[],a,_,h=>by unfold oX;exact h|t::ts,b::bs,a,ht,h=>by unfold oX;exact Cj (λx hx=>ht x (by simp[hx])) (nZ.lowM (UO h (jV (ht t ↥1) b))).pos
theorem GS:∀{ts:List kd}{bs:List Bool}{a:Fr},(∀t∈ts,0<t.bot)->0<a.2->vR (oX a ts bs)=vR a*wR ts bs|[],_,a,_,h=>by unfold oX wR;grind|_::_,[],a,_,h=>by unfold oX wR;grind|t::ts,b::bs,a,ht,h=>by have hc:=jV (ht t ↥1) b;unfold oX wR;rw[GS (a:=tm a (qo t b)) (λx hx=>ht x (by simp[hx])) (nZ.lowM (UO h hc)).pos,uY h hc];unfold cR;grind
theorem sJ{n:Nat}:SR n (λ_=>0)=0:=by have:=ma (n:=n) 0 (λ_=>0);simp only[Rat.zero_mul]at this;exact this
theorem B4:∀(n:Nat) (ts:List kd),ts.length=n->(∀t∈ts,0<t.bot)->∀(k:Nat),k<n->∀(b:Bool) (v:List Bool->Rat),(∀r c,r.length=n->v (r.set k c)=v r)->SR n (λr=>if r.getD k false=b then wR ts r*v r else 0)=cR (ts.getD k default) b*SR n (λr=>wR ts r*v r)
 |0,_,_,_,k,hk,_,_,_=>by lia|n+1,ts,h,hb,k,hk,b,v,hv=>by
  obtain⟨us,t,rfl,hu⟩:=Cw h;have tb:=hb t ↥1;have cs:=Ek tb;rw[xw,xw];by_cases c:k=n
  ·subst c;have gt:(us++[t]).getD us.length default=t:=by simp[Ur]
   rw[<-hu,gt];have v2:∀r:List Bool,r.length=us.length->v (r++[false])=v (r++[true]):=λr hr=>by have:=hv (r++[true]) false ↥7;rw[<-this];congr 1;rw[<-hu,<-hr,List.set_append_right _ _ ↥8];simp
   have ga:∀(r:List Bool) (x:Bool),r.length=us.length->(r++[x]).getD us.length false=x:=λr x hr=>by rw[<-hr];simp[Ur]
   have r1:SR us.length (λr=>wR (us++[t]) (r++[true])*v (r++[true]))=cR t true*SR us.length (λr=>wR us r*v (r++[true])):=by rw[<-ma];exact bN λr hr=>by rw[nj hr];grind
   have r2:SR us.length (λr=>wR (us++[t]) (r++[false])*v (r++[false]))=cR t false*SR us.length (λr=>wR us r*v (r++[true])):=by rw[<-ma];exact bN λr hr=>by rw[nj hr,v2 r hr];grind
   rw[r1,r2];have l1:SR us.length (λr=>if (r++[true]).getD us.length false=b then wR (us++[t]) (r++[true])*v (r++[true]) else 0)=if b=true then cR t true*SR us.length (λr=>wR us r*v (r++[true])) else 0:=by cases b with|true=>rw[if_pos rfl,<-r1];exact bN λr hr=>by rw[ga r true hr,if_pos rfl]|false=>rw[if_neg ⋯];exact Eq.trans (bN (g:=λ_=>0) λr hr=>by rw[ga r true hr,if_neg ⋯]) sJ
   have l2:SR us.length (λr=>if (r++[false]).getD us.length false=b then wR (us++[t]) (r++[false])*v (r++[false]) else 0)=if b=false then cR t false*SR us.length (λr=>wR us r*v (r++[true])) else 0:=by cases b with|false=>rw[if_pos rfl,<-r2];exact bN λr hr=>by rw[ga r false hr,if_pos rfl]|true=>rw[if_neg ⋯];exact Eq.trans (bN (g:=λ_=>0) λr hr=>by rw[ga r false hr,if_neg ⋯]) sJ
   rw[l1,l2];cases b;·simp only[WZ,if_false,if_true];grind
   ·simp only[Bool.true_eq_false,if_false,if_true];grind
  ·have hkn:k<n:=by lia
   have gt:(us++[t]).getD k default=us.getD k default:=by simp only[Ur];rw[UX ↥0]
   rw[gt];have ga:∀(r:List Bool) (x:Bool),r.length=n->(r++[x]).getD k false=r.getD k false:=λr x hr=>by simp only[Ur];rw[UX ↥0]
   have step:∀x:Bool,SR n (λr=>if (r++[x]).getD k false=b then wR (us++[t]) (r++[x])*v (r++[x]) else 0)=cR (us.getD k default) b*SR n (λr=>wR (us++[t]) (r++[x])*v (r++[x])):=λx=>by
    have ih:=B4 n us hu (λy hy=>hb y (by simp[hy])) k hkn b (λr=>v (r++[x])) λr c hr=>by have:=hv (r++[x]) c ↥7;rw[List.set_append_left _ _ ↥0]at this;exact this
    have e1:SR n (λr=>if (r++[x]).getD k false=b then wR (us++[t]) (r++[x])*v (r++[x]) else 0)=cR t x*SR n (λr=>if r.getD k false=b then wR us r*v (r++[x]) else 0):=by
     rw[<-ma];refine bN λr hr=>?_;rw[ga r x hr];split;·rw[nj ↥0];grind
     ·grind
    have e2:SR n (λr=>wR (us++[t]) (r++[x])*v (r++[x]))=cR t x*SR n (λr=>wR us r*v (r++[x])):=by rw[<-ma];exact bN λr hr=>by rw[nj ↥0];grind
    rw[e1,e2,ih];grind
   rw[step,step];grind
theorem xB{a:List Int}{k q:Int}:q∈aA.askd a k↔q∈a\/q=k:=by unfold aA.askd;rw[(jP _).mem_iff,Vq];simp
theorem JS{T:List Nd}{l:Int}{x:Nd}(h0:0<=l)(h:T[l.toNat]?=some x):aS T l=x:=by unfold aS;rw[Ur,h];rfl
theorem JT{T:List Nd}{l:Int}(h0:0<=l)(h1:l<(T.length:Int)):∃x,T[l.toNat]?=some x:=⟨_,Um ↥0⟩
theorem j8{T:List Nd}{a:List Bool}{m:Nat}{l:Int}{x:Nd}(h0:0<=l)(h:T[l.toNat]?=some x):rn T a (m+1) l=(x.tie,a.getD x.tie.toNat false)::rn T a m (dI x (a.getD x.tie.toNat false)):=by rw[rn,if_neg ↥0,JS h0 h];rfl
theorem qJ{W:aA}{n:Nat}{S:Nat->Std}{i:Nat}{x:Nd}(h:yZ W n S i x)(b:Bool):nA W n S i x.tie b (dI x b):=by
 cases b;·exact h.no
 ·exact h.yes
theorem Bo{W:aA}{T:List Nd}{S:Nat->Std}(h:be W T S){a:List Bool}{q:Int}{c:Bool}(hq:0<=q):∀(m:Nat) (l:Int),(l=-1\/(0<=l/\l<(T.length:Int)/\q∈(S l.toNat).1))->rn T (a.set q.toNat c) m l=rn T a m l
 |0,_,_=>rfl|m+1,l,hl=>by
  rcases hl with rfl|⟨h0,h1,h2⟩;·rw[jI ⋯,jI ⋯]
  ·obtain⟨x,hx⟩:=JT h0 h1;have nd:=h _ x hx;have ne:x.tie≠q:=λe=>pN nd.may (e▸h2);have t0:=nd.tie.1;have ge:(a.set q.toNat c).getD x.tie.toNat false=a.getD x.tie.toNat false:=by simp only[Ur];rw[UA ↥0]
   rw[j8 h0 hx,j8 h0 hx,ge];congr 1;refine Bo h hq m _ ?_;rcases qJ nd (a.getD x.tie.toNat false) with z|⟨z1,z2,z3⟩;·exact .inl z
   ·refine .inr ⟨z1,z2,?_⟩;rw[z3];exact xB.mpr (.inl h2)
theorem yD{W:aA}(ok:W.Ok){T:List Nd}{S:Nat->Std}(h:be W T S){a:List Bool}:∀(m:Nat) (l:Int),(l=-1\/(0<=l/\l<(T.length:Int)/\W.ties.length<=m+(S l.toNat).1.length))->rn T a (m+1) l=rn T a m l|m,l,.inl hl=>by subst hl;rw[jI ⋯,jI ⋯]|m,l,.inr ⟨h0,h1,h2⟩=>by obtain⟨x,hx⟩:=JT h0 h1;have nd:=h _ x hx;have l1:=(nd.st.nxt true ok nd.tie (pN nd.may)).len;have l2:(nxt W (S l.toNat) x.tie true).1.length=(S l.toNat).1.length+1:=js;cases m with|zero=>lia|succ m=>
 rw[j8 h0 hx,j8 (m:=m) h0 hx];congr 1;refine yD ok h m _ ?_;rcases qJ nd (a.getD x.tie.toNat false) with z|⟨z1,z2,z3⟩;·exact .inl z
 ·refine .inr ⟨z1,z2,?_⟩;rw[z3,show(nxt W (S l.toNat) x.tie (a.getD x.tie.toNat false)).1.length=(S l.toNat).1.length+1 from js];lia
def xF(k:Int)(r:List (Int×Bool)):Rat:=(r.map λp=>if p.1=k then(1:Rat) else 0).sum
def eR(W:aA)(T:List Nd)(k:Int)(m:Nat)(l:Int):Rat:=SR W.ties.length (λa=>wR W.ties a*xF k (rn T a m l))
theorem Ew{W:aA}{T:List Nd}{k:Int}{m:Nat}:eR W T k m (-1)=0:=by unfold eR;refine Eq.trans (bN (g:=λ_=>0) λr _=>?_) sJ;rw[jI ⋯];unfold xF;simp only[Uv,Vt];grind
def gK(k:Int)(x:Nd):Rat:=if x.tie=k then 1 else 0
theorem Hf{W:aA}(ok:W.Ok):∀t∈W.ties,0<t.bot:=λt ht=>by have:=(ok.ties t ht).b0;lia
theorem Kr{W:aA}(ok:W.Ok){T:List Nd}{S:Nat->Std}(h:be W T S){k:Int}{m i:Nat}{x:Nd}(hx:T[i]?=some x):eR W T k (m+1) (i:Int)=gK k x+cR (W.tie x.tie) true*eR W T k m x.yes+cR (W.tie x.tie) false*eR W T k m x.no:=by
 have nd:=h i x hx;have t0:=nd.tie.1;have t1:=nd.tie.2;have hb:=Hf ok;have one:=BF W.ties.length W.ties rfl hb;have part:∀b:Bool,SR W.ties.length (λa=>if a.getD x.tie.toNat false=b then wR W.ties a*xF k (rn T a m (dI x b)) else 0)=cR (W.tie x.tie) b*eR W T k m (dI x b):=λb=>by
  refine B4 W.ties.length W.ties rfl hb x.tie.toNat ↥0 b (λa=>xF k (rn T a m (dI x b))) λr c _=>?_;rw[Bo h t0 m (dI x b) ?_];rcases qJ nd b with z|⟨z1,z2,z3⟩;·exact .inl z
  ·refine .inr ⟨z1,z2,?_⟩;rw[z3];exact xB.mpr (.inr rfl)
 have e:eR W T k (m+1) (i:Int)=SR W.ties.length (λa=>gK k x*wR W.ties a+((if a.getD x.tie.toNat false=true then wR W.ties a*xF k (rn T a m (dI x true)) else 0)+(if a.getD x.tie.toNat false=false then wR W.ties a*xF k (rn T a m (dI x false)) else 0))):=by
  unfold eR;refine bN λa _=>?_;rw[j8 (T:=T) (l:=(i:Int)) (x:=x) ↥0 (by rw[VP];exact hx)];have:xF k ((x.tie,a.getD x.tie.toNat false)::rn T a m (dI x (a.getD x.tie.toNat false)))=gK k x+xF k (rn T a m (dI x (a.getD x.tie.toNat false))):=by unfold xF gK;rw[Uo,UY]
  rw[this];cases a.getD x.tie.toNat false;·rw[if_neg ⋯,if_pos rfl];grind
  ·rw[if_pos rfl,if_neg ⋯];grind
 rw[e,xu,xu,ma,part,part,one];show gK k x*1+(cR (W.tie x.tie) true*eR W T k m x.yes+cR (W.tie x.tie) false*eR W T k m x.no)=_;grind
theorem BV{W:aA}(ok:W.Ok){T:List Nd}{S:Nat->Std}(h:be W T S){k l:Int}(hl:l=-1\/(0<=l/\l<(T.length:Int))):eR W T k 17 l=eR W T k 16 l:=by unfold eR;refine bN λa _=>?_;rw[yD ok h 16 l (by
 rcases hl with z|⟨z1,z2⟩;·exact .inl z
 ·exact .inr ⟨z1,z2,by have:=ok.len;lia⟩)]
theorem Ir{l m:List Int}(hl:l.Nodup)(hm:m.Nodup)(h:∀x,x∈l↔x∈m):l.Perm m:=by induction l generalizing m with
 |nil=>cases m with|nil=>exact .refl _|cons y r=>exact absurd ((h y).mpr ↥1) ↥1
 |cons x r ih=>
  have hx:x∈m:=(h x).mp ↥1;have nd:=VN.mp hl;refine List.Perm.trans (.cons x (ih nd.2 (hm.erase x) λy=>?_)) (YW hx).symm;rw[hm.mem_erase_iff];constructor;·intro hy;exact⟨λe=>nd.1 (e▸hy),(h y).mp (by simp[hy])⟩
  ·rintro⟨ne,hy⟩;rcases TJ ((h y).mpr hy) with e|e;·exact absurd e ne
   ·exact e
def JQ(T:List Nd)(i:Nat):List Int:=(if jc T i true=-1 then[]else[jc T i true])++(if jc T i false=-1 then[]else[jc T i false])
def G8(T:List Nd):Nat->List Int|0=>[]|m+1=>G8 T m++JQ T m
theorem pH{T:List Nd}{i:Nat}{y:Int}:y∈JQ T i↔y≠-1/\∃b,jc T i b=y:=by
 unfold JQ;rw[Vq];constructor
 ·rintro(h|h)
  ·split at h;·cases h
   ·rename_i c;simp at h;subst h;exact⟨c,true,rfl⟩
  ·split at h;·cases h
   ·rename_i c;simp at h;subst h;exact⟨c,false,rfl⟩
 ·rintro⟨ne,b,rfl⟩;cases b;·right;rw[if_neg ne];simp
  ·left;rw[if_neg ne];simp
theorem C9{T:List Nd}(u:y3 T)(i:Nat):(JQ T i).Nodup:=by
 unfold JQ;split;·split<;>simp
 ·rename_i c;split;·simp
  ·simp only[VQ,Ux,VN,Uy,UK,or_false,not_false_eq_true,Yu,and_true];intro e;have:=u i i true false e c;cases this.2
theorem sT{T:List Nd}{y:Int}:∀m,y∈G8 T m↔∃i,i<m/\y∈JQ T i
 |0=>by simp[G8]|m+1=>by
  rw[G8,Vq,sT m];constructor
  ·rintro(⟨i,hi,h⟩|h);·exact⟨i,by lia,h⟩
   ·exact⟨m,by lia,h⟩
  ·rintro⟨i,hi,h⟩;by_cases c:i=m;·subst c;exact .inr h
   ·exact .inl ⟨i,by lia,h⟩
theorem wO{T:List Nd}(u:y3 T):∀m,(G8 T m).Nodup|0=>Yu|m+1=>by rw[G8,Xo];refine⟨wO u m,C9 u m,λa ha b hb e=>?_⟩;subst e;obtain⟨i,hi,hm⟩:=(sT m).mp ha;obtain⟨ne,b1,e1⟩:=pH.mp hm;obtain⟨_,b2,e2⟩:=pH.mp hb;have:=(u i m b1 b2 (by rw[e1,e2]) (by rw[e1];exact ne)).1;lia
theorem E3{T:List Nd}{W:aA}{S:Nat->Std}(h:be W T S)(o:fQ T)(t:en T):(0::G8 T T.length).Perm ((Uu (max 1 T.length)).map Int.ofNat):=by
 have lt:∀i b,jc T i b≠-1->0<jc T i b/\jc T i b<(T.length:Int):=λi b ne=>by cases hx:T[i]? with|none=>exact absurd (cO hx) ne|some x=>
  rw[cu hx]at ne⊢;have r:=(qJ (h i x hx) b).rng;have:=Fm o hx b;rcases this with z|z;·exact absurd z ne
  ·lia
 refine Ir (VN.mpr ⟨λhm=>?_,wO t.1 _⟩) ?_ λy=>?_;·obtain⟨i,_,hi⟩:=(sT _).mp hm;obtain⟨ne,b,e⟩:=pH.mp hi;have:=lt i b (by rw[e];exact ne);lia
 ·exact List.Pairwise.map _ (λa b hab e=>hab (Int.ofNat.inj e)) List.nodup_range
 ·rw[Uy,sT,Wz];constructor
  ·rintro(rfl|⟨i,_,hi⟩);·exact⟨0,by simp;lia,rfl⟩
   ·obtain⟨ne,b,e⟩:=pH.mp hi;have:=lt i b (by rw[e];exact ne);refine⟨y.toNat,by simp;lia,?_⟩;show(y.toNat:Int)=y;lia
  ·rintro⟨j,hj,rfl⟩;by_cases c:j=0;·left;subst c;rfl
   ·right;have hj':j<T.length:=by simp at hj;lia
    obtain⟨i,b,e⟩:=t.2 j ↥0 hj';have ne:jc T i b≠-1:=by rw[e];lia
    have il:i<T.length:=by
     by_cases z:i<T.length;·exact z
     ·exact absurd (cO (Xf ↥0)) ne
    exact⟨i,il,pH.mpr ⟨by show(j:Int)≠-1;lia,b,e⟩⟩
theorem Ov{W:aA}{T:List Nd}{S:Nat->Std}(h:be W T S)(o:fQ T)(t:en T)(hn:0<T.length)(R:Nat->Rat)(U:Int->Rat)(g:Nat->Rat)(p:Nat->Bool->Rat)(U0:U (-1)=0)(hU:∀i,i<T.length->U (i:Int)=g i+(p i true*U (jc T i true)+p i false*U (jc T i false)))(hR:∀i b,jc T i b≠-1->R (jc T i b).toNat=R i*p i b):R 0*U 0=((Uu T.length).map λi=>R i*g i).sum:=by
 have F:∀m,m<=T.length->((Uu m).map λi=>R i*U (i:Int)).sum=((Uu m).map λi=>R i*g i).sum+((G8 T m).map λl=>R l.toNat*U l).sum:=λm=>by induction m with|zero=>intro _;simp only[XW,Uv,Vt,G8];grind|succ m ih=>
  intro hm;have ih:=ih ↥0;rw[List.range_succ,Wq,Wq,lj,lj,ih,G8,Wq,lj];have hu:=hU m ↥0;have e:((JQ T m).map λl=>R l.toNat*U l).sum=R m*p m true*U (jc T m true)+R m*p m false*U (jc T m false):=by
   unfold JQ;rw[Wq,lj];congr 1
   ·split;·rename_i c;rw[c,U0];simp only[Uv,Vt];grind
    ·rename_i c;simp only[Uo,Uv,UY,Vt];rw[hR m true c];grind
   ·split;·rename_i c;rw[c,U0];simp only[Uv,Vt];grind
    ·rename_i c;simp only[Uo,Uv,UY,Vt];rw[hR m false c];grind
  rw[e];simp only[Uo,Uv,UY,Vt];rw[hu];grind
 have f:=F T.length ↥8;have pm:=E3 h o t;rw[Nat.max_eq_right hn]at pm;have s:=DE (pm.map λl=>R l.toNat*U l);rw[UJ,Uo,UY]at s;have e:((Uu T.length).map (XX (λl=>R l.toNat*U l) Int.ofNat)).sum=((Uu T.length).map λi=>R i*U (i:Int)).sum:=rfl;rw[e]at s;have z:R (0:Int).toNat*U 0=R 0*U 0:=rfl;rw[z]at s;grind
def rR(W:aA)(T:List Nd)(i:Nat):Rat:=vR ((aY W T T.length).getD i (1,1))
def pR(W:aA)(T:List Nd)(i:Nat)(b:Bool):Rat:=cR (W.tie (aS T (i:Int)).tie) b
theorem kr{T:List Nd}{i:Nat}{x:Nd}(h:T[i]?=some x):aS T (i:Int)=x:=JS ↥0 (by rw[VP];exact h)
theorem AS(W:aA)(k:Int)(b:Bool):ch W k b=qo (W.tie k) b:=rfl
theorem tD{W:aA}(ok:W.Ok){k:Int}(hk:kc W k):0<(W.tie k).bot:=Hf ok _ (TK hk.get)
theorem IU{W:aA}(ok:W.Ok){T:List Nd}{S:Nat->Std}(h:be W T S)(o:fQ T)(t:en T)(i:Nat)(b:Bool)(ne:jc T i b≠-1):rR W T (jc T i b).toNat=rR W T i*pR W T i b:=by cases hx:T[i]? with|none=>exact absurd (cO hx) ne|some x=>rw[cu hx]at ne⊢;have il:=(TC hx).1;have f:=k9 h o t.1 T.length i il x b hx ne;have one:=(eV.all ok h T.length).one ok h il;unfold rR pR;rw[f,kr hx,AS,uY one.pos (jV (tD ok (h i x hx).tie) b)];rfl
theorem uX{W:aA}(ok:W.Ok){T:List Nd}{S:Nat->Std}(h:be W T S)(o:fQ T)(t:en T)(hn:0<T.length)(U:Int->Rat)(g:Nat->Rat)(U0:U (-1)=0)(hU:∀(i:Nat) (x:Nd),T[i]?=some x->U (i:Int)=g i+cR (W.tie x.tie) true*U x.yes+cR (W.tie x.tie) false*U x.no):U 0=((Uu T.length).map λi=>rR W T i*g i).sum:=by
 have e:=Ov h o t hn (rR W T) U g (pR W T) U0 (λi hi=>by have hx:=Um hi;rw[hU i _ hx,cu hx,cu hx];unfold pR;rw[kr hx];show _=g i+(cR _ true*U (T[i]).yes+cR _ false*U (T[i]).no);grind) (IU ok h o t);have r0:rR W T 0=1:=by unfold rR;rw[qQ o];exact Nx
 rw[r0]at e;grind
theorem Gx{W:aA}(ok:W.Ok){T:List Nd}{S:Nat->Std}(h:be W T S){k:Int}(hk:kc W k):∀m,m<=T.length->vR ((lr W T (aY W T T.length) m).getD k.toNat (0,1))=((Uu m).map λi=>rR W T i*gK k (aS T (i:Int))).sum
 |0,_=>by simp only[XW,Uv,Vt];rw[lr,Ur,Wj];split<;>exact GQ|m+1,hm=>by
  have hx:=Um (show m<T.length by lia);have nd:=h m _ hx;have ih:=Gx ok h hk m ↥0;have hs:=xt.all ok h (eV.all ok h T.length) m;have one:=(eV.all ok h T.length).one ok h (show m<T.length by lia);rw[Bp hx,List.range_succ,Wq,lj,<-ih];simp only[Uo,Uv,UY,Vt];rw[kr hx];unfold J7 gK;have k0:=hk.1;have k1:=hk.2;have t0:=nd.tie.1;have t1:=nd.tie.2;by_cases c:(T[m]).tie=k
  ·rw[if_pos c,c];have kl:k.toNat<(lr W T (aY W T T.length) m).length:=by rw[hs.len];lia
   have sp:0<((lr W T (aY W T T.length) m).getD k.toNat (0,1)).2:=by rw[Ur,Um kl];exact(hs.at' _ _ (Um kl)).pos
   have e:((lr W T (aY W T T.length) m).set k.toNat (pl ((lr W T (aY W T T.length) m).getD k.toNat (0,1)) ((aY W T T.length).getD m (1,1)))).getD k.toNat (0,1)=pl ((lr W T (aY W T T.length) m).getD k.toNat (0,1)) ((aY W T T.length).getD m (1,1)):=by rw[Ur,UW kl];rfl
   rw[e,CG sp one.pos];unfold rR;grind
  ·rw[if_neg c];have e:((lr W T (aY W T T.length) m).set (T[m]).tie.toNat (pl ((lr W T (aY W T T.length) m).getD (T[m]).tie.toNat (0,1)) ((aY W T T.length).getD m (1,1)))).getD k.toNat (0,1)=(lr W T (aY W T T.length) m).getD k.toNat (0,1):=by rw[Ur,UA ↥0,<-Ur]
   rw[e];grind
theorem Gw{W:aA}(ok:W.Ok){T:List Nd}{S:Nat->Std}(h:be W T S)(o:fQ T)(t:en T){k:Int}(hk:kc W k):vR ((lr W T (aY W T T.length) T.length).getD k.toNat (0,1))=eR W T k 17 (rt T):=by
 rw[Gx ok h hk _ ↥8];by_cases c:T.length=0;·rw[show rt T=-1 by unfold rt;rw[if_pos c],Ew,c];simp only[XW,Uv,Vt]
 ·rw[show rt T=0 by unfold rt;rw[if_neg c]];refine(uX ok h o t ↥0 (λl=>eR W T k 17 l) (λi=>gK k (aS T (i:Int))) Ew λi x hx=>?_).symm;have nd:=h i x hx;show eR W T k 17 (i:Int)=_;rw[show(17:Nat)=16+1 from rfl,Kr ok h hx,kr hx];have fy:=BV ok h (k:=k) (l:=x.yes) (by rcases nd.yes with z|⟨z1,z2,_⟩;exact .inl z;exact .inr ⟨z1,z2⟩);have fn:=BV ok h (k:=k) (l:=x.no) (by rcases nd.no with z|⟨z1,z2,_⟩;exact .inl z;exact .inr ⟨z1,z2⟩);rw[<-fy,<-fn]
theorem qZ{a b:Fr}(ha:0<a.2)(hb:0<b.2):0<(tm a b).2:=(nZ.lowM (UO ha hb)).pos
def hR(t:kd):Rat:=cR t true*(t.worth:Rat)
theorem nv{W:aA}(ok:W.Ok){T:List Nd}{S:Nat->Std}(h:be W T S)(o:fQ T)(t:en T):vR ((eA W T T.length++[(0,1)]).getD 0 (0,1))=((Uu T.length).map λi=>rR W T i*hR (W.tie (aS T (i:Int)).tie)).sum:=by
 by_cases c:T.length=0
 ·have e:eA W T T.length=[]:=by apply List.eq_nil_of_length_eq_zero;rw[eU,c]
  rw[e,c];simp only[XW,Uv,Vt];exact GQ
 ·have wl:=eU (W:=W) (T:=T) T.length;have e:(eA W T T.length++[(0,1)]).getD 0 (0,1)=lk (eA W T T.length) 0:=by unfold lk;rw[if_neg ⋯,Ur,UX ↥0,<-Ur];rfl
  rw[e];refine uX ok h o t ↥0 (λl=>vR (lk (eA W T T.length) l)) (λi=>hR (W.tie (aS T (i:Int)).tie)) (by unfold lk;rw[if_pos rfl];exact GQ) λi x hx=>?_;have nd:=h i x hx;have il:=(TC hx).1;have f:=nq (W:=W) o T.length ↥8 i x ↥0 hx;have ws:=n_.all ok h T.length;have py:=(wQ ws nd.yes).pos;have pn:=(wQ ws nd.no).pos;have b0:=tD ok nd.tie;show vR (lk (eA W T T.length) (i:Int))=_;have e2:lk (eA W T T.length) (i:Int)=aw W x.tie (lk (eA W T T.length) x.yes) (lk (eA W T T.length) x.no):=by
   conv=>lhs;unfold lk
   rw[if_neg ↥0,VP,Ur,f];rfl
  rw[e2,kr hx];unfold aw;have pw:0<(((W.tie x.tie).worth,1):Fr).2:=by show(0:Int)<1;decide
  have c1:=jV b0 true;have c2:=jV b0 false;have q1:=(nZ.pl pw py).pos;rw[AS,AS,CG (qZ c1 q1) (qZ c2 pn),uY c1 q1,uY c2 pn,CG pw py,BD];unfold hR cR;grind
structure Pb (O:aA) (ss ws:List Std):Prop where
 len:ss.length=ws.length
 at':∀j,(ss.getD j ([],[])).1=(ws.getD j ([],[])).1/\(ss.getD j ([],[])).2.length<=2*(ss.getD j ([],[])).1.length/\∀k∈(ss.getD j ([],[])).1,kc O k
structure O' (O:aA) (T:List Nd):Prop where
 tie:∀(i:Nat) (x:Nd),T[i]?=some x->kc O x.tie
 lk:∀(i:Nat) (x:Nd),T[i]?=some x->(-1<=x.yes/\x.yes<(T.length:Int))/\(-1<=x.no/\x.no<(T.length:Int))
section
variable{K:⇑0}
variable{X:Cx}{σ:L2.St}{H0 H:Hp}{e:En}
end
section
variable{X:Cx}{a b:TU}{ta:TA}{p p2 pos pos2:Pos}
end
section
variable{X:Cx}{K:⇑0}{fs:FA}{a b:TU}{p p2 pos pos2:Pos}
end
theorem ci:∀(names:List (Str×Vo)) (n:Nat) (acc:List (Str×TM)),UF n names acc=UF n names []++acc
 |[],_,_=>rfl|(x,k)::r,n,acc=>by
  unfold UF;split;·rw[ci r (n+1) ((x,n)::acc),ci r (n+1) [(x,n)],WX];rfl
  ·exact ci r n acc
theorem lC:∀(names:List (Str×Vo)) (n:Nat) (x:Str) (c:TM),(UF n names []).lookup x=some c->∃y∈names,y.1=x/\y.2=.cell
 |[],_,_,_,h=>by simp[UF]at h|(z,k)::r,n,x,c,h=>by
  unfold UF at h;split at h;·rename_i hk;rw[ci,XY]at h;cases q:(UF (n+1) r []).lookup x with|some d=>obtain⟨y,hy,e⟩:=lC r _ x d q;exact⟨y,VW _ hy,e⟩|none=>rw[q]at h;have h':XJ x [(z,n)]=some c:=h;rw[Wa]at h';cases hx:x==z with|true=>exact⟨(z,k),Wr,(by simpa using hx:x=z).symm,by simpa using hk⟩|false=>rw[hx]at h';simp at h'
  ·obtain⟨y,hy,e⟩:=lC r n x c h;exact⟨y,VW _ hy,e⟩
theorem kf:∀(names:List (Str×Vo)) (n:Nat) (x:Str),(∃y∈names,y.1=x/\y.2=.cell)->∃c,(UF n names []).lookup x=some c
 |[],_,_,⟨_,h,_⟩=>by cases h|(z,k)::r,n,x,⟨y,hy,e1,e2⟩=>by
  unfold UF;split;·rename_i hk;rw[ci,XY];cases q:(UF (n+1) r []).lookup x with|some d=>exact⟨d,rfl⟩|none=>
   rcases TJ hy with w|w;·subst w;subst e1;exact⟨n,by simp[Wa]⟩
   ·obtain⟨c,hc⟩:=kf r (n+1) x ⟨y,w,e1,e2⟩;rw[q]at hc;cases hc
  ·rename_i hk;rcases TJ hy with w|w;·subst w;exact absurd (by simpa using e2) hk
   ·exact kf r n x ⟨y,w,e1,e2⟩
theorem wq{env:Env}:∀(names:List (Str×Vo)) (cs:List (Str×TM)) (x:Str),(¬∃y∈names,y.1=x/\y.2=.free)->cs.lookup x=none->(kU env names cs).lookup x=none
 |[],_,_,_,h=>h|(n,k)::r,cs,x,hn,hcs=>by
  refine wq r _ x (λ⟨y,hy,z⟩=>hn ⟨y,VW _ hy,z⟩) ?_;by_cases hk:(k==Vx)=true;·rw[if_pos hk,Wa];cases hx:x==n with|true=>exact absurd ⟨(n,k),Wr,(by simpa using hx:x=n).symm,by simpa using hk⟩ hn|false=>exact hcs
  ·rw[if_neg hk];exact hcs
theorem uD{env:Env}:∀{names:List (Str×Vo)}{x:Str},(names.map fun(n,k)=>if (k==Vx&&env.scope.kind==.function&&env.kindOf n==some .cell) then(n,Xc) else(n,k)).lookup x=some .cell\/(names.map fun(n,k)=>if (k==Vx&&env.scope.kind==.function&&env.kindOf n==some .cell) then(n,Xc) else(n,k)).lookup x=some .free->∃y∈names,y.1=x/\(y.2=.free\/y.2=.cell)
 |[],x,h=>by simp at h|(n,k)::r,x,h=>by
  have ih:=@uD env r x;rw[Uo]at h;cases hx:x==n with|true=>
   have e1:x=n:=by simpa using hx
   subst e1;refine⟨(x,k),Wr,rfl,?_⟩;by_cases q:(k==Vx&&env.scope.kind==.function&&env.kindOf x==some .cell)=true;·simp only[Uw,beq_iff_eq]at q;exact .inl q.1.1
   ·simp only[q,WZ,if_false,Wa,beq_self_eq_true,WJ]at h;exact h.symm|false=>
   have e2:∀(l:List (Str×Vo)),((if (k==Vx&&env.scope.kind==.function&&env.kindOf n==some .cell)=true then(n,Xc) else(n,k))::l).lookup x=l.lookup x:=λl=>by split<;>simp[Wa,hx]
   simp only[e2]at h;obtain⟨y,hy,z⟩:=ih h;exact⟨y,VW _ hy,z⟩
theorem Ce{M:Model}{A:Ud}{E:TL->TQ->Prop}{s:TQ}{scope:Us}{globals:TM}{closure:List (Str×TM)}{qual:Str}{func:Option TM}{code:TL}{env:Env}{builtins:TM}{Q:Env->TQ->Prop}(hQ:∀h',h'.Ns ↑s (λ_=>none)->(∀b o,s.heap.get? b=some o->h'.get? b=some o)->(∀n c,(UF (↑s+1) scope.names []).lookup n=some c->h'.IsCell c none/\↑s+1<=c)->((UF (↑s+1) scope.names []).Pairwise λx y=>x.2≠y.2)->Q (newEnv scope ↑s globals (UF (↑s+1) scope.names closure) qual func code (some env) builtins) {s with heap:=h'}):TY M A (newFunctionEnv scope globals closure [] qual func code (some env) builtins) Q E s:=by simp only[newFunctionEnv,Option.isSome_some,if_true];refine TV (wpAny_alloc ?_);refine TV (wpAny_layCells _ (λname kind cells=>by cases hkc:kind==Xc<;>simp[hkc]) _ _ _ _ ?_);have ok:=cellsFrom_ok scope.names (s.heap.push {cls:=.type "dict",data:=.dict #[]}) (↑s+1) [] ⟨λ_ _ hm=>(nomatch hm),List.Pairwise.nil⟩ (by rw[VI];exact VA _);rw[VI]at ok;rw[show({s with heap:=s.heap.push {cls:=.type "dict",data:=.dict #[]}}:TQ).heap.objs.size=↑s+1 from VI ..];refine TV ?_;rw[List.forIn_nil];refine Uh (Uh ?_);exact hQ _ ((Heap.Ns.new s.heap (.type "dict")).keeps (pushCells_keeps _ _)) (λb o e=>pushCells_keeps _ _ b o (UC _ e)) (λn c e=>ok.empty n c (mem_of_lookup e)) ok.apart
def ar(X:Cx)(scope:Us)(cp:List (Nat×Str))(tgN:List Str)(C:TM)(s0:TQ)(H0:Hp)(fp:List TM):Cx where prog:=X.prog;w:=X.w;K:=X.K;mg:=X.mg;base:=X.base;A:=X.A;N:=cp.map (·.2)++tgN;s₀:=s0;H₀:=H0;env:=compEnvC scope (UF (C+1) scope.names (kU X.env scope.names [])) C X.env;outer:=X.stack;stack:=X.stack;ex:=fp;fn:=λx=>scope.names.lookup x==some .local||scope.names.lookup x==some .cell;calm:=X.calm;pn:=[];xe:=λ_ _=>False
theorem ww{X:Cx}{scope:Us}{sc0:Us}{N0:List Str}{cp:List (Nat×Str)}{tgN:List Str}{pins:List (TM×Obj)}{σ:L2.St}{H3:Hp}{s₃:TQ}{C:TM}{h₁:Ua}{fp:List TM}(hsc:X.env.scope=sc0)(hN0:X.N=N0)(hk:scope.kind=.function)(hown:∀y∈scope.names,y.2=.cell->scope.names.lookup y.1=some .cell)(hfr:∀y∈scope.names,y.2=.free->scope.names.lookup y.1=some .free/\sc0.names.lookup y.1=some .cell)(hcp:∀p∈cp,N0[p.1]?=some p.2)(hcq:∀p∈cp,sc0.names.lookup p.2=some .cell/\scope.names.lookup p.2=some .free)(I3:aM X pins σ H3 s₃)(f3:∀b∈fp,jS X pins H3 b)(hob:∀b∈fp,∃o,s₃.heap.get? b=some o)(hC:↑s₃=C)(hns₁:h₁.Ns C (λ_=>none))(old:∀b o,s₃.heap.get? b=some o->h₁.get? b=some o)(hownC:∀n c,(UF (C+1) scope.names []).lookup n=some c->h₁.IsCell c none/\C+1<=c)(apC:(UF (C+1) scope.names []).Pairwise λx y=>x.2≠y.2):(ar X scope cp tgN C s₃ H3 fp).Ok/\aM (ar X scope cp tgN C s₃ H3 fp) [] (ji cp tgN.length σ) H3 {s₃ with heap:=h₁}:=by
 have hkind:∀x,X.env.kindOf x=sc0.names.lookup x:=λx=>by unfold Env.kindOf;rw[hsc]
 have hfree:∀y∈scope.names,y.2=.free->∃c,X.env.cells.lookup y.1=some c:=λy hy e=>I3.ok.has y.1 (.inl (by rw[hkind];exact(hfr y hy e).2));have nC:∀b o,s₃.heap.get? b=some o->b≠C:=λb o e=>by rw[<-hC];exact Vf (Up e)
 have hHC:H3 C=none:=I3.hok.fresh (by rw[hC];exact VA _);have clS:∀x c,(kU X.env scope.names []).lookup x=some c->X.env.cells.lookup x=some c:=λx c e=>tP _ _ x c hfree (λ_ _ z=>by simp at z) e;have clH:∀x,(∃y∈scope.names,y.1=x/\y.2=.free)->∃c,(kU X.env scope.names []).lookup x=some c:=λx e=>zc _ _ x (.inl e);have clN:∀x,(¬∃y∈scope.names,y.1=x/\y.2=.free)->(kU X.env scope.names []).lookup x=none:=λx q=>wq _ _ x q rfl;have two:∀x c,(UF (C+1) scope.names (kU X.env scope.names [])).lookup x=some c->(UF (C+1) scope.names []).lookup x=some c\/(kU X.env scope.names []).lookup x=some c:=λx c e=>by rw[ci,XY]at e;cases q:(UF (C+1) scope.names []).lookup x with|some d=>rw[q]at e;exact .inl e|none=>rw[q]at e;exact .inr e
 have ltC:∀x c,(kU X.env scope.names []).lookup x=some c->c<C:=λx c e=>by obtain⟨v,o,ho,_⟩:=I3.cell x c (clS x c e);rw[<-hC];exact Up ho
 have clF:∀x,(∃y∈scope.names,y.1=x/\y.2=.free)->(UF (C+1) scope.names (kU X.env scope.names [])).lookup x=(kU X.env scope.names []).lookup x:=λx⟨y,hy,e1,e2⟩=>by rw[ci,XY];cases q:(UF (C+1) scope.names []).lookup x with|none=>rfl|some d=>exfalso;obtain⟨z,hz,z1,z2⟩:=lC scope.names _ x d q;have a1:=hown z hz z2;have a2:=(hfr y hy e2).1;rw[z1]at a1;rw[e1,a1]at a2;cases a2
 have hasC:∀x,(∃y∈scope.names,y.1=x/\(y.2=.free\/y.2=.cell))->∃c,(UF (C+1) scope.names (kU X.env scope.names [])).lookup x=some c:=λx⟨y,hy,e1,e2⟩=>by
  rcases e2 with e2|e2;·rw[clF x ⟨y,hy,e1,e2⟩];exact clH x ⟨y,hy,e1,e2⟩
  ·rw[ci,XY];obtain⟨c,hc⟩:=kf scope.names (C+1) x ⟨y,hy,e1,e2⟩;exact⟨c,by rw[hc];rfl⟩
 have ok':(ar X scope cp tgN C s₃ H3 fp).Ok:=by
  refine⟨I3.ok.mod,hk,I3.ok.glob,I3.ok.blt,by rw[<-hC];exact VA _,λx y c e1 e2=>?_,λx e=>hasC x (uD e),λx c e1 e2=>?_,I3.ok.hd,I3.ok.frames,.inl rfl,λb hb=>?_,λb o e=>I3.bs b o e,?_,λb o e hb=>?_,λb hb z=>?_,I3.stack,λb hb=>I3.stkFree b hb⟩
  ·rcases two x c e1 with e1|e1<;>rcases two y c e2 with e2|e2;·exact name_of_addr apC (mem_of_lookup e1) (mem_of_lookup e2)
   ·exact(VV _ (Nat.lt_trans (ltC y c e2) (hownC x c e1).2)).elim
   ·exact(VV _ (Nat.lt_trans (ltC x c e1) (hownC y c e2).2)).elim
   ·exact I3.ok.inj x y c (clS _ _ e1) (clS _ _ e2)
  ·rcases two x c e2 with e2|e2;·show↑s₃<=c;rw[hC];exact Nat.le_of_succ_le (hownC x c e2).2
   ·exfalso;have e1':scope.names.lookup x=some .local\/scope.names.lookup x=some .cell:=by simpa[ar]using e1
    by_cases q:∃y∈scope.names,y.1=x/\y.2=.free;·obtain⟨y,hy,y1,y2⟩:=q;have z:=(hfr y hy y2).1;rw[y1]at z;rcases e1' with w|w<;>(rw[z]at w;cases w)
    ·rw[clN x q]at e2;cases e2
  ·obtain⟨f0,f1,f4,f5,f6,f7⟩:=f3 b hb;obtain⟨o,ho⟩:=hob b hb;exact⟨nC b o ho,λx c e=>(two x c e).elim (λe z=>absurd (hownC x c e).2 (by rw[z,<-hC];exact Nat.not_le.mpr (Nat.lt_succ_of_lt (Up ho)))) (λe=>f6 x c (clS x c e))⟩
  ·exact UN I3.ok.bsz I3.sz
  ·obtain⟨f0,f1,f4,f5,f6,f7⟩:=f3 b hb;rcases f5 with z|z;·exact I3.ok.noex b o e z
   ·have:=(I3.ok.bs b o e).1;exact absurd (UU (Up this) z) (VV _)
  ·obtain⟨f0,f1,f4,f5,f6,f7⟩:=f3 b hb;rcases TJ (I3.stkSub b z) with z|z;·exact f1 z
   ·exact f4 z
 have I4:aM (ar X scope cp tgN C s₃ H3 fp) [] (ji cp tgN.length σ) H3 {s₃ with heap:=h₁}:=by
  refine⟨ok',rfl,I3.bare,Un.kept old,⟨_,hns₁,λi x v e1 e2 e3=>?_⟩,λx c e=>?_,hHC,λx c e=>(two x c e).elim (λe=>I3.hok.fresh (by rw[hC];exact Nat.le_of_succ_le (hownC x c e).2)) (λe=>I3.freeC x c (clS x c e)),λp hp=>by simp[ar]at hp,I3.hok.kept old,by simp[ji,ar]⟩
  ·have hlt:i<cp.length:=by
    by_cases q:i<cp.length;·exact q
    ·exfalso;unfold ji at e2;rw[XD ↥7]at e2;rw[Wj]at e2;split at e2<;>cases e2
   have e1':(cp.map (·.2))[i]?=some x:=by have e1'':(cp.map (·.2)++tgN)[i]?=some x:=e1;rwa[UX (by simp;exact hlt)]at e1''
   have e2':(cp.map (λp=>(σ[p.1]?).join))[i]?=some (some v):=by unfold ji at e2;rwa[UX (by simp;exact hlt)]at e2
   rw[Ut,Um hlt]at e1' e2';have ex:(cp[i]).2=x:=by simpa using e1'
   have ev:(σ[(cp[i]).1]?).join=some v:=by simpa using e2'
   have ev':σ[(cp[i]).1]?=some (some v):=by cases q:σ[(cp[i]).1]? with|none=>rw[q]at ev;cases ev|some z=>rw[q]at ev;simp only[Option.join_some]at ev;rw[ev]
   have hN:=hcp cp[i] (Xd hlt);rw[<-hN0]at hN;obtain⟨hcl,hcf⟩:=hcq cp[i] (Xd hlt);rw[ex]at hN hcl hcf;obtain⟨m,hn,hl⟩:=I3.loc;obtain⟨u,r,l⟩:=hl _ x v hN ev' (.inr (.inl (by rw[hsc];exact hcl)));refine⟨u,r,.inr ?_⟩;rcases l with⟨k1,_⟩|⟨k1,c,hcc,o,ho,hd⟩;·rw[hkind,hcl]at k1;cases k1
   ·have e3':(relabel scope X.env).names.lookup x=some .local\/(relabel scope X.env).names.lookup x=some .cell\/(relabel scope X.env).names.lookup x=some .free:=e3;have nl:(relabel scope X.env).names.lookup x=some .cell\/(relabel scope X.env).names.lookup x=some .free:=by
     rcases e3' with z|z|z;·exact absurd z (lW hcf)
     ·exact .inl z
     ·exact .inr z
    have fr:∃y∈scope.names,y.1=x/\y.2=.free:=⟨(x,.free),mem_of_lookup hcf,rfl,rfl⟩;obtain⟨c',hc'⟩:=clH x fr;have:=clS x c' hc';rw[hcc]at this;cases this;exact⟨nl,c,(clF x fr).trans hc',o,old c o ho,hd⟩
  ·rcases two x c e with e|e;·exact⟨none,(hownC x c e).1⟩
   ·obtain⟨v,o,ho,hd⟩:=I3.cell x c (clS x c e);exact⟨v,o,old c o ho,hd⟩
 exact⟨ok',I4⟩
theorem wy{X:Cx}{scope:Us}{cp:List (Nat×Str)}{tgN:List Str}{pins:List (TM×Obj)}{σ σ5:L2.St}{H3 H5:Hp}{s₃ s6:TQ}{C:TM}{fp:List TM}(I3:aM X pins σ H3 s₃)(f3:∀b∈fp,jS X pins H3 b)(nC:∀b o,s₃.heap.get? b=some o->b≠C)(I6:aM (ar X scope cp tgN C s₃ H3 fp) [] σ5 H5 s6)(h':Ua)(sb:WB C s6.heap h'):aM X pins σ H5 {s6 with heap:=h'}:=by
 have ub:=I6.base;have kp:∀b u,b≠C->s6.heap.get? b=some u->h'.get? b=some u:=λb u ne e=>sb.extBut b u ne e;have nit:∀b u,H5 b=some u->b≠C:=λb u e z=>by have:=I6.free;rw[z]at e;rw[show H5 C=none from this]at e;cases e
 refine I3.call' (s':={s6 with heap:=h'}) (ch:=fp) I6.os ⟨λb o e n hb hx=>kp b o (nC b o e) (ub.keep b o e n hb hx),λb o e n hb hx=>?_,ub.free,λb o e hx=>?_,ub.tups,ub.frzs,ub.tbls⟩ (λb u e=>?_) I6.bare (λb hb=>?_);·obtain⟨sl,q⟩:=ub.slot b o e n hb hx;exact⟨sl,kp b _ (nC b o e) q⟩
 ·obtain⟨o',q⟩:=ub.there b o e hx;exact⟨o',kp b _ (nC b o e) q⟩
 ·refine(I6.hok b u e).stay (λc v hc q=>kp c v ?_ q) (λ_ q=>q) λ_ _ q=>q;rcases hc with z|z;·rw[z];exact nit b u e
  ·exact nit c _ z
 ·obtain⟨f0,f1,f4,f5,f6,f7⟩:=f3 b hb;exact⟨f5,f1,f6,f7⟩
theorem zi{X:Cx}{use:Option (TL->Sem Unit)}{RR:TL->TQ->Prop}{pins:List (TM×Obj)}{s:TQ}{σ:L2.St}{H:Hp}{Q:VK}{elt iter tg:TU}{ifs:List TU}{scope:Us}{pos:Pos}{wi:TI}{g:TG}{tc:TT}{te:TE}(sc0:Us)(N0:List Str)(cp:List (Nat×Str))(tgN:List Str)(hc:X.calm=true)(hsc:X.env.scope=sc0)(hN0:X.N=N0)(hi:PI X tg iter wi)(hg:∀C s0 H0 fp,PG (ar X scope cp tgN C s0 H0 fp) tg g)(ht:∀C s0 H0 fp,tJ (ar X scope cp tgN C s0 H0 fp) ifs tc)(he:∀C s0 H0 fp,PE (ar X scope cp tgN C s0 H0 fp) elt te)(hk:scope.kind=.function)(hown:∀y∈scope.names,y.2=.cell->scope.names.lookup y.1=some .cell)(hnames:∀y∈scope.names,y.2=.local->scope.names.lookup y.1=some .local)(hfr:∀y∈scope.names,y.2=.free->scope.names.lookup y.1=some .free/\sc0.names.lookup y.1=some .cell)(hcp:∀p∈cp,N0[p.1]?=some p.2)(hcq:∀p∈cp,sc0.names.lookup p.2=some .cell/\scope.names.lookup p.2=some .free)(hs:∀x,Va iter X.env x=pure x)(I:aM X pins σ H s)(h:Cy cp tgN.length wi g tc te σ H Q)(fin:∀(C D:TM) (H5:Hp) (s6:TQ),(∃m,s6.heap.Ns C m)->Q (.ref D) H5->jS X pins H5 C->(∀h',WB C s6.heap h'->aM X pins σ H5 {s6 with heap:=h'})->compPost (TZ X.prog X.w) X.A X.xe use RR (.ref D) C (.ok .next) s6):TY (TZ X.prog X.w) X.A (comprehension (.ListComp elt [⟨tg,iter,ifs,0⟩] scope pos) scope X.env (firstIterPos [⟨tg,iter,ifs,0⟩] pos) (newList []) (firstAsync [⟨tg,iter,ifs,0⟩]) (firstIter [⟨tg,iter,ifs,0⟩] X.env) use) RR X.xe s:=by
 have hkind:∀x,X.env.kindOf x=sc0.names.lookup x:=λx=>by unfold Env.kindOf;rw[hsc]
 have hfree:∀y∈scope.names,y.2=.free->∃c,X.env.cells.lookup y.1=some c:=λy hy e=>I.ok.has y.1 (.inl (by rw[hkind];exact(hfr y hy e).2));refine wpAny_comprehension_free (use:=use) rfl hs (tQ hfree) hk hnames (UE (hi pins s σ H _ I h.go) (λxv s₁ h₁=>UE h₁ (λitv s₂ h₂=>?_) λ_ _ e=>e) λ_ _ e=>e);obtain⟨it,fp,tn,J,H2,rfl,I2,T,st2,f2,hq⟩:=h₂;refine VY ?_;have hlF:H2 ↑s₂=none:=I2.hok.fresh ↥8;have I3:aM X pins σ (cg H2 ↑s₂ (.lst [])) {s₂ with heap:=s₂.heap.push {cls:=.type "list",data:=.seq ([]:List TL).toArray}}:=I2.lnew (t':=s₂.toks) .nil (Wv _);obtain⟨W,⟨m0,w0⟩,turn⟩:=hq _ hlF;have f3:∀b∈fp,jS X pins (cg H2 ↑s₂ (.lst [])) b:=λb hb=>by obtain⟨f0,fr⟩:=f2 b hb;obtain⟨o,ho,_⟩:=T.obj _ _ st2 b hb;exact⟨by rw[aJ (Vf (Up ho))];exact f0,fr⟩
 have st3:tn 0 (s₂.heap.push {cls:=.type "list",data:=.seq ([]:List TL).toArray}):=T.keep _ _ _ st2 λb _ o e=>UC _ e;generalize hD:↑s₂=D at*;generalize hs3:({s₂ with heap:=s₂.heap.push {cls:=.type "list",data:=.seq ([]:List TL).toArray}}:TQ)=s₃ at*;have hst3:tn 0 s₃.heap:=by rw[<-hs3];exact st3
 refine Ce (λh₁ hns₁ old hownC apC=>?_);generalize hC:↑s₃=C at*;have nC:∀b o,s₃.heap.get? b=some o->b≠C:=λb o e=>by rw[<-hC];exact Vf (Up e)
 obtain⟨ok',I4⟩:=ww (cp:=cp) (tgN:=tgN) hsc hN0 hk hown hfr hcp hcq I3 f3 (λb hb=>let⟨o,e,_⟩:=T.obj _ _ hst3 b hb;⟨o,e⟩) hC hns₁ old hownC apC;have hst4:tn 0 h₁:=T.keep _ _ _ hst3 λb _ o e=>old b o e;have loop:VE (TZ X.prog X.w) X.A (.compLoop (.ListComp elt [⟨tg,iter,ifs,0⟩] scope pos) 0 (.ref it) (.ref D) (compEnvC scope (UF (C+1) scope.names (kU X.env scope.names [])) C X.env)) (compPost (TZ X.prog X.w) X.A X.xe use RR (.ref D) C) {s₃ with heap:=h₁}:=by
  refine xG (λn s'=>∃i σ' H',aM (ar X scope cp tgN C s₃ (cg H2 D (.lst [])) fp) [] σ' H' s'/\tn i s'.heap/\(∀b∈fp,H' b=none)/\W i n σ' H') ?_ (n0:=m0) ⟨0,_,_,I4,hst4,λb hb=>(f3 b hb).1,w0⟩;rintro n s5⟨i,σ5,H5,I5,st5,fr5,w5⟩;have stat:∀{H':Hp},(∀b∈fp,H' b=none)->∀b∈fp,jS (ar X scope cp tgN C s₃ (cg H2 D (.lst [])) fp) [] H' b:=λhn b hb=>⟨hn b hb,(ok'.exf b hb).1,ok'.exfs b hb,.inl hb,(ok'.exf b hb).2,λp hp=>by simp[ar]at hp⟩;rcases turn i n σ5 H5 w5 with⟨stop,qn⟩|⟨go,N,hN,step⟩;·refine dn (T.done (ar X scope cp tgN C s₃ (cg H2 D (.lst [])) fp) rfl rfl rfl hc i [] s5 σ5 H5 (λ_ _=>False) I5 (stat fr5) st5 stop) λr s6⟨hr,I6⟩=>?_;subst hr;refine⟨λ_=>?_,λv z=>by cases z⟩;obtain⟨m,hn,_⟩:=I6.loc;exact fin C D H5 s6 ⟨m,hn⟩ qn (I3.fpOk (by rw[hC];exact VA _) I6.free) (wy I3 f3 nC I6)
  ·refine dn (T.item (ar X scope cp tgN C s₃ (cg H2 D (.lst [])) fp) rfl rfl rfl hc i [] s5 σ5 H5 (λ_ _=>False) I5 (stat fr5) st5 go) λr s6⟨u,hr,h6⟩=>?_;subst hr;refine⟨λz=>(by cases z),λv z=>?_⟩;cases z;refine dn h6 λ_ s7⟨x,H7,I7,r7,y7,st7,fr7⟩=>?_;have I7':=I7.pinned (stat fr7) (T.obj _ _ st7);have again:∀{σ8:L2.St}{H8:Hp}{s8:TQ},aM (ar X scope cp tgN C s₃ (cg H2 D (.lst [])) fp) ([]++oJ fp s7.heap) σ8 H8 s8->N σ8 H8->∃m,m<n/\∃i σ' H',aM (ar X scope cp tgN C s₃ (cg H2 D (.lst [])) fp) [] σ' H' s8/\tn i s8.heap/\(∀b∈fp,H' b=none)/\W i m σ' H':=fun{σ8 H8 s8}I8 n8=>by obtain⟨m',hm,w8⟩:=hN σ8 H8 n8;refine⟨m',hm,i+1,σ8,H8,I8.unpinned,T.keep _ _ _ st7 λb hb o e=>(I8.pin (b,o) (UR _ (UR _ (dO hb e)))).1,λb hb=>?_,w8⟩;obtain⟨o,e,d⟩:=T.obj _ _ st7 b hb;exact(I8.pin (b,o) (UR _ (UR _ (dO hb e)))).2.1
   refine dn (hg C s₃ (cg H2 D (.lst [])) fp _ s7 σ5 H7 x u _ I7' r7 (step x H7 y7)) λ_ s8⟨σ8,H8,I8,q8⟩=>?_;refine dn (ht C s₃ (cg H2 D (.lst [])) fp _ s8 σ8 H8 _ I8 q8) λok s9⟨H9,I9,q9⟩=>?_;cases ok with|false=>rw[if_neg Vw]at q9⊢;exact again I9 q9|true=>rw[if_pos rfl]at q9⊢;refine dn (he C s₃ (cg H2 D (.lst [])) fp _ s9 σ8 H9 _ I9 q9) λv s10⟨xv,H10,I10,r10,ys,hl,hz,n10⟩=>?_;refine dn (nc _ s10 σ8 H10 (.ref D) [xv] (.ref D) [v] (λ_ H=>N σ8 H) I10 rfl (.cons r10 .nil) ⟨D,ys,xv,rfl,rfl,hl,hz,n10⟩) λ_ s11⟨_,H11,I11,_,q11⟩=>?_;exact again I11 q11
 exact codeAny_compStart_list loop (T.self X.A 0 _ _ _ hst4 loop)
theorem Fs{X:Cx}{elt iter tg:TU}{ifs:List TU}{scope:Us}{pos:Pos}{wi:TI}{g:TG}{tc:TT}{te:TE}(sc0:Us)(N0:List Str)(cp:List (Nat×Str))(tgN:List Str)(hc:X.calm=true)(hsc:X.env.scope=sc0)(hN0:X.N=N0)(hi:PI X tg iter wi)(hg:∀C s0 H0 fp,PG (ar X scope cp tgN C s0 H0 fp) tg g)(ht:∀C s0 H0 fp,tJ (ar X scope cp tgN C s0 H0 fp) ifs tc)(he:∀C s0 H0 fp,PE (ar X scope cp tgN C s0 H0 fp) elt te)(hk:scope.kind=.function)(hown:∀y∈scope.names,y.2=.cell->scope.names.lookup y.1=some .cell)(hnames:∀y∈scope.names,y.2=.local->scope.names.lookup y.1=some .local)(hfr:∀y∈scope.names,y.2=.free->scope.names.lookup y.1=some .free/\sc0.names.lookup y.1=some .cell)(hcp:∀p∈cp,N0[p.1]?=some p.2)(hcq:∀p∈cp,sc0.names.lookup p.2=some .cell/\scope.names.lookup p.2=some .free)(hs:∀x,Va iter X.env x=pure x:=by intro _;rfl):PE X (.ListComp elt [⟨tg,iter,ifs,0⟩] scope pos) (Cy cp tgN.length wi g tc te):=by intro pins s σ H Q I h;rw[eval_ListComp];exact zi sc0 N0 cp tgN hc hsc hN0 hi hg ht he hk hown hnames hfr hcp hcq hs I h λC D H5 s6⟨m,hn⟩q _ key=>⟨m,hn,λh' sb=>⟨.ref D,H5,key h' sb,rfl,q⟩⟩
def CT(sc0 scope:Us)(N0:List Str)(cp:List (Nat×Str))(W:List Nat):Bool:=(scope.names.all λy=>(!(y.2==.local)||scope.names.lookup y.1==some .local)&&(!(y.2==.cell)||scope.names.lookup y.1==some .cell)&&(!(y.2==.free)||(scope.names.lookup y.1==some .free&&sc0.names.lookup y.1==some .cell)))&&(cp.all λp=>N0[p.1]?==some p.2&&sc0.names.lookup p.2==some .cell&&scope.names.lookup p.2==some .free)&&decide ((cp.map (·.1)).Nodup)&&W.all λj=>decide (cp.length<=j)
theorem sQ{sc0 scope:Us}{N0:List Str}{cp:List (Nat×Str)}{W:List Nat}(hch:CT sc0 scope N0 cp W=true):(∀y∈scope.names,y.2=.cell->scope.names.lookup y.1=some .cell)/\(∀y∈scope.names,y.2=.local->scope.names.lookup y.1=some .local)/\(∀y∈scope.names,y.2=.free->scope.names.lookup y.1=some .free/\sc0.names.lookup y.1=some .cell)/\(∀p∈cp,N0[p.1]?=some p.2)/\(∀p∈cp,sc0.names.lookup p.2=some .cell/\scope.names.lookup p.2=some .free)/\(cp.map (·.1)).Nodup/\∀j∈W,cp.length<=j:=by
 simp only[CT,Uw,Vd,decide_eq_true_eq]at hch;obtain⟨⟨⟨h1,h2⟩,h3⟩,h4⟩:=hch;refine⟨λy hy e=>?_,λy hy e=>?_,λy hy e=>?_,λp hp=>?_,λp hp=>?_,h3,h4⟩;·have:=(h1 y hy).1.2;rw[e]at this;simpa using this
 ·have:=(h1 y hy).1.1;rw[e]at this;simpa using this
 ·have:=(h1 y hy).2;rw[e]at this;simpa using this
 ·have:=(h2 p hp).1.1;simpa using this
 ·have a:=(h2 p hp).1.2;have c:=(h2 p hp).2;exact⟨by simpa using a,by simpa using c⟩
theorem cY{X:Cx}{K:⇑0}{pos:Pos}{elt iter tg:TU}{ifs:List TU}{scope:Us}{fi:FI}{g:FG}{ft:FT}{fe:FE}{W:List Nat}(cp:List (Nat×Str))(tgN:List Str)(hKx:X.K=K)(hc:X.calm=true)(hi:PI X tg iter (fI K fi))(hg:∀C s0 H0 fp,PG (ar X scope cp tgN C s0 H0 fp) tg (fG K g W))(ht:∀C s0 H0 fp,tJ (ar X scope cp tgN C s0 H0 fp) ifs (fT K ft))(he:∀C s0 H0 fp,PE (ar X scope cp tgN C s0 H0 fp) elt (fE K fe))(hk:scope.kind=.function)(hch:CT X.env.scope scope X.N cp W=true)(hs:∀x,Va iter X.env x=pure x):PE X (.ListComp elt [⟨tg,iter,ifs,0⟩] scope pos) (fE K (bD cp tgN.length fi g ft fe)):=by subst hKx;obtain⟨h0,h1,h2,h3,h4,h5,h6⟩:=sQ hch;exact(Fs X.env.scope X.N cp tgN hc rfl rfl hi hg ht he hk h0 h1 h2 h3 h4 hs).mono λ_ _ _ h=>AA h5 h6 h
open PySem PySem.Spec PyProof.Rows PySem.W
structure NS (lt:Nat->Nat->Bool):Prop where
 irr:∀i,lt i i=false
 tr:∀{i j k},lt i j=false->lt j k=false->lt i k=false
 asy:∀{i j},lt i j=true->lt j i=false
abbrev gA(p:Array Nat)(i:Nat):Nat:=p.getD i 0
structure Pa (n:Nat) (p:Array Nat):Prop where
 sz:p.size=n
 pm:p.Perm (List.toArray (Uu n))
section
variable{lt:Nat→Nat→Bool}{n:Nat}(O:NS lt)
include O
end
open PySem PySem.Spec PyProof.Rows PySem.W
section
variable{prog:Uc}{w:TX}{A:Ud}{E:TL->TQ->Prop}{s:TQ}
end
open PySem PySem.Spec PyProof.Rows PySem.W
section
variable{X:Cx}{K:⇑0}
end
section
variable{X:Cx}{K:⇑0}
variable{o a:TU}{es:List TU}{fo:FE}{fs:FA}{apos cpos:Pos}
end
theorem zY{X:Cx}{ix:Nat}{nm:Str}{posn poss:Pos}{elt iter tg:TU}{ifs:List TU}{scope:Us}{pos:Pos}{wi:TI}{g:TG}{tc:TT}{te:TE}(sc0:Us)(N0:List Str)(cp:List (Nat×Str))(tgN:List Str)(hc:X.calm=true)(hsc:X.env.scope=sc0)(hN0:X.N=N0)(hi:PI X tg iter wi)(hg:∀C s0 H0 fp,PG (ar X scope cp tgN C s0 H0 fp) tg g)(ht:∀C s0 H0 fp,tJ (ar X scope cp tgN C s0 H0 fp) ifs tc)(he:∀C s0 H0 fp,PE (ar X scope cp tgN C s0 H0 fp) elt te)(hk:scope.kind=.function)(hown:∀y∈scope.names,y.2=.cell->scope.names.lookup y.1=some .cell)(hnames:∀y∈scope.names,y.2=.local->scope.names.lookup y.1=some .local)(hfr:∀y∈scope.names,y.2=.free->scope.names.lookup y.1=some .free/\sc0.names.lookup y.1=some .cell)(hcp:∀p∈cp,N0[p.1]?=some p.2)(hcq:∀p∈cp,sc0.names.lookup p.2=some .cell/\scope.names.lookup p.2=some .free)(hNd:X.N.Nodup)(hix:X.N[ix]?=some nm)(hlc:X.env.scope.names.lookup nm=some .local)(hsw:Ws (.ListComp elt [⟨tg,iter,ifs,0⟩] scope pos) (some (.Name nm posn)) poss.line X.env=pure true)(hs:∀x,Va iter X.env x=pure x:=by intro _;rfl):PS X (.Assign [.Name nm posn] (.ListComp elt [⟨tg,iter,ifs,0⟩] scope pos) poss) (Jb (Cy cp tgN.length wi g tc te) (BZ ix)):=by intro pins s σ H D0 I h;rw[exec_Assign_Name_used _ _ _ _ hsw];refine TV (Wi (TV ?_));unfold evalThenUse;exact TV (zi sc0 N0 cp tgN hc hsc hN0 hi hg ht he hk hown hnames hfr hcp hcq hs I h (zm hNd hix hlc))
theorem lL{X:Cx}{K:⇑0}{pos:Pos}{ix:Nat}{nm:Str}{posn poss:Pos}{elt iter tg:TU}{ifs:List TU}{scope:Us}{fi:FI}{g:FG}{ft:FT}{fe:FE}{W:List Nat}(cp:List (Nat×Str))(tgN:List Str)(hKx:X.K=K)(hc:X.calm=true)(hi:PI X tg iter (fI K fi))(hg:∀C s0 H0 fp,PG (ar X scope cp tgN C s0 H0 fp) tg (fG K g W))(ht:∀C s0 H0 fp,tJ (ar X scope cp tgN C s0 H0 fp) ifs (fT K ft))(he:∀C s0 H0 fp,PE (ar X scope cp tgN C s0 H0 fp) elt (fE K fe))(hk:scope.kind=.function)(hch:CT X.env.scope scope X.N cp W=true)(hNd:X.N.Nodup)(hix:X.N[ix]?=some nm)(hlc:X.env.scope.names.lookup nm=some .local)(hsw:Ws (.ListComp elt [⟨tg,iter,ifs,0⟩] scope pos) (some (.Name nm posn)) poss.line X.env=pure true)(hs:∀x,Va iter X.env x=pure x):PS X (.Assign [.Name nm posn] (.ListComp elt [⟨tg,iter,ifs,0⟩] scope pos) poss) (fS K (a8 ix (bD cp tgN.length fi g ft fe)) [ix]):=by subst hKx;obtain⟨h0,h1,h2,h3,h4,h5,h6⟩:=sQ hch;exact(zY X.env.scope X.N cp tgN hc rfl rfl hi hg ht he hk h0 h1 h2 h3 h4 hNd hix hlc hsw hs).mono λD σ H h=>by obtain⟨F,e,fl,R,hf,q⟩:=h;unfold a8 at hf;obtain⟨⟨r,e1⟩,hh1,hf⟩:=Tz hf;obtain⟨e2,hh2,hf⟩:=TB hf;cases hf;refine AA h5 h6 ⟨F,e,r,e1,R,hh1,λF1 H1 v X1 R1 A1=>?_⟩;obtain⟨x,R2⟩:=Bn R X1 R1 A1 hh2;exact q F1 H1 _ x R2
section
variable{X:Cx}{K:⇑0}{σ σ2:L2.St}{H0 F H F2 H2 F3:Hp}{e e2:En}
end
section
variable{X:Cx}{K:⇑0}{a b:TU}{fa fb:FE}{pos p p1 p2 p3 pos':Pos}{x:Str}{i:Nat}
end
section
variable{X:Cx}{K:⇑0}
end
section
variable{prog:Uc}{w:TX}{A:Ud}{R:Result->TQ->Prop}
end
def Jc(l:TM)(wi:TI)(g:TG)(tc:TT)(tk tv:TE)(σ:L2.St)(H:Hp)(N:L2.St->Hp->Prop):Prop:=wi σ H λJ H1=>∃W:Nat->Nat->L2.St->Hp->Prop,(∃m,W 0 m σ H1)/\∀i m σ' H',W i m σ' H'->(J.stop i H'/\N σ' H')\/(J.go i H'/\∃N2:L2.St->Hp->Prop,(∀σ2 H2,N2 σ2 H2->∃m',m'<m/\W (i+1) m' σ2 H2)/\∀x H2,J.yld i H' x H2->g x σ' H2 λσ2 H3=>tc σ2 H3 λb H4=>if b=true then tk σ2 H4 λy H5=>tv σ2 H5 λv H6=>∃(kk:nY) (kvs:List (nY×V)),y=kV kk/\H6 l=some (.dK kvs)/\kvs.length<Uj/\N2 σ2 (cg H6 l (.dK (MU kvs kk v))) else N2 σ2 H4)
structure NI (cp:List (Nat×Str)) (nT:Nat) (wi:TI) (g:TG) (tc:TT) (wi2:TI) (g2:TG) (tc2:TT) (tk tv:TE) (σ:L2.St) (H:Hp) (Q:VK):Prop where go:wi σ H λJ H1=>∀l,H1 l=none->∃W:Nat->Nat->L2.St->Hp->Prop,(∃m,W 0 m (ji cp nT σ) (cg H1 l (.dK [])))/\∀i m σ' H',W i m σ' H'->(J.stop i H'/\Q (.ref l) H')\/(J.go i H'/\∃N:L2.St->Hp->Prop,(∀σ2 H2,N σ2 H2->∃m',m'<m/\W (i+1) m' σ2 H2)/\∀x H2,J.yld i H' x H2->g x σ' H2 λσ2 H3=>tc σ2 H3 λb H4=>if b=true then Jc l wi2 g2 tc2 tk tv σ2 H4 N else N σ2 H4)
def aK(p:Int×yX):nY×V:=(VL p.1,p.2.toV)
def aD(p:Int×yX):TN×TN:=(.int p.1,p.2.toD)
section
variable{K:⇑0}{F H F' H':Hp}{σ σ':L2.St}{e e':En}{nT:Nat}
inductive CD (K:⇑0) (W:List Nat) (σ0:L2.St) (F1 H1:Hp) (e0:En) (l:TM) (P:Hp->En->List (Int×yX)->Prop) (σ':L2.St) (H':Hp):Prop|mk{F':Hp}{ei:En}{acc:List (Int×yX)}(R:bz K F' H' σ' ei) (X:er W σ0 F1 H1 e0 σ' F' H' ei) (fl:F' l=none) (hl:H' l=some (.dK (acc.map aK))) (pl:∀p∈acc,∀F,p.2.ok K F) (hc:P F' ei acc):CD K W σ0 F1 H1 e0 l P σ' H'
end
section
variable{X:Cx}{K:⇑0}{pos:Pos}
end
section
variable{K:⇑0}{F H F' H' F1 H1 F2 H2:Hp}{σ σ' σ1 σ2:L2.St}{e e' e1 e2:En}{i:Nat}{W W1 W2:List Nat}
structure NT (K:⇑0) (i:Nat) (F H:Hp) (σ:L2.St) (e:En):Prop where rel:bz K F H σ (e.set i none)dct:∃(l:TM) (m:List (Int×yX)),e[i]?=some (some (.d (.dict (m.map aD))))/\σ[i]?=some (some (.ref l))/\F l=none/\H l=some (.dK (m.map aK))/\∀p∈m,∀F,p.2.ok K F
structure OM (i:Nat) (W:List Nat) (σ:L2.St) (F H:Hp) (e:En) (σ':L2.St) (F' H':Hp) (e':En):Prop where
 sf:aF F F'
 dom:∀a,H' a=none->H a=none
 fr:∀a vs,F a=none->H a=some (.lst vs)->¬c9 σ (e.set i none) H a->F' a=none
 lst:∀a vs,H a=some (.lst vs)->∃vs',H' a=some (.lst vs')tmp:∀a o,H a=some o->¬c9 σ (e.set i none) H a->σ[i]?≠some (some (.ref a))->H' a=some o
 own:∀a,c9 σ' (e'.set i none) H' a->c9 σ (e.set i none) H a\/H a=none
 wr:∀j,j∉W->σ'[j]?=σ[j]?
 dd:σ'[i]?=σ[i]?
 fd:∀a m,F a=none->H a=some (.dK m)->¬c9 σ (e.set i none) H a->σ[i]?≠some (some (.ref a))->F' a=none
end
section
variable{X:Cx}{K:⇑0}{i:Nat}{W W1 W2:List Nat}{st:Ub}{iL:List Ub}{f g:FS}{ft:FT}{pos:Pos}
inductive NL (K:⇑0) (i:Nat) (F1:Hp) (P:En->Prop) (G:L2.St->Hp->Hp->En->Prop) (σ:L2.St) (H:Hp):Prop|mk{F:Hp}{e:En}(R:NT K i F H σ e) (sF:aF F1 F) (hf:P e) (q:G σ F H e):NL K i F1 P G σ H
end
section
variable{X:Cx}{C:TM}{x:Str}{p pos rp:Pos}{e:TU}{t:TA}
end
structure O_ (P:Uc) (w:TX) (fs:List TM) (H H':Hp) (h b0:Ua):Prop where
 keep:∀b o,h.get? b=some o->H b=none->b∉fs->b0.get? b=some o
 there:∀b o,h.get? b=some o->b∉fs->∃o',b0.get? b=some o'
 free:∀b o,h.get? b=some o->H b=none->H' b=none
 tups:∀b xs,H b=some (.tup xs)->H' b=some (.tup xs)frzs:∀b o u,H b=some (.frz o u)->H' b=some (.frz o u)tbls:∀b ps,H b=some (.tbl ps)->∃more,H' b=some (.tbl (ps++more))hok:sG P w H' b0
section
variable{P:Uc}{w:TX}{K:⇑0}{mg:Str->Option TL}{base:Ua}{N:List Str}{qual:Str}{scope:Us}{f:TM}{cd:TL}{A:Ud}{outer:List Env}{s:TQ}{H:Hp}{E:XK}{C:TM}{pins:List (TM×Obj)}{σ:L2.St}{H1:Hp}{s1:TQ}
end
section
variable{X:Cx}{K:⇑0}{st r:Ub}{iL:List Ub}{c:TU}{pos:Pos}{f1:FS}{ft:FT}{W1:List Nat}{g:En->Prop}
end
open PySem PySem.Spec PyProof.Rows PySem.W
section
variable{prog:Uc}{w:TX}{A:Ud}{E:TL->TQ->Prop}{h:Ua}{g:Array GenState}{d:Drawn}{t:Nat}{os:OsState}{a D:TM}{o:Obj}{K:Frag}
structure OL (K:Frag) (D:TM):Prop where
 ga:findIn K (.ref D) "__getattribute__"=some (some (.builtin "BaseException.__getattribute__"))gt:findIn K (.ref D) "__getattr__"=some none
 cl:findIn K (.ref D) "__class__"=some (some (.builtin "object.__class__"))mo:mroIn K D (.type "object")=some true
 mb:mroIn K D (.type "BaseException")=some true
 cs:(clsIn K D).isSome=true
end
def N_(C a:TM)(h:Ua):Prop:=∃o,h.get? a=some o/\o.cls=.ref C
def OS(C a:TM):HO:=.ext (N_ C a)
section
variable{X:Cx}{pins:List (TM×Obj)}{σ:L2.St}{H H':Hp}{s:TQ}{n:Str}{j:Nat}
end
section
variable{X:Cx}{C Cb f:TM}{fd:UM}{ps:List Str}{k n k0 i j:Nat}{g:En->Prop}{fn B kx nx:Str}{p pos ep bp kp np ap hp tp:Pos}{e:TU}{es:List TU}{t:TA}
end
section
variable{X:Cx}{C:TM}{i:Nat}{x c:Str}{p p1 p2 pos:Pos}{v:V}{u:TL}{b:Bool}
def Oo(i:Nat)(C:TM)(b:Bool):TE:=λσ H Q=>∃a,σ[i]?=some (some (.ref a))/\H a=some (OS C a)/\Q (.bl b) H
end
abbrev t3(C:TM)(b1 b2 b3:Bool):TE:=Nf (se (Oo 0 C b1) (se (Oo 0 C b2) (se (Oo 0 C b3) Je)))
section
variable{K:⇑0}
end
section
variable{X:Cx}{K:⇑0}{C:TM}{x:Str}{p pos rp:Pos}{e:TU}{fs:FA}
end
section
variable{P:Uc}{w:TX}{K:⇑0}{mg:Str->Option TL}{base:Ua}{N ps:List Str}{qual fn:Str}{scope:Us}{fa f:TM}{cd:TL}{A:Ud}{outer:List Env}{s:TQ}{H:Hp}{E:XK}{C:TM}{st:Ub}{fd:UM}{k n k0:Nat}{g:En->Prop}{p pos ep:Pos}{e:TU}{es:List TU}{fs:FA}
end
section
variable{X:Cx}{C:TM}{i:Nat}{x:Str}{p p1 p2 pos:Pos}{vs:List V}{us:List TL}{b:Bool}{cs:List TU}{ctx:Nat}
end
def kR(W:aA)(r:List (Int×Bool)):Rat:=(r.map λp=>if p.2=true then((W.tie p.1).worth:Rat) else 0).sum
def uR(W:aA)(T:List Nd)(m:Nat)(l:Int):Rat:=SR W.ties.length (λa=>wR W.ties a*kR W (rn T a m l))
theorem GN{W:aA}{T:List Nd}{m:Nat}:uR W T m (-1)=0:=by unfold uR;refine Eq.trans (bN (g:=λ_=>0) λr _=>?_) sJ;rw[jI ⋯];unfold kR;simp only[Uv,Vt];grind
theorem L1{W:aA}(ok:W.Ok){T:List Nd}{S:Nat->Std}(h:be W T S){m i:Nat}{x:Nd}(hx:T[i]?=some x):uR W T (m+1) (i:Int)=hR (W.tie x.tie)+cR (W.tie x.tie) true*uR W T m x.yes+cR (W.tie x.tie) false*uR W T m x.no:=by
 have nd:=h i x hx;have t0:=nd.tie.1;have t1:=nd.tie.2;have hb:=Hf ok;have one:=BF W.ties.length W.ties rfl hb;have part:∀b:Bool,SR W.ties.length (λa=>if a.getD x.tie.toNat false=b then wR W.ties a*kR W (rn T a m (dI x b)) else 0)=cR (W.tie x.tie) b*uR W T m (dI x b):=λb=>by
  refine B4 W.ties.length W.ties rfl hb x.tie.toNat ↥0 b (λa=>kR W (rn T a m (dI x b))) λr c _=>?_;rw[Bo h t0 m (dI x b) ?_];rcases qJ nd b with z|⟨z1,z2,z3⟩;·exact .inl z
  ·refine .inr ⟨z1,z2,?_⟩;rw[z3];exact xB.mpr (.inr rfl)
 have part0:SR W.ties.length (λa=>if a.getD x.tie.toNat false=true then wR W.ties a*((W.tie x.tie).worth:Rat) else 0)=hR (W.tie x.tie):=by
  have e1:=B4 W.ties.length W.ties rfl hb x.tie.toNat ↥0 true (λ_=>((W.tie x.tie).worth:Rat)) λr c _=>rfl;have e2:SR W.ties.length (λr=>wR W.ties r*((W.tie x.tie).worth:Rat))=((W.tie x.tie).worth:Rat):=by rw[show(λr=>wR W.ties r*((W.tie x.tie).worth:Rat))=λr=>((W.tie x.tie).worth:Rat)*wR W.ties r by funext r;grind,ma,one];grind
  rw[e2]at e1;exact e1
 have e:uR W T (m+1) (i:Int)=SR W.ties.length (λa=>(if a.getD x.tie.toNat false=true then wR W.ties a*((W.tie x.tie).worth:Rat) else 0)+((if a.getD x.tie.toNat false=true then wR W.ties a*kR W (rn T a m (dI x true)) else 0)+(if a.getD x.tie.toNat false=false then wR W.ties a*kR W (rn T a m (dI x false)) else 0))):=by
  unfold uR;refine bN λa _=>?_;rw[j8 (T:=T) (l:=(i:Int)) (x:=x) ↥0 (by rw[VP];exact hx)];have:kR W ((x.tie,a.getD x.tie.toNat false)::rn T a m (dI x (a.getD x.tie.toNat false)))=(if a.getD x.tie.toNat false=true then((W.tie x.tie).worth:Rat) else 0)+kR W (rn T a m (dI x (a.getD x.tie.toNat false))):=by unfold kR;rw[Uo,UY]
  rw[this];cases a.getD x.tie.toNat false;·rw[if_neg ⋯,if_neg ⋯,if_neg ⋯,if_pos rfl];grind
  ·rw[if_pos rfl,if_pos rfl,if_pos rfl,if_neg ⋯];grind
 rw[e,xu,xu,part,part,part0];show hR (W.tie x.tie)+(cR (W.tie x.tie) true*uR W T m x.yes+cR (W.tie x.tie) false*uR W T m x.no)=_;grind
theorem CF{W:aA}(ok:W.Ok){T:List Nd}{S:Nat->Std}(h:be W T S){l:Int}(hl:l=-1\/(0<=l/\l<(T.length:Int))):uR W T 17 l=uR W T 16 l:=by unfold uR;refine bN λa _=>?_;rw[yD ok h 16 l (by
 rcases hl with z|⟨z1,z2⟩;·exact .inl z
 ·exact .inr ⟨z1,z2,by have:=ok.len;lia⟩)]
theorem qS{W:aA}(ok:W.Ok){T:List Nd}{S:Nat->Std}(h:be W T S)(o:fQ T)(t:en T):uR W T 17 (rt T)=((Uu T.length).map λi=>rR W T i*hR (W.tie (aS T (i:Int)).tie)).sum:=by
 by_cases c:T.length=0;·rw[show rt T=-1 by unfold rt;rw[if_pos c],GN,c];simp only[XW,Uv,Vt]
 ·rw[show rt T=0 by unfold rt;rw[if_neg c]];refine uX ok h o t ↥0 (λl=>uR W T 17 l) (λi=>hR (W.tie (aS T (i:Int)).tie)) GN λi x hx=>?_;have nd:=h i x hx;show uR W T 17 (i:Int)=_;rw[show(17:Nat)=16+1 from rfl,L1 ok h hx,kr hx];have fy:=CF ok h (l:=x.yes) (by rcases nd.yes with z|⟨z1,z2,_⟩;exact .inl z;exact .inr ⟨z1,z2⟩);have fn:=CF ok h (l:=x.no) (by rcases nd.no with z|⟨z1,z2,_⟩;exact .inl z;exact .inr ⟨z1,z2⟩);rw[<-fy,<-fn]
theorem Gf{T:List Nd}{order nums w0:List Int}{W:aA}{S:Nat->Std}(h:be W T S)(ho:∀w∈order,0<=w/\w<(T.length:Int))(hn:lQ order T.length nums)(hg:l_ order nums order.length)(hw:vd T [] order)(hr:G4 T w0 [] order)(h0:w0=[]->T.length=0)(a:List Bool)(f:Nat):rn (order.map (renum T nums)) a f (rt (order.map (renum T nums)))=rn T a f (rt T):=by
 have nd:order.Nodup:=by have:=hr.nd;rwa[Vs]at this
 have nm1:nm nums (-1)=-1:=by unfold nm atI oz;rw[if_neg ⋯,if_pos (by rw[hn.len];lia)];simp only[Ul];rw[show(-1+(nums.length:Int)).toNat=T.length by rw[hn.len];lia,hn.top];rfl
 have inv:∀(j:Nat) (l:Int),order[j]?=some l->nm nums l=(j:Int):=λj l hj=>by
  obtain⟨l0,l1⟩:=ho l (TK hj);have g:=hg j l (TC hj).1 hj;have e:nm nums l=nums.getD l.toNat (-1):=by unfold nm atI oz;rw[if_pos l0,if_pos (by rw[hn.len];lia)];simp only[Ul,Ur]
  rw[e];have hx:nums[l.toNat]?=some (nums.getD l.toNat (-1)):=by
   have:l.toNat<nums.length:=by rw[hn.len];lia
   simp[this]
  rcases hn.at' l.toNat _ ↥0 hx with z|⟨p,z1,z2⟩;·lia
  ·rw[show((l.toNat:Nat):Int)=l by lia]at z2;rw[z1,pQ nd z2 hj]
 have go:∀(m j:Nat) (l:Int),order[j]?=some l->rn (order.map (renum T nums)) a m (j:Int)=rn T a m l:=by intro m;induction m with|zero=>intro j l _;rfl|succ m ih=>
  intro j l hj;obtain⟨a0,a1⟩:=ho l (TK hj);rw[j8 (x:=renum T nums l) ↥0 (by rw[VP,Ut,hj];rfl),j8 (x:=aS T l) a0 (dP a0 a1)];have e1:(renum T nums l).tie=(aS T l).tie:=rfl;rw[e1];congr 1;generalize a.getD (aS T l).tie.toNat false=b;have e2:dI (renum T nums l) b=nm nums (dI (aS T l) b):=by cases b<;>rfl
  rw[e2];by_cases c:dI (aS T l) b=-1;·rw[c,nm1,jI ⋯,jI ⋯]
  ·have hm:dI (aS T l) b∈vz (aS T l):=by unfold vz;rw[Wg];refine⟨?_,by simpa using c⟩;cases b<;>simp[dI]
   rcases hw j l hj _ hm with q|⟨p,_,q⟩;·cases q
   ·rw[inv p _ q];exact ih p _ q
 rcases hr.fst with⟨z1,z2⟩|z;·have t0:=h0 z2.symm;rw[z1,show rt T=-1 by unfold rt;rw[if_pos t0]];show rn [] a f (-1)=rn T a f (-1);rw[jI ⋯,jI ⋯]
 ·obtain⟨_,b1⟩:=ho 0 (TK z);have ol:0<order.length:=(TC z).1;rw[show rt T=0 by unfold rt;rw[if_neg ↥0],show rt (order.map (renum T nums))=0 by unfold rt;rw[if_neg (by rw[Uq];lia)]];exact go f 0 0 z
theorem KW{W:aA}{T:List Nd}{S:Nat->Std}(h:be W T S)(o:fQ T)(t:en T):AJ T []:=⟨t.1,λi a=>by cases hx:T[i]? with|none=>exact .inl (cO hx)|some x=>
 rw[cu hx];obtain⟨oy,on⟩:=o i x hx;rcases qJ (h i x hx) a with z|⟨z1,z2,_⟩;·exact .inl z
 ·have:D1 i (dI x a):=by cases a<;>assumption
  rcases this with q|q;·exact .inl q
  ·exact .inr ⟨by lia,z2⟩,(λw hw=>by cases hw),↥1,λw hw=>by cases hw⟩
theorem yU:∀(L:List Fr){a:Fr},0<a.2->(∀f∈L,0<f.2)->vR (bj a L)=vR a+(L.map vR).sum|[],a,h,_=>by show vR a=vR a+0;grind|x::r,a,h,hL=>by have hx:=hL x ↥1;show vR (bj (L2.pl a x) r)=_;rw[yU r (nZ.pl h hx).pos λf hf=>hL f (by simp[hf]),CG h hx,Uo,UY];grind
theorem uf:∀(L:List Fr){a:Fr},nZ a->(∀f∈L,0<f.2)->nZ (bj a L)|[],a,h,_=>h|x::r,a,h,hL=>uf r (nZ.pl h.pos (hL x ↥1)) λf hf=>hL f (by simp[hf])
theorem Bq{W:aA}(ok:W.Ok){T:List Nd}{S:Nat->Std}(h:be W T S):∀m,m<=T.length->∀f∈lr W T (aY W T T.length) m,nZ f
 |0,_,f,hf=>by rw[lr]at hf;rw[(List.mem_replicate.mp hf).2];exact kb|m+1,hm,f,hf=>by
  have hx:=Um (show m<T.length by lia);have nd:=h m _ hx;have ih:=Bq ok h m ↥0;have hs:=xt.all ok h (eV.all ok h T.length) m;have one:=(eV.all ok h T.length).one ok h (show m<T.length by lia);rw[Bp hx]at hf;unfold J7 at hf;rcases List.mem_or_eq_of_mem_set hf with z|z;·exact ih f z
  ·rw[z];have t0:=nd.tie.1;have t1:=nd.tie.2;have kl:(T[m]).tie.toNat<(lr W T (aY W T T.length) m).length:=by rw[hs.len];lia
   refine nZ.pl ?_ one.pos;rw[Ur,Um kl];exact(hs.at' _ _ (Um kl)).pos
theorem nu{W:aA}(ok:W.Ok){T:List Nd}{S:Nat->Std}(h:be W T S)(o:fQ T):nZ ((eA W T T.length++[(0,1)]).getD 0 (0,1)):=by
 by_cases c:T.length=0
 ·have e:eA W T T.length=[]:=by apply List.eq_nil_of_length_eq_zero;rw[eU,c]
  rw[e];exact kb
 ·have wl:=eU (W:=W) (T:=T) T.length;have hx:=Um (show 0<T.length by lia);have nd:=h 0 _ hx;have f:=nq (W:=W) o T.length ↥8 0 _ ↥0 hx;have ws:=n_.all ok h T.length;have b0:=tD ok nd.tie;rw[Ur,UX ↥0,f];exact nZ.pl (qZ (jV b0 true) (nZ.pl (by show(0:Int)<1;decide) (wQ ws nd.yes).pos).pos) (qZ (jV b0 false) (wQ ws nd.no).pos)
theorem GD{W:aA}(ok:W.Ok){T:List Nd}{S:Nat->Std}(h:be W T S)(o:fQ T)(t:en T)(x:List Bool->Fr)(hx:∀a,a.length=W.ties.length->0<(x a).2/\vR (x a)=wR W.ties a*kR W (rn T a 17 (rt T))):bj (0,1) ((aQ W.ties.length).map x)=(eA W T T.length++[(0,1)]).getD 0 (0,1):=by
 have pos:∀f∈(aQ W.ties.length).map x,0<f.2:=λf hf=>by obtain⟨a,ha,rfl⟩:=TH hf;exact(hx a ((fM _).2 a ha)).1
 refine yT (uf _ kb pos) (nu ok h o) ?_;rw[nv ok h o t,<-qS ok h o t,yU _ ⋯ pos,GQ,UJ];have:((aQ W.ties.length).map (XX vR x)).sum=uR W T 17 (rt T):=oR λa ha=>(hx a ((fM _).2 a ha)).2;rw[this];grind
theorem DF{W:aA}(ok:W.Ok){T:List Nd}{S:Nat->Std}(h:be W T S)(o:fQ T)(t:en T)(y:Nat->Fr)(hy:∀i,i<T.length->0<(y i).2/\vR (y i)=rR W T i*hR (W.tie (aS T (i:Int)).tie)):bj (0,1) ((Uu T.length).map y)=(eA W T T.length++[(0,1)]).getD 0 (0,1):=by
 have pos:∀f∈(Uu T.length).map y,0<f.2:=λf hf=>by obtain⟨i,hi,rfl⟩:=TH hf;exact(hy i (WA.mp hi)).1
 refine yT (uf _ kb pos) (nu ok h o) ?_;rw[nv ok h o t,yU _ ⋯ pos,GQ,UJ];have:((Uu T.length).map (XX vR y)).sum=((Uu T.length).map λi=>rR W T i*hR (W.tie (aS T (i:Int)).tie)).sum:=oR λi hi=>(hy i (WA.mp hi)).2;rw[this];grind
theorem uZ{W:aA}(ok:W.Ok){T T':List Nd}{S S':Nat->Std}(h:be W T S)(o:fQ T)(t:en T)(h':be W T' S')(o':fQ T')(t':en T')(hr:∀(a:List Bool) (f:Nat),rn T' a f (rt T')=rn T a f (rt T)):(eA W T' T'.length++[(0,1)]).getD 0 (0,1)=(eA W T T.length++[(0,1)]).getD 0 (0,1):=by refine yT (nu ok h' o') (nu ok h o) ?_;rw[nv ok h o t,<-qS ok h o t,nv ok h' o' t',<-qS ok h' o' t'];unfold uR;exact bN λa _=>by rw[hr]
theorem Ao{W:aA}(ok:W.Ok){T T':List Nd}{S S':Nat->Std}(h:be W T S)(o:fQ T)(t:en T)(h':be W T' S')(o':fQ T')(t':en T')(hr:∀(a:List Bool) (f:Nat),rn T' a f (rt T')=rn T a f (rt T)):lr W T' (aY W T' T'.length) T'.length=lr W T (aY W T T.length) T.length:=by have l1:=(xt.all ok h (eV.all ok h T.length) T.length).len;have l2:=(xt.all ok h' (eV.all ok h' T'.length) T'.length).len;refine XT (by rw[l1,l2]) λi a b=>?_;have hk:kc W (i:Int):=⟨by lia,by lia⟩;have e1:=Gw ok h o t hk;have e2:=Gw ok h' o' t' hk;rw[VP,Ur,Um b]at e1;rw[VP,Ur,Um a]at e2;refine yT (Bq ok h' _ ↥8 _ (Xd a)) (Bq ok h _ ↥8 _ (Xd b)) ?_;refine e2.trans (Eq.trans ?_ e1.symm);unfold eR;exact bN λa _=>by rw[hr]
abbrev NU(l:List Nat):Prop:=l.Pairwise (·<·)
section
variable{prog:Uc}{w:TX}{A:Ud}{E:TL->TQ->Prop}{s:TQ}
end
section
variable{prog:Uc}{w:TX}{A:Ud}{E:TL->TQ->Prop}{s:TQ}
end
def OZ(t:SetTable):Nat->Nat|0=>0|i+1=>t.place.getD i 0+1
inductive NW (w:TX) (a:TM) (es:Array (Int×TL)) (ep:Nat) (t:SetTable) (h:Ua):List TL->TM->Nat->TL->Prop where|text (hb:w.params.followText "set-order"=true) (p:TM) (i:Nat) (hp:p=a):NW w a es ep t h ((pickOrder (w.params.setOrder a ep) es).toList.map (·.2)) p i (UZ 0)|led (hb:w.params.followText "set-order"=false) (hd:(!t.plain&&es.size>1)=false) (hl:t.led=true) (hr:NU t.place.toList) (p:TM) (i:Nat) (hp:p=a):NW w a es ep t h (es.toList.map (·.2)) p i (UZ (OZ t i))|drawn (hb:w.params.followText "set-order"=false) (p:TM) (i:Nat) (ys:List Nat) (hy:ys.Perm (Uu es.size)) (hp:IsTup h p (ys.map fun(i:Nat)=>UZ i).toArray):NW w a es ep t h (ys.filterMap λi=>es[i]?.map (·.2)) p i (.ref p)
section
variable{prog:Uc}{w:TX}{A:Ud}{E:TL->TQ->Prop}{s:TQ}
end
section
variable{prog:Uc}{w:TX}{A:Ud}{E:TL->TQ->Prop}{s:TQ}{I a p:TM}{es:Array (Int×TL)}{ep:Nat}{t:SetTable}{L:List TL}{i:Nat}
end
section
variable{prog:Uc}{w:TX}{A:Ud}{E:TL->TQ->Prop}{s:TQ}{a:TM}{es:Array (Int×TL)}{ep:Nat}{t:SetTable}
end
section
variable{prog:Uc}{w:TX}{A:Ud}{E:TL->TQ->Prop}{s:TQ}
end
section
variable{prog:Uc}{w:TX}{A:Ud}{E:TL->TQ->Prop}{s:TQ}
end
section
variable{X:Cx}{K:⇑0}{a:TU}{fa:FE}{pos p pos2 p2:Pos}
end
section
variable{X:Cx}{K:⇑0}{a b1 b2 b3:TU}{fa:FE}{fs:FA}{pos p pos2 p2:Pos}
end
section
variable{prog:Uc}{w:TX}{A:Ud}{E:TL->TQ->Prop}{s:TQ}
end
section
variable{X:Cx}{K:⇑0}{b1 b2 b3:TU}{fs:FA}{pos p pos2 p2:Pos}
end
section
variable{X:Cx}{K:⇑0}{es:List TU}{k0:Nat}{tp:Pos}{a b:TU}{fs:FA}{p pos:Pos}
end
def yV:Bool->⇑0->Hp->TM->List V->Prop|true=>jU|false=>fj
def My(b:Bool)(it l:TM)(i:Nat)(h:Ua):Prop:=match b with|true=>h.IsListIter it l i|false=>h.IsTupleIter it l i
def DS(b:Bool)(h:Ua)(l:TM)(xs:Array TL):Prop:=match b with|true=>h.IsList l xs|false=>h.IsTuple l xs
def oB(b:Bool)(l:TM):Obj:={cls:=.type (match b with|true=>"list_iterator"|false=>"tuple_iterator"),data:=.fields #[.ref l,.int 0 0]}
theorem l5{prog:Uc}{w:TX}:∀(b:Bool) (it l:TM),Sc prog w it l (My b it l) λh xs=>DS b h l xs|true,it,l=>IY it l|false,it,l=>LN it l
theorem B7{b:Bool}{it l:TM}{h:Ua}(e:h.get? it=some (oB b l)):My b it l 0 h:=match b,e with|true,e=>⟨_,e,rfl,rfl⟩|false,e=>⟨_,e,rfl,rfl⟩
theorem D7{b:Bool}{h:Ua}{l:TM}{xs:Array TL}(o:Obj)(t:DS b h l xs):DS b (h.push o) l xs:=match b,t with|true,t=>Heap.IsList.push t o|false,t=>Heap.IsTuple.push t o
theorem EN{prog:Uc}{w:TX}{A:Ud}{E:TL->TQ->Prop}{s:TQ}{l:TM}{xs:Array TL}{Q:TL->TQ->Prop}{b:Bool}(t:DS b s.heap l xs)(h:Q (.ref ↑s) {s with heap:=s.heap.push (oB b l)}):TY (TZ prog w) A (pyIter (.ref l)) Q E s:=match b,t,h with|true,t,h=>wpAny_pyIter_list t h|false,t,h=>XA t h
section
variable{X:Cx}{pins:List (TM×Obj)}{σ:L2.St}{H:Hp}{s:TQ}
theorem yW(I:aM X pins σ H s){c:Bool}{b l:TM}{xs:List V}(f:jS X pins H b)(q:yV c X.K H l xs):l≠b:=match c,q with|true,q=>CJ I f q|false,q=>D5 I f q
theorem xV(I:aM X pins σ H s){c:Bool}{l:TM}{xs:List V}(q:yV c X.K H l xs):∃its,bc xs its/\DS c s.heap l its.toArray:=match c,q with|true,q=>let⟨its,v,p,_⟩:=I.list q;⟨its,v,p.isList⟩|false,q=>let⟨its,v,p,_⟩:=I.tuple q;⟨its,v,p⟩
theorem Ky(I:aM X pins σ H s){c:Bool}{l:TM}{xs ys:List V}(p:yV c X.K H l xs)(q:yV c X.K H l ys):xs=ys:=match c,p,q with|true,p,q=>I.list_inj p q|false,p,q=>I.tuple_inj p q
end
def Ma(b1 b2:Bool)(K:⇑0)(l1 l2:TM):It:=⟨λi H=>∃xs ys x y,yV b1 K H l1 xs/\yV b2 K H l2 ys/\xs[i]?=some x/\ys[i]?=some y,λi H v H'=>∃p x y,v=.ref p/\H p=none/\H'=cg H p (.tup [x,y])/\∀xs ys,yV b1 K H l1 xs->yV b2 K H l2 ys->xs[i]?=some x/\ys[i]?=some y,λi H=>∃xs ys,yV b1 K H l1 xs/\yV b2 K H l2 ys/\(xs.length<=i\/ys.length<=i)⟩
def GZ(b1 b2:Bool)(z TI TO i1 i2 l1 l2:TM)(i:Nat)(h:Ua):Prop:=IsZip h z TI TO .none/\UP h TI (.ref i1) (.ref i2)/\(∃a b,UP h TO a b)/\My b1 i1 l1 i h/\My b2 i2 l2 i h
theorem DL{b1 b2:Bool}{P:Uc}{w:TX}{K:⇑0}{es:List TU}{k0:Nat}{pos:Pos}{z TI TO i1 i2:TM}(l1 l2:TM)(n1:TO≠z)(n2:i1≠z)(n3:i2≠z)(n4:TO≠i1)(n5:TO≠i2)(n6:i1≠i2)(n7:TI≠z)(n8:TI≠TO)(n9:TI≠i1)(n10:TI≠i2):AL P w K (.Tuple es k0 pos) (Ma b1 b2 K l1 l2) [z,TI,TO,i1,i2] z (GZ b1 b2 z TI TO i1 i2 l1 l2) where
 mem:=by simp
 obj:=λi h st b hb=>by
  obtain⟨hz,hI,⟨a,c,hO⟩,u1,u2⟩:=st;simp only[Uy,UK,or_false]at hb;rcases hb with rfl|rfl|rfl|rfl|rfl;·exact⟨_,hz,λv z=>by cases z⟩
  ·exact⟨_,hI,λv z=>by cases z⟩
  ·exact⟨_,hO,λv z=>by cases z⟩
  ·exact(l5 (prog:=P) (w:=w) b1 _ _).live u1
  ·exact(l5 (prog:=P) (w:=w) b2 _ _).live u2
 keep:=λi h h' st k=>by obtain⟨hz,hI,⟨a,c,hO⟩,u1,u2⟩:=st;exact⟨k _ ↥1 _ hz,k _ ↥1 _ hI,⟨a,c,k _ ↥1 _ hO⟩,(l5 (prog:=P) (w:=w) b1 _ _).stay u1 λo e=>k _ ↥1 o e,(l5 (prog:=P) (w:=w) b2 _ _).stay u2 λo e=>k _ ↥1 o e⟩
 item:=by
  intro X hP hw hK hc i pins s σ H E I hf st hg;subst hP hw hK;obtain⟨xs,ys,x,y,q1,q2,hx,hy⟩:=hg;obtain⟨hz,hI,⟨a,b,hO⟩,u1,u2⟩:=id st;obtain⟨its1,rv1,p1⟩:=xV I q1;obtain⟨its2,rv2,p2⟩:=xV I q2;obtain⟨ux,hux,rux⟩:=rv1.get hx;obtain⟨uy,huy,ruy⟩:=rv2.get hy;have fz:=hf z ↥1;have fO:=hf TO ↥1;have f1:=hf i1 ↥1;have f2:=hf i2 ↥1;have D:vV z TI TO i1 i2 l1 l2:=⟨n1,n2,n3,n4,n5,n6,yW I fz q1,yW I fO q1,yW I f1 q1,yW I f2 q1,yW I fz q2,yW I fO q2,yW I f1 q2,yW I f2 q2⟩;refine G1 (xs:=its1.toArray) (ys:=its2.toArray) (l5 b1 i1 l1) (l5 b2 i2 l2) D hz hI hO u1 u2 p1 p2 (by simpa using hux) (by simpa using huy) λg gz gO g1 g2 gT gs gk=>?_;refine⟨_,rfl,wpAny_letOwnedTupleGo_zip gz λg' gz' ge=>?_⟩;have lt:∀b∈[z,TI,TO,i1,i2],b<↑s:=λb hb=>by
   simp only[Uy,UK,or_false]at hb;rcases hb with rfl|rfl|rfl|rfl|rfl;·exact Up hz
   ·exact Up hI
   ·exact Up hO
   ·obtain⟨o,e,_⟩:=(l5 (prog:=X.prog) (w:=X.w) b1 _ _).live u1;exact Up e
   ·obtain⟨o,e,_⟩:=(l5 (prog:=X.prog) (w:=X.w) b2 _ _).live u2;exact Up e
  have hT:H ↑s=none:=I.hok.fresh ↥8;have vv:bc [x,y] [ux,uy]:=.cons rux (.cons ruy .nil);have I1:aM X pins σ (cg H ↑s (.tup [x,y])) {s with heap:=s.heap.push {cls:=.type "tuple",data:=.seq #[ux,uy]},toks:=s.toks}:=I.laid (t':=s.toks) (λb u e=>UC _ e) ↥8 ⟨(by show 2<=Uj;decide),[ux,uy],vv,tI.new _ _⟩;have hf1:∀b∈[z,TI,TO,i1,i2],jS X pins (cg H ↑s (.tup [x,y])) b:=λb hb=>by obtain⟨f0,fr⟩:=hf b hb;exact⟨by rw[aJ (Vf (lt b hb))];exact f0,fr⟩
  have nzT:↑s≠z:=Nat.ne_of_gt (lt z ↥1);have I2:aM X pins σ (cg H ↑s (.tup [x,y])) {s with heap:=g',toks:=s.toks}:=by
   refine I1.turnedL (t':=s.toks) hf1 λb o nb e=>?_;have nb':b≠z/\b≠TI/\b≠TO/\b≠i1/\b≠i2:=by simpa using nb
   refine ge.extBut _ _ nb'.1 ?_;rcases Heap.get?_push_cases e with⟨rfl,rfl⟩|e;·exact gT
   ·exact gk b o nb'.1 nb'.2.2.1 nb'.2.2.2.1 nb'.2.2.2.2 e
  refine⟨.ref ↑s,_,I2,rfl,⟨_,x,y,rfl,hT,rfl,λxs' ys' w1 w2=>?_⟩,⟨gz',ge.extBut _ _ n7 (gk _ _ n7 n8 n9 n10 hI),⟨ux,uy,ge.extBut _ _ n1 gO⟩,(l5 (prog:=X.prog) (w:=X.w) b1 _ _).stay g1 λo e=>ge.extBut _ _ n2 e,(l5 (prog:=X.prog) (w:=X.w) b2 _ _).stay g2 λo e=>ge.extBut _ _ n3 e⟩,λb hb=>(hf1 b hb).1⟩;rw[Ky I w1 q1,Ky I w2 q2];exact⟨hx,hy⟩
 done:=by
  intro X hP hw hK hc i pins s σ H E I hf st hg;subst hP hw hK;obtain⟨xs,ys,q1,q2,hn⟩:=hg;obtain⟨hz,hI,⟨a,b,hO⟩,u1,u2⟩:=id st;obtain⟨its1,rv1,p1⟩:=xV I q1;obtain⟨its2,rv2,p2⟩:=xV I q2;have fz:=hf z ↥1;have fO:=hf TO ↥1;have f1:=hf i1 ↥1;have f2:=hf i2 ↥1;have D:vV z TI TO i1 i2 l1 l2:=⟨n1,n2,n3,n4,n5,n6,yW I fz q1,yW I fO q1,yW I f1 q1,yW I f2 q1,yW I fz q2,yW I fO q2,yW I f1 q2,yW I f2 q2⟩;have e1:=rv1.length;have e2:=rv2.length;refine G2 (xs:=its1.toArray) (ys:=its2.toArray) (I.ok.hd hc) (l5 b1 i1 l1) (l5 b2 i2 l2) D hz hI hO u1 u2 p1 p2 ?_ λg gk=>⟨rfl,I.turnedL (t':=s.toks) hf λb o nb e=>?_⟩
  ·rcases hn with hn|hn;·exact .inl ↥7
   ·exact .inr ↥7
  ·have nb':b≠z/\b≠TI/\b≠TO/\b≠i1/\b≠i2:=by simpa using nb
   exact gk b o nb'.1 nb'.2.2.1 nb'.2.2.2.1 nb'.2.2.2.2 e
 self:=λA i s Q E st h=>wpAny_pyIter_zip st.1 h
theorem G0(b1 b2:Bool)(l1 l2:TM)(xs ys:Array TL):Meets (Wb.«zip.__new__» ⟨[.type "zip",.ref l1,.ref l2],[]⟩) (λ_ R s=>DS b1 s.heap l1 xs/\DS b2 s.heap l2 ys/\R (.ok (.ret (.ref (↑s+4)))) {s with heap:=((((s.heap.push (oB b1 l1)).push (oB b2 l2)).push {cls:=.type "tuple",data:=.seq #[.ref ↑s,.ref (↑s+1)]}).push {cls:=.type "tuple",data:=.seq #[.none,.none]}).push {cls:=.type "zip",data:=.fields #[.none,.bool false,.bool false,.ref (↑s+2),.ref (↑s+3)]}}):=.of_wp λprog w A R s h=>by obtain⟨hp,g,d,tk,os⟩:=s;obtain⟨t1,t2,h⟩:=h;have sz:=PySem.sub_zip;have T1:DS b1 (Shared.heap ⟨hp,g,d,tk,os⟩) l1 xs:=t1;have T2:DS b2 (Shared.heap ⟨hp.push (oB b1 l1),g,d,tk,os⟩) l2 ys:=D7 _ t2;wp_walk using EN T1,EN T2;refine⟨_,rfl,?_⟩;simp only[VI];exact h
section
variable{prog:Uc}{w:TX}{A:Ud}{E:TL->TQ->Prop}{s:TQ}
theorem DQ{b1 b2:Bool}{l1 l2:TM}{xs ys:Array TL}{Q:TL->TQ->Prop}(t1:DS b1 s.heap l1 xs)(t2:DS b2 s.heap l2 ys)(h:∀g,GZ b1 b2 (↑s+4) (↑s+2) (↑s+3) ↑s (↑s+1) l1 l2 0 g->(∀c o,s.heap.get? c=some o->g.get? c=some o)->Q (.ref (↑s+4)) {s with heap:=g}):TY (TZ prog w) A (call (.type "zip") [.ref l1,.ref l2]) Q E s:=by
 refine callType_new F.called_zip ⋯ (F.typeCall_zip_2 _ _) (F.newCall_zip_2 _ _) (λobj=>F.args_object_init_3 obj _ _) F.entry_zip_new (G0 b1 b2 l1 l2 xs ys) ⟨t1,t2,?_⟩;have at5:∀(g:Ua) (o:Obj) (a:TM),o.isFreed=false->a=g.objs.size->(g.push o).get? a=some o:=λg o a hf e=>by rw[e];exact UT _ hf
 have g5:=at5 ((((s.heap.push (oB b1 l1)).push (oB b2 l2)).push {cls:=.type "tuple",data:=.seq #[.ref ↑s,.ref (↑s+1)]}).push {cls:=.type "tuple",data:=.seq #[.none,.none]}) {cls:=.type "zip",data:=.fields #[.none,.bool false,.bool false,.ref (↑s+2),.ref (↑s+3)]} (↑s+4) rfl (by simp only[VI]);have g4:=at5 (((s.heap.push (oB b1 l1)).push (oB b2 l2)).push {cls:=.type "tuple",data:=.seq #[.ref ↑s,.ref (↑s+1)]}) {cls:=.type "tuple",data:=.seq #[.none,.none]} (↑s+3) rfl (by simp only[VI]);have g3:=at5 ((s.heap.push (oB b1 l1)).push (oB b2 l2)) {cls:=.type "tuple",data:=.seq #[.ref ↑s,.ref (↑s+1)]} (↑s+2) rfl (by simp only[VI]);have g2:=at5 (s.heap.push (oB b1 l1)) (oB b2 l2) (↑s+1) rfl (by simp only[VI]);have g1:=at5 s.heap (oB b1 l1) ↑s rfl rfl;have up:∀{g:Ua}{a:TM}{u:Obj}(o:Obj),g.get? a=some u->(g.push o).get? a=some u:=λo e=>UC o e;refine⟨⟨_,g5,rfl⟩,h _ ⟨g5,up _ (up _ g3),⟨_,_,up _ g4⟩,B7 (up _ (up _ (up _ (up _ g1)))),B7 (up _ (up _ (up _ g2)))⟩ λc o x=>up _ (up _ (up _ (up _ (up _ x))))⟩
end
def Mt(b1 b2:Bool)(K:⇑0)(ta:TA):TI:=λσ H R=>ta σ H λvs H1=>∃a b,vs=[.ref a,.ref b]/\(∃xs,yV b1 K H1 a xs)/\(∃ys,yV b2 K H1 b ys)/\R (Ma b1 b2 K a b) H1
theorem Cg{b1 b2:Bool}{X:Cx}{K:⇑0}{es:List TU}{k0:Nat}{tp:Pos}{a b:TU}{ta:TA}{p pos:Pos}(hK:X.K=K)(hg:Gl X "zip")(hm:X.mg "zip"=none)(ha:PA X [a,b] ta)(hs:Ue [a,b] X.env=[(false,Ui a X.env),(false,Ui b X.env)]:=by rfl)(hs2:Ue [b] X.env=[(false,Ui b X.env)]:=by rfl):PI X (.Tuple es k0 tp) (.Call (.Name "zip" p) [a,b] [] pos) (Mt b1 b2 K ta):=by intro pins s σ H R I h;subst hK;refine Call_ (mI I hg hm Eh (Xi (dn (ha pos pins s σ H _ I h) λus s1⟨vs,H1,I1,r1,q1⟩=>?_) (by rw[hs,hs2]) (by rw[hs2];rfl)));obtain⟨a,b,e,⟨xs,qx⟩,⟨ys,qy⟩,q⟩:=q1;subst e;cases r1 with|cons r rr=>cases rr with|cons r' rr=>
 cases rr;cases r;cases r';obtain⟨i1,v1,p1⟩:=xV I1 qx;obtain⟨i2,v2,p2⟩:=xV I1 qy;refine DQ p1 p2 λg st hk=>wpAny_pyIter_zip st.1 ?_;have I2:aM X pins σ H1 {s1 with heap:=g,toks:=s1.toks}:=I1.kept (t':=s1.toks) λb o e=>hk b o e;have nn:∀i j:Nat,i≠j->(↑s1+i:Nat)≠↑s1+j:=λi j h=>by lia
 refine⟨↑s1+4,[↑s1+4,↑s1+2,↑s1+3,↑s1,↑s1+1],_,_,H1,rfl,I2,DL a b (nn 3 4 ⋯) (nn 0 4 ⋯) (nn 1 4 ⋯) (nn 3 0 ⋯) (nn 3 1 ⋯) (nn 0 1 ⋯) (nn 2 4 ⋯) (nn 2 3 ⋯) (nn 2 0 ⋯) (nn 2 1 ⋯),st,λc hc=>?_,q⟩;have le:↑s1<=c:=by
  simp only[Uy,UK,or_false]at hc;rcases hc with rfl|rfl|rfl|rfl|rfl;·exact XZ _ 4
  ·exact XZ _ 2
  ·exact XZ _ 3
  ·exact VA _
  ·exact XZ _ 1
 have f:=I1.fpOk (H':=H1) le (I1.hok.fresh le);exact f
section
variable{X:Cx}{K:⇑0}{es:List TU}{k0:Nat}{tp:Pos}{a b:TU}{fs:FA}{p pos:Pos}
theorem Gz{H:Hp}{l:TM}{vs:List V}{b:Bool}(h:if b=true then jU K H l vs else fj K H l vs):yV b K H l vs:=match b,h with|true,h=>h|false,h=>h
theorem mM(hK:X.K=K)(hg:Gl X "zip")(hm:X.mg "zip"=none)(ha:PA X [a,b] (fA K fs))(hs:Ue [a,b] X.env=[(false,Ui a X.env),(false,Ui b X.env)])(hs2:Ue [b] X.env=[(false,Ui b X.env)]):PI X (.Tuple es k0 tp) (.Call (.Name "zip" p) [a,b] [] pos) (fI K (nH fs)):=(Cg (b1:=false) (b2:=false) (es:=es) (k0:=k0) (tp:=tp) hK hg hm ha hs hs2).mono λσ H R hh=>by obtain⟨F,e,items,own,e',R0,hf,q⟩:=hh;unfold nH at hf;obtain⟨⟨rs,e1⟩,h1,hf⟩:=Tz hf;match rs,h1,hf with|[.d (.tuple xs),.d (.tuple ys)],h1,hf=>cases hf;refine⟨F,e,_,e1,R0,h1,λF1 H1 vs X1 R1 A1=>?_⟩;obtain⟨v,u,rfl,a1,a2⟩:=s_ A1;obtain⟨p1,vs,rfl,s1,d1⟩:=dk.mp (show DA K F1 (.tuple xs) v from a1);obtain⟨p2,us,rfl,s2,d2⟩:=dk.mp (show DA K F1 (.tuple ys) u from a2);exact⟨p1,p2,rfl,⟨vs,R1.sm.tup s1⟩,⟨us,R1.sm.tup s2⟩,q _ F1 H1 X1 R1 (λz hz=>by cases hz) (zA (own1:=[]) (own2:=[]) (P:=fj K) (Q:=fj K) (.tup s1 d1) (.tup s2 d2) (λ_ _ h=>h) (λ_ _ h=>h) (λi H vs us x y h1 h2 h3 h4=>⟨vs,us,x,y,h1,h2,h3,h4⟩) (λi H vs us h1 h2 h3=>⟨vs,us,h1,h2,h3⟩) λi H v H' h=>h)⟩
end
section
variable{X:Cx}{K:⇑0}{es:List TU}{k0:Nat}{tp:Pos}{a b:TU}{fs:FA}{p pos:Pos}
def EJ(fs:FA):FI:=λe=>(fs e).bind λp=>match p.1 with|[.d (.list xs),.d (.tuple ys)]=>some (cI xs ys,[],p.2)|_=>none
theorem IP(hK:X.K=K)(hg:Gl X "zip")(hm:X.mg "zip"=none)(ha:PA X [a,b] (fA K fs))(hs:Ue [a,b] X.env=[(false,Ui a X.env),(false,Ui b X.env)])(hs2:Ue [b] X.env=[(false,Ui b X.env)]):PI X (.Tuple es k0 tp) (.Call (.Name "zip" p) [a,b] [] pos) (fI K (EJ fs)):=(Cg (b1:=true) (b2:=false) (es:=es) (k0:=k0) (tp:=tp) hK hg hm ha hs hs2).mono λσ H R hh=>by obtain⟨F,e,items,own,e',R0,hf,q⟩:=hh;unfold EJ at hf;obtain⟨⟨rs,e1⟩,h1,hf⟩:=Tz hf;match rs,h1,hf with|[.d (.list xs),.d (.tuple ys)],h1,hf=>cases hf;refine⟨F,e,_,e1,R0,h1,λF1 H1 vs X1 R1 A1=>?_⟩;obtain⟨v,u,rfl,a1,a2⟩:=s_ A1;obtain⟨p1,vs,rfl,s1,d1⟩:=dD.mp (show DA K F1 (.list xs) v from a1);obtain⟨p2,us,rfl,s2,d2⟩:=dk.mp (show DA K F1 (.tuple ys) u from a2);exact⟨p1,p2,rfl,⟨vs,R1.sm.seq s1⟩,⟨us,R1.sm.tup s2⟩,q _ F1 H1 X1 R1 (λz hz=>by cases hz) (zA (own1:=[]) (own2:=[]) (P:=jU K) (Q:=fj K) (.lst s1 d1) (.tup s2 d2) (λ_ _ h=>h) (λ_ _ h=>h) (λi H vs us x y h1 h2 h3 h4=>⟨vs,us,x,y,h1,h2,h3,h4⟩) (λi H vs us h1 h2 h3=>⟨vs,us,h1,h2,h3⟩) λi H v H' h=>h)⟩
end
def Kf(bb:Bool)(K:⇑0)(l:TM):It:=⟨λi H=>∃xs x,yV bb K H l xs/\xs[i]?=some x,λi H v H'=>∃p x,v=.ref p/\H p=none/\H'=cg H p (.tup [.int i,x])/\∀xs,yV bb K H l xs->xs[i]?=some x,λi H=>∃xs,yV bb K H l xs/\xs.length<=i⟩
def BW(bb:Bool)(e it l:TM)(i:Nat)(h:Ua):Prop:=(∃old,IsEnum h e it i old)/\My bb it l i h
theorem BA{bb:Bool}{P:Uc}{w:TX}{K:⇑0}{es:List TU}{k0:Nat}{pos:Pos}{e it:TM}(l:TM)(ne:e≠it):AL P w K (.Tuple es k0 pos) (Kf bb K l) [e,it] e (BW bb e it l) where
 mem:=by simp
 obj:=λi h st c hb=>by
  obtain⟨⟨old,he⟩,u⟩:=st;simp only[Uy,UK,or_false]at hb;rcases hb with rfl|rfl;·exact⟨_,he,λv z=>by cases z⟩
  ·exact(l5 (prog:=P) (w:=w) bb _ _).live u
 keep:=λi h h' st k=>by obtain⟨⟨old,he⟩,u⟩:=st;exact⟨⟨old,k _ ↥1 _ he⟩,(l5 (prog:=P) (w:=w) bb _ _).stay u λo e=>k _ ↥1 o e⟩
 item:=by
  intro X hP hw hK hc i pins s σ H E I hf st hg;subst hP hw hK;obtain⟨xs,x,q1,hx⟩:=hg;obtain⟨⟨old,he⟩,u⟩:=id st;obtain⟨its,rv,p⟩:=xV I q1;obtain⟨ux,hux,rux⟩:=rv.get hx;have fe:=hf e ↥1;have ft:=hf it ↥1;have n1:l≠e:=yW I fe q1;have n2:l≠it:=yW I ft q1;have hi:i<its.toArray.size:=by have:=(TC hux).1;simpa using this
  refine wpAny_pyNext_enum_itemD (Gs (A:=X.A.in1) (l5 bb it l) (show X.A.in1.handled=none from I.ok.hd hc) n2 its.toArray) he ⟨u,p⟩ hi ne (by simpa using⟨ne,λz=>n1 z.symm⟩) λx' g tk hP ho hs hT hsz hk=>?_;have ex:x'=ux:=by
   have:its[i]?=some x':=by simpa using hP
   rw[hux]at this;exact(UH this).symm
  subst ex;refine⟨_,rfl,wpAny_letOwnedTupleGo_enum ho λg' he' ge=>?_⟩;have lt:∀b∈[e,it],b<↑s:=λb hb=>by
   simp only[Uy,UK,or_false]at hb;rcases hb with rfl|rfl;·exact Up he
   ·obtain⟨o,e,_⟩:=(l5 (prog:=X.prog) (w:=X.w) bb _ _).live u;exact Up e
  have hTn:H ↑s=none:=I.hok.fresh ↥8;have vv:bc [.int i,x] [.int i tk,x']:=.cons ⟨tk,rfl⟩ (.cons rux .nil);have I1:aM X pins σ (cg H ↑s (.tup [.int i,x])) {s with heap:=s.heap.push {cls:=.type "tuple",data:=.seq #[.int i tk,x']},toks:=s.toks}:=I.laid (t':=s.toks) (λb u e=>UC _ e) ↥8 ⟨(by show 2<=Uj;decide),[.int i tk,x'],vv,tI.new _ _⟩;have hf1:∀b∈[e,it],jS X pins (cg H ↑s (.tup [.int i,x])) b:=λb hb=>by obtain⟨f0,fr⟩:=hf b hb;exact⟨by rw[aJ (Vf (lt b hb))];exact f0,fr⟩
  have I2:aM X pins σ (cg H ↑s (.tup [.int i,x])) {s with heap:=g',toks:=tk+1}:=by
   refine I1.turnedL (t':=tk+1) hf1 λb o nb eb=>?_;have nb':b≠e/\b≠it:=by simpa using nb
   refine ge.extBut _ _ nb'.1 ?_;rcases Heap.get?_push_cases eb with⟨rfl,rfl⟩|eb;·exact hT
   ·exact hk b o nb'.1 nb'.2 eb
  refine⟨.ref ↑s,_,I2,rfl,⟨_,x,rfl,hTn,rfl,λxs' w1=>by rw[Ky I w1 q1];exact hx⟩,⟨⟨_,by simpa using he'⟩,(l5 (prog:=X.prog) (w:=X.w) bb _ _).stay hs.1 λo e=>ge.extBut _ _ (λz=>ne z.symm) e⟩,λb hb=>(hf1 b hb).1⟩
 done:=by
  intro X hP hw hK hc i pins s σ H E I hf st hg;subst hP hw hK;obtain⟨xs,q1,hn⟩:=hg;obtain⟨⟨old,he⟩,u⟩:=id st;obtain⟨its,rv,p⟩:=xV I q1;have e1:=rv.length;refine CZ (xs:=its.toArray) (l5 bb it l) (I.ok.hd hc) he u p ↥7 λg gk=>⟨rfl,I.turnedL (t':=s.toks) hf λb o nb eb=>?_⟩;have nb':b≠e/\b≠it:=by simpa using nb
  exact gk b o nb'.2 eb
 self:=λA i s Q E st h=>by obtain⟨⟨old,he⟩,u⟩:=st;exact wz he h
theorem AW{prog:Uc}{w:TX}{A:Ud}{E:TL->TQ->Prop}{s:TQ}{b:Bool}{l:TM}{xs:Array TL}{Q:TL->TQ->Prop}(t1:DS b s.heap l xs)(h:∀g,BW b (↑s+1) ↑s l 0 g->(∀c o,s.heap.get? c=some o->g.get? c=some o)->Q (.ref (↑s+1)) {s with heap:=g}):TY (TZ prog w) A (call (.type "enumerate") [.ref l]) Q E s:=match b,t1,h with|true,t1,h=>call_enumerate_list t1 λg he hit hsz hk=>h g ⟨⟨_,he⟩,hit⟩ hk|false,t1,h=>AX t1 h
def N6(b:Bool)(K:⇑0)(ta:TA):TI:=λσ H R=>ta σ H λvs H1=>∃a,vs=[.ref a]/\(∃xs,yV b K H1 a xs)/\R (Kf b K a) H1
section
variable{X:Cx}{K:⇑0}{es:List TU}{k0:Nat}{tp:Pos}{a:TU}{ta:TA}{p pos:Pos}
theorem FC{b:Bool}(hK:X.K=K)(hg:Gl X "enumerate")(hm:X.mg "enumerate"=none)(ha:PA X [a] ta)(hs:Ue [a] X.env=[(false,Ui a X.env)]:=by rfl):PI X (.Tuple es k0 tp) (.Call (.Name "enumerate" p) [a] [] pos) (N6 b K ta):=by
 intro pins s σ H R I h;subst hK;refine Call_ (mI I hg hm tN (Xi (dn (ha pos pins s σ H _ I h) λus s1⟨vs,H1,I1,r1,q1⟩=>?_) hs rfl));obtain⟨a,e,⟨xs,qx⟩,q⟩:=q1;subst e;obtain⟨u,rfl,ru⟩:=ur r1;cases ru;obtain⟨i1,v1,p1⟩:=xV I1 qx;refine AW p1 λg st hk=>?_;obtain⟨⟨old,he⟩,hit⟩:=id st;refine wz he ?_;have I2:aM X pins σ H1 {s1 with heap:=g,toks:=s1.toks}:=I1.kept (t':=s1.toks) λb o e=>hk b o e;refine⟨↑s1+1,[↑s1+1,↑s1],_,_,H1,rfl,I2,BA a (show((↑s1+1:Nat)≠↑s1) by lia),st,λc hc=>?_,q⟩;have le:↑s1<=c:=by
  simp only[Uy,UK,or_false]at hc;rcases hc with rfl|rfl;·exact XZ _ 1
  ·exact VA _
 exact I1.fpOk (H':=H1) le (I1.hok.fresh le)
end
section
variable{X:Cx}{K:⇑0}{es:List TU}{k0:Nat}{tp:Pos}{a:TU}{fs:FA}{p pos:Pos}
theorem A6{σ:L2.St}{b:Bool}{p:TM}{xs:List TN}{own:kG}{F0:Hp}(h:D2 K σ F0 p b xs own):AI K σ (Kf b K p) (jW 0 xs) own F0:=by intro F H s0 s1 hh;obtain⟨vs,d,q⟩:=h.at s0 s1 hh λ_ h=>h;have q:yV b K H p vs:=Gz q;rw[m8];refine⟨λi hi=>⟨vs,vs[i]'(by rw[<-d.len];exact hi),q,Um _⟩,λi hi=>⟨vs,q,by rw[<-d.len];exact hi⟩,λi x v H' hx hy=>?_⟩;obtain⟨t,y,rfl,ht,rfl,hy⟩:=hy;rw[m7]at hx;obtain⟨x',hx2,rfl⟩:=TB hx;obtain⟨w,g1,g2⟩:=d.get hx2;have e:=hy vs q;rw[g1]at e;cases e;exact zN s1 ht (bZ.mpr ↥1) g2
theorem z_(hK:X.K=K)(hg:Gl X "enumerate")(hm:X.mg "enumerate"=none)(ha:PA X [a] (fA K fs))(hs:Ue [a] X.env=[(false,Ui a X.env)]):PI X (.Tuple es k0 tp) (.Call (.Name "enumerate" p) [a] [] pos) (fI K (B1 fs)):=by intro pins s σ H R I hh;obtain⟨F,e,items,own,e',R0,hf,q⟩:=hh;unfold B1 at hf;obtain⟨⟨rs,e1⟩,h1,hf⟩:=Tz hf;match rs,h1,hf with|[r],h1,hf=>obtain⟨⟨b,xs,ow⟩,h2,hf⟩:=TB hf;cases hf;refine FC (b:=b) (es:=es) (k0:=k0) (tp:=tp) hK hg hm ha hs pins s σ H R I ⟨F,e,_,e1,R0,h1,λF1 H1 vs X1 R1 A1=>?_⟩;obtain⟨v,rfl,A2⟩:=pX A1;obtain⟨F2,p,R2,s2,f2,rfl,sc,kp⟩:=yF R1 A2 h2;obtain⟨vs,_,c⟩:=sc.at (aF.refl _) R2.sm (R2.held kp) λ_ h=>h;exact⟨p,rfl,⟨vs,Gz c⟩,q _ F2 H1 (X1.frz s2 f2) R2 kp (A6 sc)⟩
end
section
variable(P:Uc)(w:TX)
end
section
variable{P:Uc}{w:TX}{H H':Hp}{h h':Ua}{a:TM}{o:HO}
end
section
variable{P:Uc}{w:TX}{H:Hp}{h h':Ua}{x e:TM}{o':HO}
end
section
variable{fs fs' ex ex':List TM}{H H1 H2:Hp}{h h1 h2 h':Ua}{a x e:TM}{o:HO}
end
section
variable{X:Cx}{pins:List (TM×Obj)}{σ:List (Option V)}{H H':Hp}{s:TQ}{h':Ua}
end
section
variable{X:Cx}
variable{a b:TU}{ta tb:TE}{pos:Pos}
variable{tA tB':TT}{iL:List TU}
end
section
variable{X:Cx}{pins:List (TM×Obj)}{σ:St}{H:Hp}{s:TQ}{a:TM}{xs ys:List V}
end
section
variable{X:Cx}{pins:List (TM×Obj)}{σ:St}{H:Hp}{s:TQ}{E:TL->TQ->Prop}
end
section
variable{X:Cx}{st:Ub}{iL:List Ub}{t u:TS}{e:TU}{te:TE}{pos:Pos}
end
section
variable{X:Cx}{pos:Pos}
end
section
variable{X:Cx}{pos:Pos}
end
section
variable{X:Cx}{tg:TU}
end
section
variable{X:Cx}{a b c:TU}{ta tb tc:TE}{pos:Pos}
end
section
variable{X:Cx}{a b c:TU}{ta tb tc:TE}{pos:Pos}
end
section
variable{prog:Uc}{w:TX}{A:Ud}{E:TL->TQ->Prop}{s:TQ}{K:⇑0}{x dx C f:TM}{mA:Str->Option TL}{name:Str}{v:TL}
end
section
variable{P:Uc}{w:TX}{H H':Hp}{h h':Ua}{a C dx:TM}{fs fs':List (Str×V)}
end
section
variable{X:Cx}{pins:List (TM×Obj)}{σ:St}{H:Hp}{s:TQ}{a C dx:TM}{fs:List (Str×V)}{f:Str}{v:V}{A:Ud}{E:TL->TQ->Prop}
end
section
variable{X:Cx}{o e value:TU}{f:Str}{pos pos' tpos:Pos}{ta tv:TE}
end
section
variable{X:Cx}{pins:List (TM×Obj)}{σ:St}{H:Hp}{s:TQ}{A:Ud}{E:TL->TQ->Prop}{Q:TL->TQ->Prop}{c:TL}{b:Bool}
end
section
variable{X:Cx}{e:TU}{es:List TU}{te:TE}{t:TA}{pos:Pos}
end
section
variable{X:Cx}{pins:List (TM×Obj)}{σ:St}{H:Hp}{s s':TQ}
end
section
variable{X:Cx}{CX:AH}{k:Nat}{f C:TM}{fd:UM}{ps:List Str}{sp:Sp}{dvs:List V}{ds:List TL}{E:XK}{x m:Str}{p pos apos:Pos}{e o:TU}{es:List TU}{ta:TE}{t:TA}
end
section
variable{X:Cx}{CX:AH}{k:Nat}{f C:TM}{fd:UM}{ps ks:List Str}{sp:Sp}{E:XK}{x m:Str}{p pos apos kpos:Pos}{e o:TU}{es:List TU}{kws:List Vn}{te ta:TE}{t tk:TA}{nm:Option Str}
variable{g:List TL->List TL->List TL}{gV:List V->List V->List V}
end
section
variable{X:Cx}{x:Str}{p pos:Pos}{e:TU}{es:List TU}{t:TA}{id T:String}{r:List V->Hp->VK->Prop}
end
section
variable{κ:Type}[DecidableEq κ]
end
section
variable{P:Uc}{w:TX}{H:Hp}{h:Ua}{a:TM}
end
section
variable{X:Cx}{pins:List (TM×Obj)}{σ:St}{H:Hp}{s:TQ}{a:TM}{y v:V}{u r:TL}{o:Option V}{A:Ud}{E:TL->TQ->Prop}
end
section
variable{X:Cx}{pins:List (TM×Obj)}{σ:St}{H:Hp}{s:TQ}{a:TM}{kvs:List (nY×V)}{k:nY}{u:TL}{A:Ud}{E:TL->TQ->Prop}
end
section
variable{X:Cx}{o i e value:TU}{pos pos' tpos:Pos}{td ty tv:TE}
end
section
variable{X:Cx}{pos:Pos}
end
structure M2 (X:Cx) (o:TU) (m:Str) (apos:Pos) (e f:TU) (cpos:Pos):Prop where
 base:WU o m X.env (Ui o X.env)=Ui o X.env
 few:((UD cpos (Ue [e,f] X.env)).all (λx=>!x.1)&&(backToKw cpos (WV [] X.env)).all (λx=>x.1.isSome)&&decide (([e,f]:List TU).length+([]:List Vn).length+(if ([]:List Vn).isEmpty then 0 else 1)<30))=true
 line:(apos.endLine==cpos.line)=true
 trees:UD cpos (Ue [e,f] X.env)=[(false,Ui e X.env),(false,Ui f X.env)]
section
variable{X:Cx}{pins:List (TM×Obj)}{σ:St}{H:Hp}{s:TQ}{a:TM}{y d:V}{u r:TL}{o:Option V}{A:Ud}{E:TL->TQ->Prop}
end
section
variable{X:Cx}{o e f:TU}{apos cpos:Pos}{td ty tx:TE}
end
section
variable{X:Cx}{pins:List (TM×Obj)}{σ:St}{H:Hp}{s:TQ}{a:TM}{kvs:List (nY×V)}{A:Ud}{E:TL->TQ->Prop}
end
section
variable{X:Cx}{pins:List (TM×Obj)}{σ:St}{H:Hp}{s:TQ}{a:TM}{y:V}{u:TL}{A:Ud}{E:TL->TQ->Prop}
end
end L2
namespace Att
open PySem PySem.W PySem.Calls PyProof.Rows
section
variable{prog:Uc}{w:TX}{A:Ud}{E:TL->TQ->Prop}{s:TQ}{K:Frag}
end
end Att
namespace L2
open PySem PySem.Spec PyProof.Rows
section
variable{P:Uc}{w:TX}{K:⇑0}{mg:Str->Option TL}{base:Ua}
end
section
variable{X:Cx}
end
section
variable{κ:Type}[DecidableEq κ]
end
section
variable{prog:Uc}{w:TX}{A:Ud}{R:Result->TQ->Prop}
end
structure NH (cp:List (Nat×Str)) (nT:Nat) (wi:TI) (g:TG) (tk tv:TE) (σ:L2.St) (H:Hp) (Q:VK):Prop where go:wi σ H λJ H1=>∀l,H1 l=none->∃W:Nat->Nat->L2.St->Hp->Prop,(∃m,W 0 m (ji cp nT σ) (cg H1 l (.dK [])))/\∀i m σ' H',W i m σ' H'->(J.stop i H'/\Q (.ref l) H')\/(J.go i H'/\∃N:L2.St->Hp->Prop,(∀σ2 H2,N σ2 H2->∃m',m'<m/\W (i+1) m' σ2 H2)/\∀x H2,J.yld i H' x H2->g x σ' H2 λσ2 H4=>tk σ2 H4 λy H5=>tv σ2 H5 λv H6=>∃(kk:nY) (kvs:List (nY×V)),y=kV kk/\H6 l=some (.dK kvs)/\kvs.length<Uj/\N σ2 (cg H6 l (.dK (MU kvs kk v))))
abbrev NA:=Int×Int×Int
def pD(p:NA):TN×TN:=(.int p.1,.tuple [.int p.2.1,.int p.2.2])
section
variable{K:⇑0}{F H F' H':Hp}{σ σ':L2.St}{e e':En}{cp:List (Nat×Str)}{nT:Nat}
def OR(m:List (Int×yX))(acc:List NA):Prop:=m.map aD=acc.map pD
inductive OJ (K:⇑0) (W:List Nat) (σ0:L2.St) (F1 H1:Hp) (e0:En) (l:TM) (P:Hp->En->List NA->Prop) (σ':L2.St) (H':Hp):Prop|mk{F':Hp}{ei:En}{acc:List NA}{m:List (Int×yX)}(R:bz K F' H' σ' ei) (X:er W σ0 F1 H1 e0 σ' F' H' ei) (fl:F' l=none) (hl:H' l=some (.dK (m.map aK))) (ok:∀p∈m,p.2.ok K F') (ha:OR m acc) (hc:P F' ei acc):OJ K W σ0 F1 H1 e0 l P σ' H'
end
section
variable{X:Cx}{K:⇑0}{pos:Pos}
end
theorem wx{X:Cx}{use:Option (TL->Sem Unit)}{RR:TL->TQ->Prop}{pins:List (TM×Obj)}{s:TQ}{σ:L2.St}{H:Hp}{Q:VK}{elt iter tg iter2 tg2:TU}{ifs ifs2:List TU}{scope:Us}{pos:Pos}{wi wi2:TI}{g g2:TG}{tc tc2:TT}{te:TE}(sc0:Us)(N0:List Str)(cp:List (Nat×Str))(tgN:List Str)(hc:X.calm=true)(hsc:X.env.scope=sc0)(hN0:X.N=N0)(hi:PI X tg iter wi)(hg:∀C s0 H0 fp,PG (ar X scope cp tgN C s0 H0 fp) tg g)(ht:∀C s0 H0 fp,tJ (ar X scope cp tgN C s0 H0 fp) ifs tc)(hi2:∀C s0 H0 fp,PI (ar X scope cp tgN C s0 H0 fp) tg2 iter2 wi2)(hg2:∀C s0 H0 fp,PG (ar X scope cp tgN C s0 H0 fp) tg2 g2)(ht2:∀C s0 H0 fp,tJ (ar X scope cp tgN C s0 H0 fp) ifs2 tc2)(he:∀C s0 H0 fp,PE (ar X scope cp tgN C s0 H0 fp) elt te)(hk:scope.kind=.function)(hown:∀y∈scope.names,y.2=.cell->scope.names.lookup y.1=some .cell)(hnames:∀y∈scope.names,y.2=.local->scope.names.lookup y.1=some .local)(hfr:∀y∈scope.names,y.2=.free->scope.names.lookup y.1=some .free/\sc0.names.lookup y.1=some .cell)(hcp:∀p∈cp,N0[p.1]?=some p.2)(hcq:∀p∈cp,sc0.names.lookup p.2=some .cell/\scope.names.lookup p.2=some .free)(hs2:∀C s0 H0 fp x,Va iter2 (ar X scope cp tgN C s0 H0 fp).env x=pure x)(hs:∀x,Va iter X.env x=pure x)(I:aM X pins σ H s)(h:yH cp tgN.length wi g tc wi2 g2 tc2 te σ H Q)(fin:∀(C D:TM) (H5:Hp) (s6:TQ),(∃m,s6.heap.Ns C m)->Q (.ref D) H5->jS X pins H5 C->(∀h',WB C s6.heap h'->aM X pins σ H5 {s6 with heap:=h'})->compPost (TZ X.prog X.w) X.A X.xe use RR (.ref D) C (.ok .next) s6):TY (TZ X.prog X.w) X.A (comprehension (.ListComp elt [⟨tg,iter,ifs,0⟩,⟨tg2,iter2,ifs2,0⟩] scope pos) scope X.env (firstIterPos [⟨tg,iter,ifs,0⟩,⟨tg2,iter2,ifs2,0⟩] pos) (newList []) (firstAsync [⟨tg,iter,ifs,0⟩,⟨tg2,iter2,ifs2,0⟩]) (firstIter [⟨tg,iter,ifs,0⟩,⟨tg2,iter2,ifs2,0⟩] X.env) use) RR X.xe s:=by
 have hkind:∀x,X.env.kindOf x=sc0.names.lookup x:=λx=>by unfold Env.kindOf;rw[hsc]
 have hfree:∀y∈scope.names,y.2=.free->∃c,X.env.cells.lookup y.1=some c:=λy hy e=>I.ok.has y.1 (.inl (by rw[hkind];exact(hfr y hy e).2));refine wpAny_comprehension_free (use:=use) rfl hs (tQ hfree) hk hnames (UE (hi pins s σ H _ I h.go) (λxv s₁ h₁=>UE h₁ (λitv s₂ h₂=>?_) λ_ _ e=>e) λ_ _ e=>e);obtain⟨it,fp,tn,J,H2,rfl,I2,T,st2,f2,hq⟩:=h₂;refine VY ?_;have hlF:H2 ↑s₂=none:=I2.hok.fresh ↥8;have I3:aM X pins σ (cg H2 ↑s₂ (.lst [])) {s₂ with heap:=s₂.heap.push {cls:=.type "list",data:=.seq ([]:List TL).toArray}}:=I2.lnew (t':=s₂.toks) .nil (Wv _);obtain⟨W,⟨m0,w0⟩,turn⟩:=hq _ hlF;have f3:∀b∈fp,jS X pins (cg H2 ↑s₂ (.lst [])) b:=λb hb=>by obtain⟨f0,fr⟩:=f2 b hb;obtain⟨o,ho,_⟩:=T.obj _ _ st2 b hb;exact⟨by rw[aJ (Vf (Up ho))];exact f0,fr⟩
 have st3:tn 0 (s₂.heap.push {cls:=.type "list",data:=.seq ([]:List TL).toArray}):=T.keep _ _ _ st2 λb _ o e=>UC _ e;generalize hD:↑s₂=D at*;generalize hs3:({s₂ with heap:=s₂.heap.push {cls:=.type "list",data:=.seq ([]:List TL).toArray}}:TQ)=s₃ at*;have hst3:tn 0 s₃.heap:=by rw[<-hs3];exact st3
 refine Ce (λh₁ hns₁ old hownC apC=>?_);generalize hC:↑s₃=C at*;have nC:∀b o,s₃.heap.get? b=some o->b≠C:=λb o e=>by rw[<-hC];exact Vf (Up e)
 obtain⟨ok',I4⟩:=ww (cp:=cp) (tgN:=tgN) hsc hN0 hk hown hfr hcp hcq I3 f3 (λb hb=>let⟨o,e,_⟩:=T.obj _ _ hst3 b hb;⟨o,e⟩) hC hns₁ old hownC apC;have hst4:tn 0 h₁:=T.keep _ _ _ hst3 λb _ o e=>old b o e;have loop:VE (TZ X.prog X.w) X.A (.compLoop (.ListComp elt [⟨tg,iter,ifs,0⟩,⟨tg2,iter2,ifs2,0⟩] scope pos) 0 (.ref it) (.ref D) (compEnvC scope (UF (C+1) scope.names (kU X.env scope.names [])) C X.env)) (compPost (TZ X.prog X.w) X.A X.xe use RR (.ref D) C) {s₃ with heap:=h₁}:=by
  refine xH (λn s'=>∃i σ' H',aM (ar X scope cp tgN C s₃ (cg H2 D (.lst [])) fp) [] σ' H' s'/\tn i s'.heap/\(∀b∈fp,H' b=none)/\W i n σ' H') ?_ (n0:=m0) ⟨0,_,_,I4,hst4,λb hb=>(f3 b hb).1,w0⟩;rintro n s5⟨i,σ5,H5,I5,st5,fr5,w5⟩;have stat:∀{H':Hp},(∀b∈fp,H' b=none)->∀b∈fp,jS (ar X scope cp tgN C s₃ (cg H2 D (.lst [])) fp) [] H' b:=λhn b hb=>⟨hn b hb,(ok'.exf b hb).1,ok'.exfs b hb,.inl hb,(ok'.exf b hb).2,λp hp=>by simp[ar]at hp⟩;rcases turn i n σ5 H5 w5 with⟨stop,qn⟩|⟨go,N,hN,step⟩;·refine dn (T.done (ar X scope cp tgN C s₃ (cg H2 D (.lst [])) fp) rfl rfl rfl hc i [] s5 σ5 H5 (λ_ _=>False) I5 (stat fr5) st5 stop) λr s6⟨hr,I6⟩=>?_;subst hr;refine⟨λ_=>?_,λv z=>by cases z⟩;obtain⟨m,hn,_⟩:=I6.loc;exact fin C D H5 s6 ⟨m,hn⟩ qn (I3.fpOk (by rw[hC];exact VA _) I6.free) (wy I3 f3 nC I6)
  ·refine dn (T.item (ar X scope cp tgN C s₃ (cg H2 D (.lst [])) fp) rfl rfl rfl hc i [] s5 σ5 H5 (λ_ _=>False) I5 (stat fr5) st5 go) λr s6⟨u,hr,h6⟩=>?_;subst hr;refine⟨λz=>(by cases z),λv z=>?_⟩;cases z;refine dn h6 λ_ s7⟨x,H7,I7,r7,y7,st7,fr7⟩=>?_;have I7':=I7.pinned (stat fr7) (T.obj _ _ st7);have again:∀{σ8:L2.St}{H8:Hp}{s8:TQ},aM (ar X scope cp tgN C s₃ (cg H2 D (.lst [])) fp) ([]++oJ fp s7.heap) σ8 H8 s8->N σ8 H8->∃m,m<n/\∃i σ' H',aM (ar X scope cp tgN C s₃ (cg H2 D (.lst [])) fp) [] σ' H' s8/\tn i s8.heap/\(∀b∈fp,H' b=none)/\W i m σ' H':=fun{σ8 H8 s8}I8 n8=>by obtain⟨m',hm,w8⟩:=hN σ8 H8 n8;refine⟨m',hm,i+1,σ8,H8,I8.unpinned,T.keep _ _ _ st7 λb hb o e=>(I8.pin (b,o) (UR _ (UR _ (dO hb e)))).1,λb hb=>?_,w8⟩;obtain⟨o,e,d⟩:=T.obj _ _ st7 b hb;exact(I8.pin (b,o) (UR _ (UR _ (dO hb e)))).2.1
   refine dn (hg C s₃ (cg H2 D (.lst [])) fp _ s7 σ5 H7 x u _ I7' r7 (step x H7 y7)) λ_ s8⟨σ8,H8,I8,q8⟩=>?_;refine dn (ht C s₃ (cg H2 D (.lst [])) fp _ s8 σ8 H8 _ I8 q8) λok s9⟨H9,I9,q9⟩=>?_;cases ok with|false=>rw[if_neg Vw]at q9⊢;exact again I9 q9|true=>rw[if_pos rfl]at q9⊢;exactλk Q' E' hk=>EK (Y:=ar X scope cp tgN C s₃ (cg H2 D (.lst [])) fp) hc rfl (hi2 C s₃ _ fp) (hg2 C s₃ _ fp) (ht2 C s₃ _ fp) (he C s₃ _ fp) (hs2 C s₃ _ fp) I9 q9 k Q' E' λs'⟨σ11,H11,I11,q11⟩=>hk s' (again I11 q11)
 exact codeAny_compStart_list loop (T.self X.A 0 _ _ _ hst4 loop)
theorem Dp{X:Cx}{elt iter tg iter2 tg2:TU}{ifs ifs2:List TU}{scope:Us}{pos:Pos}{wi wi2:TI}{g g2:TG}{tc tc2:TT}{te:TE}(sc0:Us)(N0:List Str)(cp:List (Nat×Str))(tgN:List Str)(hc:X.calm=true)(hsc:X.env.scope=sc0)(hN0:X.N=N0)(hi:PI X tg iter wi)(hg:∀C s0 H0 fp,PG (ar X scope cp tgN C s0 H0 fp) tg g)(ht:∀C s0 H0 fp,tJ (ar X scope cp tgN C s0 H0 fp) ifs tc)(hi2:∀C s0 H0 fp,PI (ar X scope cp tgN C s0 H0 fp) tg2 iter2 wi2)(hg2:∀C s0 H0 fp,PG (ar X scope cp tgN C s0 H0 fp) tg2 g2)(ht2:∀C s0 H0 fp,tJ (ar X scope cp tgN C s0 H0 fp) ifs2 tc2)(he:∀C s0 H0 fp,PE (ar X scope cp tgN C s0 H0 fp) elt te)(hk:scope.kind=.function)(hown:∀y∈scope.names,y.2=.cell->scope.names.lookup y.1=some .cell)(hnames:∀y∈scope.names,y.2=.local->scope.names.lookup y.1=some .local)(hfr:∀y∈scope.names,y.2=.free->scope.names.lookup y.1=some .free/\sc0.names.lookup y.1=some .cell)(hcp:∀p∈cp,N0[p.1]?=some p.2)(hcq:∀p∈cp,sc0.names.lookup p.2=some .cell/\scope.names.lookup p.2=some .free)(hs2:∀C s0 H0 fp x,Va iter2 (ar X scope cp tgN C s0 H0 fp).env x=pure x)(hs:∀x,Va iter X.env x=pure x:=by intro _;rfl):PE X (.ListComp elt [⟨tg,iter,ifs,0⟩,⟨tg2,iter2,ifs2,0⟩] scope pos) (yH cp tgN.length wi g tc wi2 g2 tc2 te):=by intro pins s σ H Q I h;rw[eval_ListComp];exact wx sc0 N0 cp tgN hc hsc hN0 hi hg ht hi2 hg2 ht2 he hk hown hnames hfr hcp hcq hs2 hs I h λC D H5 s6⟨m,hn⟩q _ key=>⟨m,hn,λh' sb=>⟨.ref D,H5,key h' sb,rfl,q⟩⟩
theorem yw{X:Cx}{ix:Nat}{nm:Str}{posn poss:Pos}{elt iter tg iter2 tg2:TU}{ifs ifs2:List TU}{scope:Us}{pos:Pos}{wi wi2:TI}{g g2:TG}{tc tc2:TT}{te:TE}(sc0:Us)(N0:List Str)(cp:List (Nat×Str))(tgN:List Str)(hc:X.calm=true)(hsc:X.env.scope=sc0)(hN0:X.N=N0)(hi:PI X tg iter wi)(hg:∀C s0 H0 fp,PG (ar X scope cp tgN C s0 H0 fp) tg g)(ht:∀C s0 H0 fp,tJ (ar X scope cp tgN C s0 H0 fp) ifs tc)(hi2:∀C s0 H0 fp,PI (ar X scope cp tgN C s0 H0 fp) tg2 iter2 wi2)(hg2:∀C s0 H0 fp,PG (ar X scope cp tgN C s0 H0 fp) tg2 g2)(ht2:∀C s0 H0 fp,tJ (ar X scope cp tgN C s0 H0 fp) ifs2 tc2)(he:∀C s0 H0 fp,PE (ar X scope cp tgN C s0 H0 fp) elt te)(hk:scope.kind=.function)(hown:∀y∈scope.names,y.2=.cell->scope.names.lookup y.1=some .cell)(hnames:∀y∈scope.names,y.2=.local->scope.names.lookup y.1=some .local)(hfr:∀y∈scope.names,y.2=.free->scope.names.lookup y.1=some .free/\sc0.names.lookup y.1=some .cell)(hcp:∀p∈cp,N0[p.1]?=some p.2)(hcq:∀p∈cp,sc0.names.lookup p.2=some .cell/\scope.names.lookup p.2=some .free)(hNd:X.N.Nodup)(hix:X.N[ix]?=some nm)(hlc:X.env.scope.names.lookup nm=some .local)(hsw:Ws (.ListComp elt [⟨tg,iter,ifs,0⟩,⟨tg2,iter2,ifs2,0⟩] scope pos) (some (.Name nm posn)) poss.line X.env=pure true)(hs2:∀C s0 H0 fp x,Va iter2 (ar X scope cp tgN C s0 H0 fp).env x=pure x)(hs:∀x,Va iter X.env x=pure x:=by intro _;rfl):PS X (.Assign [.Name nm posn] (.ListComp elt [⟨tg,iter,ifs,0⟩,⟨tg2,iter2,ifs2,0⟩] scope pos) poss) (Jb (yH cp tgN.length wi g tc wi2 g2 tc2 te) (BZ ix)):=by intro pins s σ H D0 I h;rw[exec_Assign_Name_used _ _ _ _ hsw];refine TV (Wi (TV ?_));unfold evalThenUse;exact TV (wx sc0 N0 cp tgN hc hsc hN0 hi hg ht hi2 hg2 ht2 he hk hown hnames hfr hcp hcq hs2 hs I h (zm hNd hix hlc))
section
variable{X:Cx}{K:⇑0}{pos:Pos}
theorem FP{elt iter tg iter2 tg2:TU}{ifs ifs2:List TU}{scope:Us}{fi fi2:FI}{g g2:FG}{ft ft2:FT}{fe:FE}{W W2:List Nat}(cp:List (Nat×Str))(tgN:List Str)(hc:X.calm=true)(hi:PI X tg iter (fI K fi))(hg:∀C s0 H0 fp,PG (ar X scope cp tgN C s0 H0 fp) tg (fG K g W))(ht:∀C s0 H0 fp,tJ (ar X scope cp tgN C s0 H0 fp) ifs (fT K ft))(hi2:∀C s0 H0 fp,PI (ar X scope cp tgN C s0 H0 fp) tg2 iter2 (fI K fi2))(hg2:∀C s0 H0 fp,PG (ar X scope cp tgN C s0 H0 fp) tg2 (fG K g2 W2))(ht2:∀C s0 H0 fp,tJ (ar X scope cp tgN C s0 H0 fp) ifs2 (fT K ft2))(he:∀C s0 H0 fp,PE (ar X scope cp tgN C s0 H0 fp) elt (fE K fe))(hk:scope.kind=.function)(hch:CT X.env.scope scope X.N cp (W++W2)=true)(hs2:∀C s0 H0 fp x,Va iter2 (ar X scope cp tgN C s0 H0 fp).env x=pure x)(hs:∀x,Va iter X.env x=pure x):PE X (.ListComp elt [⟨tg,iter,ifs,0⟩,⟨tg2,iter2,ifs2,0⟩] scope pos) (fE K (kB cp tgN.length fi g ft fi2 g2 ft2 fe)):=by obtain⟨h0,h1,h2,h3,h4,h5,h6⟩:=sQ hch;exact(Dp X.env.scope X.N cp tgN hc rfl rfl hi (λC s0 H0 fp=>(hg C s0 H0 fp).wide λj hj=>Xy W2 hj) ht hi2 (λC s0 H0 fp=>(hg2 C s0 H0 fp).wide λj hj=>UR W hj) ht2 he hk h0 h1 h2 h3 h4 hs2 hs).mono λ_ _ _ h=>xn h5 h6 h
theorem zZ{ix:Nat}{nm:Str}{posn poss:Pos}{elt iter tg iter2 tg2:TU}{ifs ifs2:List TU}{scope:Us}{fi fi2:FI}{g g2:FG}{ft ft2:FT}{fe:FE}{W W2:List Nat}(cp:List (Nat×Str))(tgN:List Str)(hc:X.calm=true)(hi:PI X tg iter (fI K fi))(hg:∀C s0 H0 fp,PG (ar X scope cp tgN C s0 H0 fp) tg (fG K g W))(ht:∀C s0 H0 fp,tJ (ar X scope cp tgN C s0 H0 fp) ifs (fT K ft))(hi2:∀C s0 H0 fp,PI (ar X scope cp tgN C s0 H0 fp) tg2 iter2 (fI K fi2))(hg2:∀C s0 H0 fp,PG (ar X scope cp tgN C s0 H0 fp) tg2 (fG K g2 W2))(ht2:∀C s0 H0 fp,tJ (ar X scope cp tgN C s0 H0 fp) ifs2 (fT K ft2))(he:∀C s0 H0 fp,PE (ar X scope cp tgN C s0 H0 fp) elt (fE K fe))(hk:scope.kind=.function)(hch:CT X.env.scope scope X.N cp (W++W2)=true)(hNd:X.N.Nodup)(hix:X.N[ix]?=some nm)(hlc:X.env.scope.names.lookup nm=some .local)(hsw:Ws (.ListComp elt [⟨tg,iter,ifs,0⟩,⟨tg2,iter2,ifs2,0⟩] scope pos) (some (.Name nm posn)) poss.line X.env=pure true)(hs2:∀C s0 H0 fp x,Va iter2 (ar X scope cp tgN C s0 H0 fp).env x=pure x)(hs:∀x,Va iter X.env x=pure x):PS X (.Assign [.Name nm posn] (.ListComp elt [⟨tg,iter,ifs,0⟩,⟨tg2,iter2,ifs2,0⟩] scope pos) poss) (fS K (a8 ix (kB cp tgN.length fi g ft fi2 g2 ft2 fe)) [ix]):=by obtain⟨h0,h1,h2,h3,h4,h5,h6⟩:=sQ hch;exact(yw X.env.scope X.N cp tgN hc rfl rfl hi (λC s0 H0 fp=>(hg C s0 H0 fp).wide λj hj=>Xy W2 hj) ht hi2 (λC s0 H0 fp=>(hg2 C s0 H0 fp).wide λj hj=>UR W hj) ht2 he hk h0 h1 h2 h3 h4 hNd hix hlc hsw hs2 hs).mono λD σ H h=>by obtain⟨F,e,fl,R,hf,q⟩:=h;unfold a8 at hf;obtain⟨⟨r,e1⟩,hh1,hf⟩:=Tz hf;obtain⟨e2,hh2,hf⟩:=TB hf;cases hf;refine xn h5 h6 ⟨F,e,r,e1,R,hh1,λF1 H1 v X1 R1 A1=>?_⟩;obtain⟨x,R2⟩:=Bn R X1 R1 A1 hh2;exact q F1 H1 _ x R2
end
end L2
namespace V23
open PySem PySem.Spec PyProof.Rows L2
variable{P:Uc}{w:TX}{K:W.Frag}{mg:Str->Option TL}{base:Ua}{f:TM}{fd:UM}
local macro_rules|`(tactic|trivial)=>`(tactic|first|exact .inl rfl|exact .inr rfl|assumption)
local macro_rules|`(¬$n:num)=>`(@qw _ _ $n _ _ (by rfl) (by rfl) (by decide))
local macro_rules|`($a∘$b)=>`(@Of _ _ _ _ _ _ $a $b (by rfl))
theorem rO{α:Type u}{β:Type v}{f:α->β}:List.map f []=[]:=rfl
theorem rM{α:Type u}{β:Type v}{f:α->β}{a:α}{l:List α}:List.map f (a::l)=f a::List.map f l:=rfl
theorem rH{α:Type u}{l:List α}:[]++l=l:=rfl
theorem rG{α:Type u}{a:α}{l m:List α}:(a::l)++m=a::(l++m):=rfl
theorem rK{α:Type u}{a:α}{l:List α}:(a::l)[0]?=some a:=rfl
theorem rL{α:Type u}{a:α}{l:List α}{i:Nat}:(a::l)[i+1]?=l[i]?:=rfl
theorem rJ{α:Type u}{β:Type v}{a:α}{f:α->Option β}:Option.bind (some a) f=f a:=rfl
theorem rP{α:Type u}{β:Type v}{a:α}{f:α->β}:Option.map f (some a)=some (f a):=rfl
structure gS (mg:Str->Option TL):Prop where
 b_abs:mg "abs"=none
 b_len:mg "len"=none
 b_min:mg "min"=none
 b_max:mg "max"=none
 b_range:mg "range"=none
 b_repr:mg "repr"=none
 b_tuple:mg "tuple"=none
 b_int:mg "int"=none
 b_sorted:mg "sorted"=none
 b_zip:mg "zip"=none
 b_enumerate:mg "enumerate"=none
 b_isinstance:mg "isinstance"=none
 b_bool:mg "bool"=none
 b_sum:mg "sum"=none
 b_all:mg "all"=none
 b_reversed:mg "reversed"=none
 b_ValueError:mg "ValueError"=none
abbrev Cl(P:Uc)(w:TX)(K:W.Frag)(mg:Str->Option TL)(base:Ua)(n:Str)(s:Ub)(ps:List Str)(lv k:Nat)(m:FM):Prop:=∃f fd,eN K mg n s f fd ps/\bh P w K mg base el lv f fd ps (eu K k m)
def cq:FT:=(aI (ay (bR true) (ac 1) (vC (.int 0))))
def cV:FS:=(sE 0 1 (aa (ac 1) (aa (ay bx (ac 0) (ac 1)) ah)))
def kO:FS:=(aC (eZ (2^4200) cq cV) (a_ (aL (g1 AZ) (aa (ac 0) ah))))
def cP:FM:=et 2 0 ([0,1]++[]) kO
theorem j_:av ["one","other"] ["one","other"] (ao cQ):=⟨rfl,rfl,rfl,by decide+kernel,rfl,by decide+kernel,by decide+kernel⟩
theorem pS(h:eN K mg "common_divisor" cQ f fd ["one","other"])(T:gS mg):bh P w K mg base el 1 f fd ["one","other"] (eu K 2 cP):=by have nd:=j_.nd;exact h.fn j_ rfl rfl (λcdv A outer s H E hr=>(@ag _ _ _ _ _ _ _ _ (@jG _ _ _ _ _ _ _ _ _ UL (@a9 _ _ _ _ _ _ _ _ _ (@qt _ _ _ rfl hr) (¬1) ae (aP _)) (@aj _ _ _ _ _ (@FX _ _ _ _ _ 0 1 _ _ _ _ _ _ _ _ _ rfl nd rfl rfl ⋯ rfl rfl ((¬1)∘((@bu _ _ _ _ _ _ _ (¬0) (¬1))∘ab)) ∅ ∅))) (@aj _ _ _ _ _ (@az _ _ _ _ _ (@aZ _ _ _ _ _ _ _ _ _ (@b_abs _ _) ∅ T.b_abs ((¬0)∘ab) ⋯ ⋯ ∅ ∅)))))
def y6:FS:=(aC (a8 2 (bA 2 cP (aa (ac 0) (aa (ac 1) ah)))) (aC (kD (aI (ay DT (ac 1) (vC (.int 0)))) (a8 2 (si qE (ac 2))) dm) (a_ (bH (aa (ay gY (ac 0) (ac 2)) (aa (ay gY (ac 1) (ac 2)) ah))))))
def dM:FM:=et 2 1 ([2]++(([2]++[])++[])) y6
theorem xb:av ["top","bottom","divisor"] ["top","bottom"] (ao iR):=⟨rfl,rfl,rfl,by decide+kernel,rfl,by decide+kernel,by decide+kernel⟩
theorem Di(h:eN K mg "lowest" iR f fd ["top","bottom"])(T:gS mg)(z_common_divisor:Cl P w K mg base "common_divisor" cQ ["one","other"] 1 2 cP):bh P w K mg base el 2 f fd ["top","bottom"] (eu K 2 dM):=by obtain⟨Q8,Q9,Pi,Qh⟩:=z_common_divisor;have nd:=xb.nd;exact h.fn xb rfl rfl (λcdv A outer s H E hr=>(@ag _ _ _ _ _ _ _ _ (@aE _ _ _ _ _ 2 _ _ nd rfl ↥3 (@aG _ _ _ _ _ _ _ _ _ _ _ _ _ _ _ Pi Qh (hr.mono ⋯) ((¬0)∘((¬1)∘ab)) ∅ ⋯ ∅ ∅) ∅ (by trivial)) (@ag _ _ _ _ _ _ _ _ (@df _ _ _ _ _ _ _ _ _ _ _ (@a9 _ _ _ _ _ _ _ _ _ (@CN _ _) (¬1) ae (aP _)) (@aj _ _ _ _ _ (@aE _ _ _ _ _ 2 _ _ nd rfl ↥3 (@rZ _ _ _ _ _ (¬2)) ∅ (by trivial))) (@bv _ _)) (@aj _ _ _ _ _ (@az _ _ _ _ _ (@aU _ _ _ _ _ _ ((@ku _ _ _ _ _ _ _ (¬0) (¬2))∘((@ku _ _ _ _ _ _ _ (¬1) (¬2))∘ab))))))))
def Ee:FS:=(a_ (bA 2 dM (aa (ay cy (ay cL (ay bF (ac 0) (vC (.int 0))) (ay bF (ac 1) (vC (.int 1)))) (ay cL (ay bF (ac 1) (vC (.int 0))) (ay bF (ac 0) (vC (.int 1))))) (aa (ay cL (ay bF (ac 0) (vC (.int 1))) (ay bF (ac 1) (vC (.int 1)))) ah))))
def i3:FM:=et 2 0 [] Ee
theorem Cv:av ["one","other"] ["one","other"] (ao oP):=⟨rfl,rfl,rfl,by decide+kernel,rfl,by decide+kernel,by decide+kernel⟩
theorem Ia(h:eN K mg "plus" oP f fd ["one","other"])(T:gS mg)(z_lowest:Cl P w K mg base "lowest" iR ["top","bottom"] 2 2 dM):bh P w K mg base el 3 f fd ["one","other"] (eu K 2 i3):=by obtain⟨Qw,Qx,Pt,PN⟩:=z_lowest;have nd:=Cv.nd;exact h.fn Cv rfl rfl (λcdv A outer s H E hr=>(@aj _ _ _ _ _ (@az _ _ _ _ _ (@aG _ _ _ _ _ _ _ _ _ _ _ _ _ _ _ Pt PN (hr.mono ⋯) ((@bV _ _ _ _ _ _ _ rfl (@gH _ _ _ _ _ _ _ rfl (@aR _ _ _ _ _ _ _ rfl (¬0) ae ↥4) (@aR _ _ _ _ _ _ _ rfl (¬1) ae ↥4)) (@gH _ _ _ _ _ _ _ rfl (@aR _ _ _ _ _ _ _ rfl (¬1) ae ↥4) (@aR _ _ _ _ _ _ _ rfl (¬0) ae ↥4)))∘((@gH _ _ _ _ _ _ _ rfl (@aR _ _ _ _ _ _ _ rfl (¬0) ae ↥4) (@aR _ _ _ _ _ _ _ rfl (¬1) ae ↥4))∘ab)) ∅ ⋯ ∅ ∅))))
def BP:FS:=(a_ (bA 2 dM (aa (ay cL (ay bF (ac 0) (vC (.int 0))) (ay bF (ac 1) (vC (.int 0)))) (aa (ay cL (ay bF (ac 0) (vC (.int 1))) (ay bF (ac 1) (vC (.int 1)))) ah))))
def cF:FM:=et 2 0 [] BP
theorem Al:av ["one","other"] ["one","other"] (ao jh):=⟨rfl,rfl,rfl,by decide+kernel,rfl,by decide+kernel,by decide+kernel⟩
theorem Fh(h:eN K mg "times" jh f fd ["one","other"])(T:gS mg)(z_lowest:Cl P w K mg base "lowest" iR ["top","bottom"] 2 2 dM):bh P w K mg base el 3 f fd ["one","other"] (eu K 2 cF):=by obtain⟨Qw,Qx,Pt,PN⟩:=z_lowest;have nd:=Al.nd;exact h.fn Al rfl rfl (λcdv A outer s H E hr=>(@aj _ _ _ _ _ (@az _ _ _ _ _ (@aG _ _ _ _ _ _ _ _ _ _ _ _ _ _ _ Pt PN (hr.mono ⋯) ((@gH _ _ _ _ _ _ _ rfl (@aR _ _ _ _ _ _ _ rfl (¬0) ae ↥4) (@aR _ _ _ _ _ _ _ rfl (¬1) ae ↥4))∘((@gH _ _ _ _ _ _ _ rfl (@aR _ _ _ _ _ _ _ rfl (¬0) ae ↥4) (@aR _ _ _ _ _ _ _ rfl (¬1) ae ↥4))∘ab)) ∅ ⋯ ∅ ∅))))
def oh:FS:=(a_ (bA 2 dM (aa (ay my (ay bF (ac 0) (vC (.int 1))) (ay bF (ac 0) (vC (.int 0)))) (aa (ay bF (ac 0) (vC (.int 1))) ah))))
def cv:FM:=et 1 0 [] oh
theorem r8:av ["chance"] ["chance"] (ao e_):=⟨rfl,rfl,rfl,by decide+kernel,rfl,by decide+kernel,by decide+kernel⟩
theorem zT(h:eN K mg "one_less" e_ f fd ["chance"])(T:gS mg)(z_lowest:Cl P w K mg base "lowest" iR ["top","bottom"] 2 2 dM):bh P w K mg base el 3 f fd ["chance"] (eu K 1 cv):=by obtain⟨Qw,Qx,Pt,PN⟩:=z_lowest;have nd:=r8.nd;exact h.fn r8 rfl rfl (λcdv A outer s H E hr=>(@aj _ _ _ _ _ (@az _ _ _ _ _ (@aG _ _ _ _ _ _ _ _ _ _ _ _ _ _ _ Pt PN (hr.mono ⋯) ((@z9 _ _ _ _ _ _ _ (@aR _ _ _ _ _ _ _ rfl (¬0) ae ↥4) (@aR _ _ _ _ _ _ _ rfl (¬0) ae ↥4))∘((@aR _ _ _ _ _ _ _ rfl (¬0) ae ↥4)∘ab)) ∅ ⋯ ∅ ∅))))
def qH:FI:=(eE (ac 0))
def kP:FS:=(a8 1 (bA 2 i3 (aa (ac 1) (aa (ac 2) ah))))
def BQ:FS:=(aC (a8 1 (vC (.tuple [.int (0),.int (1)]))) (aC (cH ([2]++[1]) qH (af 2) kP) (a_ (ac 1))))
def pM:FM:=et 1 2 ([1]++(([2]++[1])++[])) BQ
theorem Am:av ["row","amount","part"] ["row"] (ao p7):=⟨rfl,rfl,rfl,by decide+kernel,rfl,by decide+kernel,by decide+kernel⟩
theorem Fi(h:eN K mg "total" p7 f fd ["row"])(T:gS mg)(z_plus:Cl P w K mg base "plus" oP ["one","other"] 3 2 i3){g_ZERO:TM}(m_ZERO:mg "ZERO"=some (.ref g_ZERO))(c_ZERO:∀F,DA K F (.tuple [.int (0),.int (1)]) (.ref g_ZERO)):bh P w K mg base el 4 f fd ["row"] (eu K 1 pM):=by obtain⟨RO,RP,P8,Qn⟩:=z_plus;have nd:=Am.nd;exact h.fn Am rfl rfl (λcdv A outer s H E hr=>(@ag _ _ _ _ _ _ _ _ (@aE _ _ _ _ _ 1 _ _ nd rfl ↥3 (@ed _ _ _ (V.ref g_ZERO) _ _ (PyData.tuple [.int (0),.int (1)]) rfl m_ZERO rfl c_ZERO ⋯) ∅ (by trivial)) (@ag _ _ _ _ _ _ _ _ (@cZ _ _ _ _ _ _ _ _ _ _ _ UL rfl (@cf _ _ _ _ _ rfl (¬0)) (@aq _ _ _ 2 _ nd rfl ↥3 (by trivial)) (@aj _ _ _ _ _ (@aE _ _ _ _ _ 1 _ _ nd rfl ↥3 (@aG _ _ _ _ _ _ _ _ _ _ _ _ _ _ _ P8 Qn (hr.mono ⋯) ((¬1)∘((¬2)∘ab)) ∅ ⋯ ∅ ∅) ∅ (by trivial))) ↥5) (@aj _ _ _ _ _ (@az _ _ _ _ _ (¬1))))))
def rq:FS:=(a_ (iU (si (xQ "int") (ac 0)) (jQ (si (xQ "bool") (ac 0)))))
def fJ:FM:=et 1 0 [] rq
theorem qb:av ["thing"] ["thing"] (ao iQ):=⟨rfl,rfl,rfl,by decide+kernel,rfl,by decide+kernel,by decide+kernel⟩
theorem yq(h:eN K mg "is_number" iQ f fd ["thing"])(T:gS mg):bh P w K mg base el 1 f fd ["thing"] (eu K 1 fJ):=by have nd:=qb.nd;exact h.fn qb rfl rfl (λcdv A outer s H E hr=>(@aj _ _ _ _ _ (@az _ _ _ _ _ (@yz _ _ _ _ _ _ _ _ (@FR _ _ _ _ _ _ _ _ "int" rfl ⋯ rfl T.b_isinstance rfl T.b_int PyProof.Rows.boot_int ⋯ ⋯ (¬0) ∅ ∅) (@yA _ _ _ _ _ _ (@FV _ _ _ _ _ (@FR _ _ _ _ _ _ _ _ "bool" rfl ⋯ rfl T.b_isinstance rfl T.b_bool PyProof.Rows.boot_bool ⋯ ⋯ (¬0) ∅ ∅)))))))
def ml:FS:=(a_ (iU (si (xQ "tuple") (ac 0)) (ay (bR false) (aL (g1 gU) (aa (ac 0) ah)) (ac 1))))
def cT:FM:=et 2 0 [] ml
theorem qc:av ["thing","many"] ["thing","many"] (ao fN):=⟨rfl,rfl,rfl,by decide+kernel,rfl,by decide+kernel,by decide+kernel⟩
theorem yr(h:eN K mg "is_row_of" fN f fd ["thing","many"])(T:gS mg):bh P w K mg base el 1 f fd ["thing","many"] (eu K 2 cT):=by have nd:=qc.nd;exact h.fn qc rfl rfl (λcdv A outer s H E hr=>(@aj _ _ _ _ _ (@az _ _ _ _ _ (@yz _ _ _ _ _ _ _ _ (@FR _ _ _ _ _ _ _ _ "tuple" rfl ⋯ rfl T.b_isinstance rfl T.b_tuple PyProof.Rows.boot_tuple ⋯ ⋯ (¬0) ∅ ∅) (@yA _ _ _ _ _ _ (@pU _ _ _ _ _ _ _ _ _ (@qs _ _ _ rfl hr) (@aZ _ _ _ _ _ _ _ _ _ (@b_len _ _ rfl) ∅ T.b_len ((¬0)∘ab) ⋯ ⋯ ∅ ∅) (¬1) (aP _)))))))
def dj:FS:=(aC (kD (l8 (aI (bA 2 cT (aa (ac 0) (aa (vC (.int 2)) ah))))) (a_ (vC (.bool false))) dm) (aC (ky (ac 0) (aO (am (af 1) (am (af 2) aN)))) (aC (kD (yS (l8 (aI (bA 1 fJ (aa (ac 1) ah)))) (yS (l8 (aI (bA 1 fJ (aa (ac 2) ah)))) (aI (ay DT (ac 2) (vC (.int 1)))))) (a_ (vC (.bool false))) dm) (a_ (ay (bR false) (bA 2 dM (aa (ac 1) (aa (ac 2) ah))) (ac 0))))))
def bK:FM:=et 1 2 (([]++[])++(([1]++([2]++[]))++(([]++[])++[]))) dj
theorem mQ:av ["thing","top","bottom"] ["thing"] (ao eL):=⟨rfl,rfl,rfl,by decide+kernel,rfl,by decide+kernel,by decide+kernel⟩
theorem uo(h:eN K mg "is_fraction" eL f fd ["thing"])(T:gS mg)(z_is_row_of:Cl P w K mg base "is_row_of" fN ["thing","many"] 1 2 cT)(z_lowest:Cl P w K mg base "lowest" iR ["top","bottom"] 2 2 dM)(z_is_number:Cl P w K mg base "is_number" iQ ["thing"] 1 1 fJ):bh P w K mg base el 3 f fd ["thing"] (eu K 1 bK):=by obtain⟨QS,QT,Pp,P7⟩:=z_is_row_of;obtain⟨Qw,Qx,Pt,PN⟩:=z_lowest;obtain⟨Sa,Sb,PC,Qi⟩:=z_is_number;have nd:=mQ.nd;exact h.fn mQ rfl rfl (λcdv A outer s H E hr=>(@ag _ _ _ _ _ _ _ _ (@df _ _ _ _ _ _ _ _ _ _ _ (@oO _ _ _ _ _ (@gJ _ _ _ _ (@aG _ _ _ _ _ _ _ _ _ _ _ _ _ _ _ Pp P7 (hr.mono ⋯) ((¬0)∘(ae∘ab)) ∅ ⋯ ∅ ∅) ↥5)) (@aj _ _ _ _ _ (@az _ _ _ _ _ (@dQ _ _ _ _ _))) (@bv _ _)) (@ag _ _ _ _ _ _ _ _ (@jF _ _ _ _ _ _ _ _ (¬0) (@ce _ _ _ _ _ _ _ _ rfl rfl (@au _ _ _ _ _ _ _ _ (@aq _ _ _ 1 _ nd rfl ↥3 (by trivial)) (@au _ _ _ _ _ _ _ _ (@aq _ _ _ 2 _ nd rfl ↥3 (by trivial)) (@bB _ _) ∅) ∅) (aB (aB b_)) ∅ ∅) ∅ ∅ ∅) (@ag _ _ _ _ _ _ _ _ (@df _ _ _ _ _ _ _ _ _ _ _ (@vM _ _ _ _ (@uA _ _ _ _ _ _ _ _ (@oO _ _ _ _ _ (@gJ _ _ _ _ (@aG _ _ _ _ _ _ _ _ _ _ _ _ _ _ _ PC Qi (hr.mono ⋯) ((¬1)∘ab) ∅ ⋯ ∅ ∅) ↥5)) (@uA _ _ _ _ _ _ _ _ (@oO _ _ _ _ _ (@gJ _ _ _ _ (@aG _ _ _ _ _ _ _ _ _ _ _ _ _ _ _ PC Qi (hr.mono ⋯) ((¬2)∘ab) ∅ ⋯ ∅ ∅) ↥5)) (@qP _ _ _ _ _ (@a9 _ _ _ _ _ _ _ _ _ (@CN _ _) (¬2) ae (aP _)))))) (@aj _ _ _ _ _ (@az _ _ _ _ _ (@dQ _ _ _ _ _))) (@bv _ _)) (@aj _ _ _ _ _ (@az _ _ _ _ _ (@pU _ _ _ _ _ _ _ _ _ (@qs _ _ _ rfl hr) (@aG _ _ _ _ _ _ _ _ _ _ _ _ _ _ _ Pt PN (hr.mono ⋯) ((¬1)∘((¬2)∘ab)) ∅ ⋯ ∅ ∅) (¬0) (aP _))))))))
def i5:FI:=(eE (ac 0))
def cJ:FE:=(bA 1 bK (aa (ac 0) ah))
def fX:FS:=(a_ (iU (bA 2 cT (aa (ac 0) (aa (ac 1) ah))) (aL (g1 (i4 rS)) (aa (bD [] 1 i5 (af 0) aX cJ) ah))))
def br:FM:=et 2 0 [] fX
theorem jN:av ["thing","many"] ["thing","many"] (ao bQ):=⟨rfl,rfl,rfl,by decide+kernel,rfl,by decide+kernel,by decide+kernel⟩
theorem oH(h:eN K mg "is_fraction_row" bQ f fd ["thing","many"])(T:gS mg)(z_is_row_of:Cl P w K mg base "is_row_of" fN ["thing","many"] 1 2 cT)(z_is_fraction:Cl P w K mg base "is_fraction" eL ["thing"] 3 1 bK):bh P w K mg base el 4 f fd ["thing","many"] (eu K 2 br):=by obtain⟨QS,QT,Pp,P7⟩:=z_is_row_of;obtain⟨Rx,Ry,Py,Qy⟩:=z_is_fraction;have nd:=jN.nd;exact h.fn jN rfl rfl (λcdv A outer s H E hr=>(@aj _ _ _ _ _ (@az _ _ _ _ _ (@yz _ _ _ _ _ _ _ _ (@aG _ _ _ _ _ _ _ _ _ _ _ _ _ _ _ Pp P7 (hr.mono ⋯) ((¬0)∘((¬1)∘ab)) ∅ ⋯ ∅ ∅) (@yA _ _ _ _ _ _ (@aZ _ _ _ _ _ _ _ _ _ (@b_all _ _ _ rfl hr) ∅ T.b_all ((@cY _ _ _ _ _ _ _ _ _ _ _ _ _ [] ["part"] rfl rfl (@cf _ _ _ _ _ rfl (¬0)) (λC s0 H0 fp=>(@aq _ _ _ 0 _ (show UB (["part"]:List Str) by decide+kernel) rfl ↥3 (by trivial))) (λC s0 H0 fp=>(@cG _ _)) (λC s0 H0 fp=>(@aG _ _ _ _ _ _ _ _ _ _ _ _ _ _ _ Py Qy (hr.mono ⋯) ((¬0)∘ab) ∅ ⋯ ∅ ∅)) rfl ∅ ↥5)∘ab) ⋯ ⋯ ∅ ∅))))))
def f_:FT:=(aI (ay (bR true) (ac 4) (vC (.int (-1)))))
def i_:FS:=(aC (ky (ay bF (ac 1) (ac 4)) (aO (am (af 5) (am (af 6) (am (af 7) aN))))) (aC (dr (cS bG (ac 3) (aa (bH (aa (ac 5) (aa (ay bF (ac 2) (ac 5)) ah))) ah))) (a8 4 (vU (aI (ay bF (ac 2) (ac 5))) (ac 6) (ac 7)))))
def oi:FS:=(aC (a8 3 (dq ah)) (aC (a8 4 (vU (aI (ay Ht (aL (g1 gU) (aa (ac 1) ah)) (vC (.int 0)))) (vC (.int 0)) (vC (.int (-1))))) (aC (eZ (2^4200) f_ i_) (a_ (aL (g1 cz) (aa (ac 3) ah))))))
def ie:FM:=et 3 5 ([3]++([4]++((([5]++([6]++([7]++[])))++([]++[4]))++[]))) oi
theorem r9:av ["web","tree","answers","run","at","tie","yes","no"] ["web","tree","answers"] (ao jL):=⟨rfl,rfl,rfl,by decide+kernel,rfl,by decide+kernel,by decide+kernel⟩
theorem zU(h:eN K mg "run_tree" jL f fd ["web","tree","answers"])(T:gS mg){t_END:Tok}(m_END:mg "END"=some (.int (-1) t_END)):bh P w K mg base el 1 f fd ["web","tree","answers"] (eu K 3 ie):=by have nd:=r9.nd;exact h.fn r9 rfl rfl (λcdv A outer s H E hr=>(@ag _ _ _ _ _ _ _ _ (@aE _ _ _ _ _ 3 _ _ nd rfl ↥3 (@bS _ _ _ _ _ ab) ∅ (by trivial)) (@ag _ _ _ _ _ _ _ _ (@aE _ _ _ _ _ 4 _ _ nd rfl ↥3 (@mL _ _ _ _ _ _ _ _ _ (@a9 _ _ _ _ _ _ _ _ _ (@CM _ _) (@aZ _ _ _ _ _ _ _ _ _ (@b_len _ _ rfl) ∅ T.b_len ((¬1)∘ab) ⋯ ⋯ ∅ ∅) ae (aP _)) ae (@ed _ _ _ (V.int (-1)) _ _ (PyData.int (-1)) rfl m_END ⟨_,rfl⟩ (λ_=>bZ.mpr rfl) ⋯)) ∅ (by trivial)) (@ag _ _ _ _ _ _ _ _ (@jG _ _ _ _ _ _ _ _ _ UL (@a9 _ _ _ _ _ _ _ _ _ (@qt _ _ _ rfl hr) (¬4) (@ed _ _ _ (V.int (-1)) _ _ (PyData.int (-1)) rfl m_END ⟨_,rfl⟩ (λ_=>bZ.mpr rfl) ⋯) (aP _)) (@ag _ _ _ _ _ _ _ _ (@jF _ _ _ _ _ _ _ _ (@aR _ _ _ _ _ _ _ rfl (¬1) (¬4) ↥4) (@ce _ _ _ _ _ _ _ _ rfl rfl (@au _ _ _ _ _ _ _ _ (@aq _ _ _ 5 _ nd rfl ↥3 (by trivial)) (@au _ _ _ _ _ _ _ _ (@aq _ _ _ 6 _ nd rfl ↥3 (by trivial)) (@au _ _ _ _ _ _ _ _ (@aq _ _ _ 7 _ nd rfl ↥3 (by trivial)) (@bB _ _) ∅) ∅) ∅) (aB (aB (aB b_))) ∅ ∅) ∅ ∅ ∅) (@ag _ _ _ _ _ _ _ _ (@ee _ _ _ _ _ (@eI _ _ _ _ _ _ _ _ _ rfl (¬3) ((@aU _ _ _ _ _ _ ((¬5)∘((@aR _ _ _ _ _ _ _ rfl (¬2) (¬5) ↥4)∘ab)))∘ab) ∅ ∅ ∅ ∅ ∅) ∅) (@aj _ _ _ _ _ (@aE _ _ _ _ _ 4 _ _ nd rfl ↥3 (@mL _ _ _ _ _ _ _ _ _ (@gJ _ _ _ _ (@aR _ _ _ _ _ _ _ rfl (¬2) (¬5) ↥4) ↥5) (¬6) (¬7)) ∅ (by trivial)))))) (@aj _ _ _ _ _ (@az _ _ _ _ _ (@aZ _ _ _ _ _ _ _ _ _ (@b_tuple _ _ rfl) ∅ T.b_tuple ((¬3)∘ab) ⋯ ⋯ ∅ ∅)))))))
def mi:FS:=(aC (ky (xo (ac 0) (gG (vC (.int 2))) g_) (aO (am (af 3) (am (af 4) aN)))) (a_ (bA 2 i3 (aa (bA 2 cF (aa (ac 3) (aa (bA 2 i3 (aa (bH (aa (ac 4) (aa (vC (.int 1)) ah))) (aa (ac 1) ah))) ah))) (aa (bA 2 cF (aa (bA 1 cv (aa (ac 3) ah)) (aa (ac 2) ah))) ah)))))
def dJ:FM:=et 3 2 (([3]++([4]++[]))++[]) mi
theorem p9:av ["tie","yes","no","chance","worth"] ["tie","yes","no"] (ao iN):=⟨rfl,rfl,rfl,by decide+kernel,rfl,by decide+kernel,by decide+kernel⟩
theorem yn(h:eN K mg "ask_worth" iN f fd ["tie","yes","no"])(T:gS mg)(z_plus:Cl P w K mg base "plus" oP ["one","other"] 3 2 i3)(z_times:Cl P w K mg base "times" jh ["one","other"] 3 2 cF)(z_one_less:Cl P w K mg base "one_less" e_ ["chance"] 3 1 cv):bh P w K mg base el 4 f fd ["tie","yes","no"] (eu K 3 dJ):=by obtain⟨RO,RP,P8,Qn⟩:=z_plus;obtain⟨Qz,QA,Pq,PJ⟩:=z_times;obtain⟨Qo,Qp,Pk,PK⟩:=z_one_less;have nd:=p9.nd;exact h.fn p9 rfl rfl (λcdv A outer s H E hr=>(@ag _ _ _ _ _ _ _ _ (@jF _ _ _ _ _ _ _ _ (@jd _ _ _ _ _ _ _ _ _ _ rfl (¬0) (@jf _ _ _ _ ae) (@je _ _)) (@ce _ _ _ _ _ _ _ _ rfl rfl (@au _ _ _ _ _ _ _ _ (@aq _ _ _ 3 _ nd rfl ↥3 (by trivial)) (@au _ _ _ _ _ _ _ _ (@aq _ _ _ 4 _ nd rfl ↥3 (by trivial)) (@bB _ _) ∅) ∅) (aB (aB b_)) ∅ ∅) ∅ ∅ ∅) (@aj _ _ _ _ _ (@az _ _ _ _ _ (@aG _ _ _ _ _ _ _ _ _ _ _ _ _ _ _ P8 Qn (hr.mono ⋯) ((@aG _ _ _ _ _ _ _ _ _ _ _ _ _ _ _ Pq PJ (hr.mono ⋯) ((¬3)∘((@aG _ _ _ _ _ _ _ _ _ _ _ _ _ _ _ P8 Qn (hr.mono ⋯) ((@aU _ _ _ _ _ _ ((¬4)∘(ae∘ab)))∘((¬1)∘ab)) ∅ ⋯ ∅ ∅)∘ab)) ∅ ⋯ ∅ ∅)∘((@aG _ _ _ _ _ _ _ _ _ _ _ _ _ _ _ Pq PJ (hr.mono ⋯) ((@aG _ _ _ _ _ _ _ _ _ _ _ _ _ _ _ Pk PK (hr.mono ⋯) ((¬3)∘ab) ∅ ⋯ ∅ ∅)∘((¬2)∘ab)) ∅ ⋯ ∅ ∅)∘ab)) ∅ ⋯ ∅ ∅)))))
def fY:FS:=(a_ (vU (aI (ay (bR false) (ac 1) (vC (.int (-1))))) (vC (.tuple [.int (0),.int (1)])) (ay bF (ac 0) (ac 1))))
def bL:FM:=et 2 0 [] fY
theorem nR:av ["worths","link"] ["worths","link"] (ao gQ):=⟨rfl,rfl,rfl,by decide+kernel,rfl,by decide+kernel,by decide+kernel⟩
theorem vH(h:eN K mg "link_worth" gQ f fd ["worths","link"])(T:gS mg){g_ZERO:TM}(m_ZERO:mg "ZERO"=some (.ref g_ZERO))(c_ZERO:∀F,DA K F (.tuple [.int (0),.int (1)]) (.ref g_ZERO)){t_END:Tok}(m_END:mg "END"=some (.int (-1) t_END)):bh P w K mg base el 1 f fd ["worths","link"] (eu K 2 bL):=by have nd:=nR.nd;exact h.fn nR rfl rfl (λcdv A outer s H E hr=>(@aj _ _ _ _ _ (@az _ _ _ _ _ (@mL _ _ _ _ _ _ _ _ _ (@a9 _ _ _ _ _ _ _ _ _ (@qs _ _ _ rfl hr) (¬1) (@ed _ _ _ (V.int (-1)) _ _ (PyData.int (-1)) rfl m_END ⟨_,rfl⟩ (λ_=>bZ.mpr rfl) ⋯) (aP _)) (@ed _ _ _ (V.ref g_ZERO) _ _ (PyData.tuple [.int (0),.int (1)]) rfl m_ZERO rfl c_ZERO ⋯) (@aR _ _ _ _ _ _ _ rfl (¬0) (¬1) ↥4)))))
def lx:FS:=(aC (ky (ac 1) (aO (am (af 3) (am (af 4) (am (af 5) aN))))) (a_ (bA 3 dJ (aa (ay bF (ay bF (ac 0) (vC (.int 1))) (ac 3)) (aa (bA 2 bL (aa (ac 2) (aa (ac 4) ah))) (aa (bA 2 bL (aa (ac 2) (aa (ac 5) ah))) ah))))))
def cc:FM:=et 3 3 (([3]++([4]++([5]++[])))++[]) lx
theorem nS:av ["web","node","worths","tie","yes","no"] ["web","node","worths"] (ao eh):=⟨rfl,rfl,rfl,by decide+kernel,rfl,by decide+kernel,by decide+kernel⟩
theorem vI(h:eN K mg "node_worth" eh f fd ["web","node","worths"])(T:gS mg)(z_ask_worth:Cl P w K mg base "ask_worth" iN ["tie","yes","no"] 4 3 dJ)(z_link_worth:Cl P w K mg base "link_worth" gQ ["worths","link"] 1 2 bL):bh P w K mg base el 5 f fd ["web","node","worths"] (eu K 3 cc):=by obtain⟨Sd,Se,PP,QU⟩:=z_ask_worth;obtain⟨RQ,RS,Pw,Qf⟩:=z_link_worth;have nd:=nS.nd;exact h.fn nS rfl rfl (λcdv A outer s H E hr=>(@ag _ _ _ _ _ _ _ _ (@jF _ _ _ _ _ _ _ _ (¬1) (@ce _ _ _ _ _ _ _ _ rfl rfl (@au _ _ _ _ _ _ _ _ (@aq _ _ _ 3 _ nd rfl ↥3 (by trivial)) (@au _ _ _ _ _ _ _ _ (@aq _ _ _ 4 _ nd rfl ↥3 (by trivial)) (@au _ _ _ _ _ _ _ _ (@aq _ _ _ 5 _ nd rfl ↥3 (by trivial)) (@bB _ _) ∅) ∅) ∅) (aB (aB (aB b_))) ∅ ∅) ∅ ∅ ∅) (@aj _ _ _ _ _ (@az _ _ _ _ _ (@aG _ _ _ _ _ _ _ _ _ _ _ _ _ _ _ PP QU (hr.mono ⋯) ((@aR _ _ _ _ _ _ _ rfl (@aR _ _ _ _ _ _ _ rfl (¬0) ae ↥4) (¬3) ↥4)∘((@aG _ _ _ _ _ _ _ _ _ _ _ _ _ _ _ Pw Qf (hr.mono ⋯) ((¬2)∘((¬4)∘ab)) ∅ ⋯ ∅ ∅)∘((@aG _ _ _ _ _ _ _ _ _ _ _ _ _ _ _ Pw Qf (hr.mono ⋯) ((¬2)∘((¬5)∘ab)) ∅ ⋯ ∅ ∅)∘ab))) ∅ ⋯ ∅ ∅)))))
def mG:FI:=(eE (bH (aa (bH (aa (ac 3) (aa (ac 5) ah))) (aa (bH (aa (ac 4) (aa (bA 1 cv (aa (ac 5) ah)) ah))) ah))))
def dC:FT:=(aI (ay (bR true) (ac 0) (vC (.int (-1)))))
def dG:FE:=(bH (aa (ac 0) (aa (ac 1) ah)))
def wc:FS:=(aC (ky (ac 1) (aO (am (af 2) (am (af 3) (am (af 4) aN))))) (aC (a8 5 (ay bF (ay bF (ay bF (ac 0) (vC (.int 1))) (ac 2)) (vC (.int 2)))) (a_ (bD [] 2 mG (aO (am (af 0) (am (af 1) aN))) dC dG))))
def ig:FM:=et 2 4 (([2]++([3]++([4]++[])))++([5]++[])) wc
theorem uP:av ["web","node","tie","yes","no","chance"] ["web","node"] (ao jq):=⟨rfl,rfl,rfl,by decide+kernel,rfl,by decide+kernel,by decide+kernel⟩
theorem Bi(h:eN K mg "ways_on" jq f fd ["web","node"])(T:gS mg)(z_one_less:Cl P w K mg base "one_less" e_ ["chance"] 3 1 cv){t_END:Tok}(m_END:mg "END"=some (.int (-1) t_END)):bh P w K mg base el 4 f fd ["web","node"] (eu K 2 ig):=by obtain⟨Qo,Qp,Pk,PK⟩:=z_one_less;have nd:=uP.nd;exact h.fn uP rfl rfl (λcdv A outer s H E hr=>(@ag _ _ _ _ _ _ _ _ (@jF _ _ _ _ _ _ _ _ (¬1) (@ce _ _ _ _ _ _ _ _ rfl rfl (@au _ _ _ _ _ _ _ _ (@aq _ _ _ 2 _ nd rfl ↥3 (by trivial)) (@au _ _ _ _ _ _ _ _ (@aq _ _ _ 3 _ nd rfl ↥3 (by trivial)) (@au _ _ _ _ _ _ _ _ (@aq _ _ _ 4 _ nd rfl ↥3 (by trivial)) (@bB _ _) ∅) ∅) ∅) (aB (aB (aB b_))) ∅ ∅) ∅ ∅ ∅) (@ag _ _ _ _ _ _ _ _ (@aE _ _ _ _ _ 5 _ _ nd rfl ↥3 (@aR _ _ _ _ _ _ _ rfl (@aR _ _ _ _ _ _ _ rfl (@aR _ _ _ _ _ _ _ rfl (¬0) ae ↥4) (¬2) ↥4) ae ↥4) ∅ (by trivial)) (@aj _ _ _ _ _ (@az _ _ _ _ _ (@cY _ _ _ _ _ _ _ _ _ _ _ _ _ [] ["link","share"] rfl rfl (@cf _ _ _ _ _ rfl (@aU _ _ _ _ _ _ ((@aU _ _ _ _ _ _ ((¬3)∘((¬5)∘ab)))∘((@aU _ _ _ _ _ _ ((¬4)∘((@aG _ _ _ _ _ _ _ _ _ _ _ _ _ _ _ Pk PK (hr.mono ⋯) ((¬5)∘ab) ∅ ⋯ ∅ ∅)∘ab)))∘ab)))) (λC s0 H0 fp=>(@ce _ _ _ _ _ _ _ _ rfl rfl (@au _ _ _ _ _ _ _ _ (@aq _ _ _ 0 _ (show UB (["link","share"]:List Str) by decide+kernel) rfl ↥3 (by trivial)) (@au _ _ _ _ _ _ _ _ (@aq _ _ _ 1 _ (show UB (["link","share"]:List Str) by decide+kernel) rfl ↥3 (by trivial)) (@bB _ _) ∅) ∅) (aB (aB b_)) ∅ ∅)) (λC s0 H0 fp=>(@ng _ _ _ _ (@a9 _ _ _ _ _ _ _ _ _ (@qt _ _ _ rfl hr) (¬0) (@ed _ _ _ (V.int (-1)) _ _ (PyData.int (-1)) rfl m_END ⟨_,rfl⟩ (λ_=>bZ.mpr rfl) ⋯) (aP _)))) (λC s0 H0 fp=>(@aU _ _ _ _ _ _ ((¬0)∘((¬1)∘ab)))) rfl ∅ ↥5))))))
def lV:FI:=(nH (aa (ac 1) (aa (ac 2) ah)))
def eQ:FE:=(ay (bR false) (ac 3) (bA 3 cc (aa (ac 0) (aa (ac 2) (aa (ac 1) ah)))))
def ke:FS:=(aC (kD (l8 (aI (bA 2 br (aa (ac 2) (aa (aL (g1 gU) (aa (ac 1) ah)) ah))))) (a_ (vC (.bool false))) dm) (a_ (aL (g1 (i4 rS)) (aa (bD [(0,"web"),(2,"thing")] 2 lV (aO (am (af 2) (am (af 3) aN))) aX eQ) ah))))
def bM:FM:=et 3 0 (([]++[])++[]) ke
theorem mR:av ["web","tree","thing"] ["web","tree","thing"] (ao eM):=⟨rfl,rfl,rfl,by decide+kernel,rfl,by decide+kernel,by decide+kernel⟩
theorem uq(h:eN K mg "worths_hold" eM f fd ["web","tree","thing"])(T:gS mg)(z_is_fraction_row:Cl P w K mg base "is_fraction_row" bQ ["thing","many"] 4 2 br)(z_node_worth:Cl P w K mg base "node_worth" eh ["web","node","worths"] 5 3 cc):bh P w K mg base el 6 f fd ["web","tree","thing"] (eu K 3 bM):=by obtain⟨Qc,Qd,Pd,Pr⟩:=z_is_fraction_row;obtain⟨QJ,QK,Pl,PY⟩:=z_node_worth;have nd:=mR.nd;exact h.fn mR rfl rfl (λcdv A outer s H E hr=>(@ag _ _ _ _ _ _ _ _ (@df _ _ _ _ _ _ _ _ _ _ _ (@oO _ _ _ _ _ (@gJ _ _ _ _ (@aG _ _ _ _ _ _ _ _ _ _ _ _ _ _ _ Pd Pr (hr.mono ⋯) ((¬2)∘((@aZ _ _ _ _ _ _ _ _ _ (@b_len _ _ rfl) ∅ T.b_len ((¬1)∘ab) ⋯ ⋯ ∅ ∅)∘ab)) ∅ ⋯ ∅ ∅) ↥5)) (@aj _ _ _ _ _ (@az _ _ _ _ _ (@dQ _ _ _ _ _))) (@bv _ _)) (@aj _ _ _ _ _ (@az _ _ _ _ _ (@aZ _ _ _ _ _ _ _ _ _ (@b_all _ _ _ rfl hr) ∅ T.b_all ((@cY _ _ _ _ _ _ _ _ _ _ _ _ _ [(0,"web"),(2,"thing")] ["node","worth"] rfl rfl (@mM _ _ _ _ _ _ _ _ _ _ rfl rfl T.b_zip ((¬1)∘((¬2)∘ab)) ∅ ∅) (λC s0 H0 fp=>(@ce _ _ _ _ _ _ _ _ rfl rfl (@au _ _ _ _ _ _ _ _ (@aq _ _ _ 2 _ (show UB (["web","thing","node","worth"]:List Str) by decide+kernel) rfl ↥3 (by trivial)) (@au _ _ _ _ _ _ _ _ (@aq _ _ _ 3 _ (show UB (["web","thing","node","worth"]:List Str) by decide+kernel) rfl ↥3 (by trivial)) (@bB _ _) ∅) ∅) (aB (aB b_)) ∅ ∅)) (λC s0 H0 fp=>(@cG _ _)) (λC s0 H0 fp=>(@pU _ _ _ _ _ _ _ _ _ (@qs _ _ _ rfl hr) (¬3) (@aG _ _ _ _ _ _ _ _ _ _ _ _ _ _ _ Pl PY (hr.mono ⋯) ((¬0)∘((¬2)∘((¬1)∘ab))) ∅ ⋯ ∅ ∅) (aP _))) rfl ∅ ↥5)∘ab) ⋯ ⋯ ∅ ∅)))))
def kX:FI:=(nH (aa (ac 1) (aa (ac 2) ah)))
def cM:FI:=(eE (bA 2 ig (aa (ac 1) (aa (ac 2) ah))))
def cn:FE:=(ay (bR false) (ay bF (ac 0) (ac 4)) (bA 2 cF (aa (ac 3) (aa (ac 5) ah))))
def dy:FS:=(aC (kD (l8 (aI (bA 2 br (aa (ac 2) (aa (aL (g1 gU) (aa (ac 1) ah)) ah))))) (a_ (vC (.bool false))) dm) (aC (kD (l7 (aI (ay Ht (aL (g1 gU) (aa (ac 1) ah)) (vC (.int 0)))) (aI (ay (bR true) (ay bF (ac 2) (vC (.int 0))) (vC (.tuple [.int (1),.int (1)]))))) (a_ (vC (.bool false))) dm) (a_ (aL (g1 (i4 rS)) (aa (kB [(2,"thing"),(0,"web")] 4 kX (aO (am (af 2) (am (af 3) aN))) aX cM (aO (am (af 4) (am (af 5) aN))) aX cn) ah)))))
def bE:FM:=et 3 0 (([]++[])++(([]++[])++[])) dy
theorem lZ:av ["web","tree","thing"] ["web","tree","thing"] (ao dW):=⟨rfl,rfl,rfl,by decide+kernel,rfl,by decide+kernel,by decide+kernel⟩
theorem sA(h:eN K mg "reaches_hold" dW f fd ["web","tree","thing"])(T:gS mg)(z_is_fraction_row:Cl P w K mg base "is_fraction_row" bQ ["thing","many"] 4 2 br)(z_times:Cl P w K mg base "times" jh ["one","other"] 3 2 cF)(z_ways_on:Cl P w K mg base "ways_on" jq ["web","node"] 4 2 ig){g_ONE:TM}(m_ONE:mg "ONE"=some (.ref g_ONE))(c_ONE:∀F,DA K F (.tuple [.int (1),.int (1)]) (.ref g_ONE)):bh P w K mg base el 5 f fd ["web","tree","thing"] (eu K 3 bE):=by obtain⟨Qc,Qd,Pd,Pr⟩:=z_is_fraction_row;obtain⟨Qz,QA,Pq,PJ⟩:=z_times;obtain⟨Q_,Re,PL,Qj⟩:=z_ways_on;have nd:=lZ.nd;exact h.fn lZ rfl rfl (λcdv A outer s H E hr=>(@ag _ _ _ _ _ _ _ _ (@df _ _ _ _ _ _ _ _ _ _ _ (@oO _ _ _ _ _ (@gJ _ _ _ _ (@aG _ _ _ _ _ _ _ _ _ _ _ _ _ _ _ Pd Pr (hr.mono ⋯) ((¬2)∘((@aZ _ _ _ _ _ _ _ _ _ (@b_len _ _ rfl) ∅ T.b_len ((¬1)∘ab) ⋯ ⋯ ∅ ∅)∘ab)) ∅ ⋯ ∅ ∅) ↥5)) (@aj _ _ _ _ _ (@az _ _ _ _ _ (@dQ _ _ _ _ _))) (@bv _ _)) (@ag _ _ _ _ _ _ _ _ (@df _ _ _ _ _ _ _ _ _ _ _ (@vM _ _ _ _ (@uw _ _ _ _ _ _ _ _ (@a9 _ _ _ _ _ _ _ _ _ (@CM _ _) (@aZ _ _ _ _ _ _ _ _ _ (@b_len _ _ rfl) ∅ T.b_len ((¬1)∘ab) ⋯ ⋯ ∅ ∅) ae (aP _)) (@sX _ _ _ _ _ (@a9 _ _ _ _ _ _ _ _ _ (@qt _ _ _ rfl hr) (@aR _ _ _ _ _ _ _ rfl (¬2) ae ↥4) (@ed _ _ _ (V.ref g_ONE) _ _ (PyData.tuple [.int (1),.int (1)]) rfl m_ONE rfl c_ONE ⋯) (aP _))))) (@aj _ _ _ _ _ (@az _ _ _ _ _ (@dQ _ _ _ _ _))) (@bv _ _)) (@aj _ _ _ _ _ (@az _ _ _ _ _ (@aZ _ _ _ _ _ _ _ _ _ (@b_all _ _ _ rfl hr) ∅ T.b_all ((@FP _ _ _ _ _ _ _ _ _ _ _ _ _ _ _ _ _ _ _ _ [(2,"thing"),(0,"web")] ["node","reach","link","chance"] rfl (@mM _ _ _ _ _ _ _ _ _ _ rfl rfl T.b_zip ((¬1)∘((¬2)∘ab)) ∅ ∅) (λC s0 H0 fp=>(@ce _ _ _ _ _ _ _ _ rfl rfl (@au _ _ _ _ _ _ _ _ (@aq _ _ _ 2 _ (show UB (["thing","web","node","reach","link","chance"]:List Str) by decide+kernel) rfl ↥3 (by trivial)) (@au _ _ _ _ _ _ _ _ (@aq _ _ _ 3 _ (show UB (["thing","web","node","reach","link","chance"]:List Str) by decide+kernel) rfl ↥3 (by trivial)) (@bB _ _) ∅) ∅) (aB (aB b_)) ∅ ∅)) (λC s0 H0 fp=>(@cG _ _)) (λC s0 H0 fp=>(@cf _ _ _ _ _ rfl (@aG _ _ _ _ _ _ _ _ _ _ _ _ _ _ _ PL Qj (hr.mono ⋯) ((¬1)∘((¬2)∘ab)) ∅ ⋯ ∅ ∅))) (λC s0 H0 fp=>(@ce _ _ _ _ _ _ _ _ rfl rfl (@au _ _ _ _ _ _ _ _ (@aq _ _ _ 4 _ (show UB (["thing","web","node","reach","link","chance"]:List Str) by decide+kernel) rfl ↥3 (by trivial)) (@au _ _ _ _ _ _ _ _ (@aq _ _ _ 5 _ (show UB (["thing","web","node","reach","link","chance"]:List Str) by decide+kernel) rfl ↥3 (by trivial)) (@bB _ _) ∅) ∅) (aB (aB b_)) ∅ ∅)) (λC s0 H0 fp=>(@cG _ _)) (λC s0 H0 fp=>(@pU _ _ _ _ _ _ _ _ _ (@qs _ _ _ rfl hr) (@aR _ _ _ _ _ _ _ rfl (¬0) (¬4) ↥4) (@aG _ _ _ _ _ _ _ _ _ _ _ _ _ _ _ Pq PJ (hr.mono ⋯) ((¬3)∘((¬5)∘ab)) ∅ ⋯ ∅ ∅) (aP _))) rfl ∅ (by intro _ _ _ _ _;rfl) ↥5)∘ab) ⋯ ⋯ ∅ ∅))))))
def km:FI:=(B3 (aa (aL (g1 gU) (aa (ac 1) ah)) ah))
def ik:FS:=(vO (bA 3 cc (aa (ac 0) (aa (ay bF (ac 1) (ac 3)) (aa (ac 2) ah)))) (ac 2) (ac 3))
def nI:FI:=(eE (ac 1))
def kg:FE:=(vC (.tuple [.int (0),.int (1)]))
def rA:FS:=(aC (a8 2 (bD [] 1 nI (af 0) aX kg)) (aC (cH ([3]++[]) km (af 3) ik) (a_ (aL (g1 cz) (aa (ac 2) ah)))))
def cm:FM:=et 2 2 ([2]++(([3]++[])++[])) rA
theorem qd:av ["web","tree","worths","at"] ["web","tree"] (ao fP):=⟨rfl,rfl,rfl,by decide+kernel,rfl,by decide+kernel,by decide+kernel⟩
theorem yt(h:eN K mg "worths_of" fP f fd ["web","tree"])(T:gS mg)(z_node_worth:Cl P w K mg base "node_worth" eh ["web","node","worths"] 5 3 cc){g_ZERO:TM}(m_ZERO:mg "ZERO"=some (.ref g_ZERO))(c_ZERO:∀F,DA K F (.tuple [.int (0),.int (1)]) (.ref g_ZERO)):bh P w K mg base el 6 f fd ["web","tree"] (eu K 2 cm):=by obtain⟨QJ,QK,Pl,PY⟩:=z_node_worth;have nd:=qd.nd;exact h.fn qd rfl rfl (λcdv A outer s H E hr=>(@ag _ _ _ _ _ _ _ _ (@lL _ _ _ (2) _ _ _ _ _ _ _ _ _ _ _ _ _ [] ["node"] rfl rfl (@cf _ _ _ _ _ rfl (¬1)) (λC s0 H0 fp=>(@aq _ _ _ 0 _ (show UB (["node"]:List Str) by decide+kernel) rfl ↥3 (by trivial))) (λC s0 H0 fp=>(@cG _ _)) (λC s0 H0 fp=>(@ed _ _ _ (V.ref g_ZERO) _ _ (PyData.tuple [.int (0),.int (1)]) rfl m_ZERO rfl c_ZERO ⋯)) rfl ∅ nd rfl rfl ∅ ↥5) (@ag _ _ _ _ _ _ _ _ (@cZ _ _ _ _ _ _ _ _ _ _ _ UL rfl (@Lx _ _ _ _ _ _ _ _ _ rfl T.b_reversed rfl T.b_range ((@aZ _ _ _ _ _ _ _ _ _ (@b_len _ _ rfl) ∅ T.b_len ((¬1)∘ab) ⋯ ⋯ ∅ ∅)∘ab) ∅ ∅) (@aq _ _ _ 3 _ nd rfl ↥3 (by trivial)) (@aj _ _ _ _ _ (@yB _ _ _ _ _ _ _ _ _ _ (@aG _ _ _ _ _ _ _ _ _ _ _ _ _ _ _ Pl PY (hr.mono ⋯) ((¬0)∘((@aR _ _ _ _ _ _ _ rfl (¬1) (¬3) ↥4)∘((¬2)∘ab))) ∅ ⋯ ∅ ∅) (¬2) (¬3) ↥5 ∅ ∅ ∅)) ↥5) (@aj _ _ _ _ _ (@az _ _ _ _ _ (@aZ _ _ _ _ _ _ _ _ _ (@b_tuple _ _ rfl) ∅ T.b_tuple ((¬2)∘ab) ⋯ ⋯ ∅ ∅))))))
def oj:FS:=(a_ (vU (aI (ay Ht (aL (g1 gU) (aa (ac 1) ah)) (vC (.int 0)))) (ay bF (bA 2 cm (aa (ac 0) (aa (ac 1) ah))) (vC (.int 0))) (vC (.tuple [.int (0),.int (1)]))))
def cw:FM:=et 2 0 [] oj
theorem r_:av ["web","tree"] ["web","tree"] (ao jM):=⟨rfl,rfl,rfl,by decide+kernel,rfl,by decide+kernel,by decide+kernel⟩
theorem zV(h:eN K mg "worth_of" jM f fd ["web","tree"])(T:gS mg)(z_worths_of:Cl P w K mg base "worths_of" fP ["web","tree"] 6 2 cm){g_ZERO:TM}(m_ZERO:mg "ZERO"=some (.ref g_ZERO))(c_ZERO:∀F,DA K F (.tuple [.int (0),.int (1)]) (.ref g_ZERO)):bh P w K mg base el 7 f fd ["web","tree"] (eu K 2 cw):=by obtain⟨QV,QW,Pj,PQ⟩:=z_worths_of;have nd:=r_.nd;exact h.fn r_ rfl rfl (λcdv A outer s H E hr=>(@aj _ _ _ _ _ (@az _ _ _ _ _ (@mL _ _ _ _ _ _ _ _ _ (@a9 _ _ _ _ _ _ _ _ _ (@CM _ _) (@aZ _ _ _ _ _ _ _ _ _ (@b_len _ _ rfl) ∅ T.b_len ((¬1)∘ab) ⋯ ⋯ ∅ ∅) ae (aP _)) (@aR _ _ _ _ _ _ _ rfl (@aG _ _ _ _ _ _ _ _ _ _ _ _ _ _ _ Pj PQ (hr.mono ⋯) ((¬0)∘((¬1)∘ab)) ∅ ⋯ ∅ ∅) ae ↥4) (@ed _ _ _ (V.ref g_ZERO) _ _ (PyData.tuple [.int (0),.int (1)]) rfl m_ZERO rfl c_ZERO ⋯)))))
def mD:FI:=(eE (bA 2 ig (aa (ac 0) (aa (ac 4) ah))))
def jt:FS:=(vO (bA 2 cF (aa (ay bF (ac 2) (ac 3)) (aa (ac 6) ah))) (ac 2) (ac 5))
def mE:FI:=(B1 (aa (ac 1) ah))
def dz:FS:=(cH (([5]++([6]++[]))++[]) mD (aO (am (af 5) (am (af 6) aN))) jt)
def mF:FI:=(eE (ac 1))
def jy:FE:=(vC (.tuple [.int (1),.int (1)]))
def pd:FS:=(aC (a8 2 (bD [] 1 mF (af 0) aX jy)) (aC (cH (([3]++([4]++[]))++(([5]++([6]++[]))++[])) mE (aO (am (af 3) (am (af 4) aN))) dz) (a_ (aL (g1 cz) (aa (ac 2) ah)))))
def cE:FM:=et 2 5 ([2]++((([3]++([4]++[]))++(([5]++([6]++[]))++[]))++[])) pd
theorem nU:av ["web","tree","reaches","at","node","link","chance"] ["web","tree"] (ao ek):=⟨rfl,rfl,rfl,by decide+kernel,rfl,by decide+kernel,by decide+kernel⟩
theorem vJ(h:eN K mg "reaches_of" ek f fd ["web","tree"])(T:gS mg)(z_ways_on:Cl P w K mg base "ways_on" jq ["web","node"] 4 2 ig)(z_times:Cl P w K mg base "times" jh ["one","other"] 3 2 cF){g_ONE:TM}(m_ONE:mg "ONE"=some (.ref g_ONE))(c_ONE:∀F,DA K F (.tuple [.int (1),.int (1)]) (.ref g_ONE)):bh P w K mg base el 5 f fd ["web","tree"] (eu K 2 cE):=by obtain⟨Q_,Re,PL,Qj⟩:=z_ways_on;obtain⟨Qz,QA,Pq,PJ⟩:=z_times;have nd:=nU.nd;exact h.fn nU rfl rfl (λcdv A outer s H E hr=>(@ag _ _ _ _ _ _ _ _ (@lL _ _ _ (2) _ _ _ _ _ _ _ _ _ _ _ _ _ [] ["node"] rfl rfl (@cf _ _ _ _ _ rfl (¬1)) (λC s0 H0 fp=>(@aq _ _ _ 0 _ (show UB (["node"]:List Str) by decide+kernel) rfl ↥3 (by trivial))) (λC s0 H0 fp=>(@cG _ _)) (λC s0 H0 fp=>(@ed _ _ _ (V.ref g_ONE) _ _ (PyData.tuple [.int (1),.int (1)]) rfl m_ONE rfl c_ONE ⋯)) rfl ∅ nd rfl rfl ∅ ↥5) (@ag _ _ _ _ _ _ _ _ (@cZ _ _ _ _ _ _ _ _ _ _ _ UL rfl (@z_ _ _ _ _ _ _ _ _ _ rfl rfl T.b_enumerate ((¬1)∘ab) ∅) (@ce _ _ _ _ _ _ _ _ rfl rfl (@au _ _ _ _ _ _ _ _ (@aq _ _ _ 3 _ nd rfl ↥3 (by trivial)) (@au _ _ _ _ _ _ _ _ (@aq _ _ _ 4 _ nd rfl ↥3 (by trivial)) (@bB _ _) ∅) ∅) (aB (aB b_)) ∅ ∅) (@aj _ _ _ _ _ (@cZ _ _ _ _ _ _ _ _ _ _ _ UL rfl (@cf _ _ _ _ _ rfl (@aG _ _ _ _ _ _ _ _ _ _ _ _ _ _ _ PL Qj (hr.mono ⋯) ((¬0)∘((¬4)∘ab)) ∅ ⋯ ∅ ∅)) (@ce _ _ _ _ _ _ _ _ rfl rfl (@au _ _ _ _ _ _ _ _ (@aq _ _ _ 5 _ nd rfl ↥3 (by trivial)) (@au _ _ _ _ _ _ _ _ (@aq _ _ _ 6 _ nd rfl ↥3 (by trivial)) (@bB _ _) ∅) ∅) (aB (aB b_)) ∅ ∅) (@aj _ _ _ _ _ (@yB _ _ _ _ _ _ _ _ _ _ (@aG _ _ _ _ _ _ _ _ _ _ _ _ _ _ _ Pq PJ (hr.mono ⋯) ((@aR _ _ _ _ _ _ _ rfl (¬2) (¬3) ↥4)∘((¬6)∘ab)) ∅ ⋯ ∅ ∅) (¬2) (¬5) ↥5 ∅ ∅ ∅)) ↥5)) ↥5) (@aj _ _ _ _ _ (@az _ _ _ _ _ (@aZ _ _ _ _ _ _ _ _ _ (@b_tuple _ _ rfl) ∅ T.b_tuple ((¬2)∘ab) ⋯ ⋯ ∅ ∅))))))
def ia:FI:=(nH (aa (ac 1) (aa (bA 2 cE (aa (ac 0) (aa (ac 1) ah))) ah)))
def dY:FS:=(vO (bA 2 i3 (aa (ay bF (ac 2) (ay bF (ac 3) (vC (.int 0)))) (aa (ac 4) ah))) (ac 2) (ay bF (ac 3) (vC (.int 0))))
def ib:FI:=(eE (ay bF (ac 0) (vC (.int 1))))
def h_:FE:=(vC (.tuple [.int (0),.int (1)]))
def mj:FS:=(aC (a8 2 (bD [] 1 ib (af 0) aX h_)) (aC (cH (([3]++([4]++[]))++[]) ia (aO (am (af 3) (am (af 4) aN))) dY) (a_ (aL (g1 cz) (aa (ac 2) ah)))))
def bO:FM:=et 2 3 ([2]++((([3]++([4]++[]))++[])++[])) mj
theorem lY:av ["web","tree","shares","node","reach"] ["web","tree"] (ao dU):=⟨rfl,rfl,rfl,by decide+kernel,rfl,by decide+kernel,by decide+kernel⟩
theorem sy(h:eN K mg "asked_shares" dU f fd ["web","tree"])(T:gS mg)(z_reaches_of:Cl P w K mg base "reaches_of" ek ["web","tree"] 5 2 cE)(z_plus:Cl P w K mg base "plus" oP ["one","other"] 3 2 i3){g_ZERO:TM}(m_ZERO:mg "ZERO"=some (.ref g_ZERO))(c_ZERO:∀F,DA K F (.tuple [.int (0),.int (1)]) (.ref g_ZERO)):bh P w K mg base el 6 f fd ["web","tree"] (eu K 2 bO):=by obtain⟨QL,QM,Pm,PZ⟩:=z_reaches_of;obtain⟨RO,RP,P8,Qn⟩:=z_plus;have nd:=lY.nd;exact h.fn lY rfl rfl (λcdv A outer s H E hr=>(@ag _ _ _ _ _ _ _ _ (@lL _ _ _ (2) _ _ _ _ _ _ _ _ _ _ _ _ _ [] ["tie"] rfl rfl (@cf _ _ _ _ _ rfl (@aR _ _ _ _ _ _ _ rfl (¬0) ae ↥4)) (λC s0 H0 fp=>(@aq _ _ _ 0 _ (show UB (["tie"]:List Str) by decide+kernel) rfl ↥3 (by trivial))) (λC s0 H0 fp=>(@cG _ _)) (λC s0 H0 fp=>(@ed _ _ _ (V.ref g_ZERO) _ _ (PyData.tuple [.int (0),.int (1)]) rfl m_ZERO rfl c_ZERO ⋯)) rfl ∅ nd rfl rfl ∅ ↥5) (@ag _ _ _ _ _ _ _ _ (@cZ _ _ _ _ _ _ _ _ _ _ _ UL rfl (@mM _ _ _ _ _ _ _ _ _ _ rfl rfl T.b_zip ((¬1)∘((@aG _ _ _ _ _ _ _ _ _ _ _ _ _ _ _ Pm PZ (hr.mono ⋯) ((¬0)∘((¬1)∘ab)) ∅ ⋯ ∅ ∅)∘ab)) ∅ ∅) (@ce _ _ _ _ _ _ _ _ rfl rfl (@au _ _ _ _ _ _ _ _ (@aq _ _ _ 3 _ nd rfl ↥3 (by trivial)) (@au _ _ _ _ _ _ _ _ (@aq _ _ _ 4 _ nd rfl ↥3 (by trivial)) (@bB _ _) ∅) ∅) (aB (aB b_)) ∅ ∅) (@aj _ _ _ _ _ (@yB _ _ _ _ _ _ _ _ _ _ (@aG _ _ _ _ _ _ _ _ _ _ _ _ _ _ _ P8 Qn (hr.mono ⋯) ((@aR _ _ _ _ _ _ _ rfl (¬2) (@aR _ _ _ _ _ _ _ rfl (¬3) ae ↥4) ↥4)∘((¬4)∘ab)) ∅ ⋯ ∅ ∅) (¬2) (@aR _ _ _ _ _ _ _ rfl (¬3) ae ↥4) ↥5 ∅ ∅ ∅)) ↥5) (@aj _ _ _ _ _ (@az _ _ _ _ _ (@aZ _ _ _ _ _ _ _ _ _ (@b_tuple _ _ rfl) ∅ T.b_tuple ((¬2)∘ab) ⋯ ⋯ ∅ ∅))))))
def mn:FS:=(kD (aI (ay Ht (ac 0) (ac 1))) J4 dm)
def dN:FM:=et 2 0 ([]++[]) mn
theorem l4:av ["many","most"] ["many","most"] (ao dX):=⟨rfl,rfl,rfl,by decide+kernel,rfl,by decide+kernel,by decide+kernel⟩
theorem sC(h:eN K mg "refuse_above" dX f fd ["many","most"])(T:gS mg):bh P w K mg base el 1 f fd ["many","most"] (eu K 2 dN):=by have nd:=l4.nd;exact h.fn l4 rfl rfl (λcdv A outer s H E hr=>(@aj _ _ _ _ _ (@df _ _ _ _ _ _ _ _ _ _ _ (@a9 _ _ _ _ _ _ _ _ _ (@CM _ _) (¬0) (¬1) (aP _)) (@aj _ _ _ _ _ (@IQ _ _ _)) (@bv _ _))))
def rY:FI:=(eE (ac 0))
def mq:FT:=(aI (ac 1))
def mr:FE:=(ac 0)
def wb:FS:=(a_ (aL (g1 cz) (aa (bD [] 2 rY (aO (am (af 0) (am (af 1) aN))) mq mr) ah)))
def k7:FM:=et 1 0 [] wb
theorem uO:av ["run"] ["run"] (ao lh):=⟨rfl,rfl,rfl,by decide+kernel,rfl,by decide+kernel,by decide+kernel⟩
theorem Bh(h:eN K mg "kept_of" lh f fd ["run"])(T:gS mg):bh P w K mg base el 1 f fd ["run"] (eu K 1 k7):=by have nd:=uO.nd;exact h.fn uO rfl rfl (λcdv A outer s H E hr=>(@aj _ _ _ _ _ (@az _ _ _ _ _ (@aZ _ _ _ _ _ _ _ _ _ (@b_tuple _ _ rfl) ∅ T.b_tuple ((@cY _ _ _ _ _ _ _ _ _ _ _ _ _ [] ["tie","truth"] rfl rfl (@cf _ _ _ _ _ rfl (¬0)) (λC s0 H0 fp=>(@ce _ _ _ _ _ _ _ _ rfl rfl (@au _ _ _ _ _ _ _ _ (@aq _ _ _ 0 _ (show UB (["tie","truth"]:List Str) by decide+kernel) rfl ↥3 (by trivial)) (@au _ _ _ _ _ _ _ _ (@aq _ _ _ 1 _ (show UB (["tie","truth"]:List Str) by decide+kernel) rfl ↥3 (by trivial)) (@bB _ _) ∅) ∅) (aB (aB b_)) ∅ ∅)) (λC s0 H0 fp=>(@ng _ _ _ _ (@gJ _ _ _ _ (¬1) ↥5))) (λC s0 H0 fp=>(¬0)) rfl ∅ ↥5)∘ab) ⋯ ⋯ ∅ ∅))))
def mH:FI:=(eE (bA 1 k7 (aa (ac 1) ah)))
def gn:FE:=(ay bF (ay bF (ay bF (ac 0) (vC (.int 1))) (ac 1)) (vC (.int 3)))
def pe:FS:=(a_ (aL (g1 (i4 wF)) (aa (bD [(0,"web")] 1 mH (af 1) aX gn) ah)))
def gD:FM:=et 2 0 [] pe
theorem nV:av ["web","run"] ["web","run"] (ao gR):=⟨rfl,rfl,rfl,by decide+kernel,rfl,by decide+kernel,by decide+kernel⟩
theorem vK(h:eN K mg "worth_kept" gR f fd ["web","run"])(T:gS mg)(z_kept_of:Cl P w K mg base "kept_of" lh ["run"] 1 1 k7):bh P w K mg base el 2 f fd ["web","run"] (eu K 2 gD):=by obtain⟨SC,SD,P9,Rf⟩:=z_kept_of;have nd:=nV.nd;exact h.fn nV rfl rfl (λcdv A outer s H E hr=>(@aj _ _ _ _ _ (@az _ _ _ _ _ (@aZ _ _ _ _ _ _ _ _ _ (@b_sum _ _ _ rfl hr) ∅ T.b_sum ((@cY _ _ _ _ _ _ _ _ _ _ _ _ _ [(0,"web")] ["tie"] rfl rfl (@cf _ _ _ _ _ rfl (@aG _ _ _ _ _ _ _ _ _ _ _ _ _ _ _ P9 Rf (hr.mono ⋯) ((¬1)∘ab) ∅ ⋯ ∅ ∅)) (λC s0 H0 fp=>(@aq _ _ _ 1 _ (show UB (["web","tie"]:List Str) by decide+kernel) rfl ↥3 (by trivial))) (λC s0 H0 fp=>(@cG _ _)) (λC s0 H0 fp=>(@aR _ _ _ _ _ _ _ rfl (@aR _ _ _ _ _ _ _ rfl (@aR _ _ _ _ _ _ _ rfl (¬0) ae ↥4) (¬1) ↥4) ae ↥4)) rfl ∅ ↥5)∘ab) ⋯ ⋯ ∅ ∅))))
def ki:FI:=(EJ (aa (ac 0) (aa (ac 1) ah)))
def di:FS:=(a8 2 (bA 2 cF (aa (ac 2) (aa (vU (aI (ac 4)) (ac 3) (bA 1 cv (aa (ac 3) ah))) ah))))
def rj:FS:=(aC (a8 2 (vC (.tuple [.int (1),.int (1)]))) (aC (cH (([3]++([4]++[]))++[2]) ki (aO (am (af 3) (am (af 4) aN))) di) (a_ (ac 2))))
def iJ:FM:=et 2 3 ([2]++((([3]++([4]++[]))++[2])++[])) rj
theorem p_:av ["chances","answers","product","chance","truth"] ["chances","answers"] (ao iO):=⟨rfl,rfl,rfl,by decide+kernel,rfl,by decide+kernel,by decide+kernel⟩
theorem yo(h:eN K mg "chance_by" iO f fd ["chances","answers"])(T:gS mg)(z_times:Cl P w K mg base "times" jh ["one","other"] 3 2 cF)(z_one_less:Cl P w K mg base "one_less" e_ ["chance"] 3 1 cv){g_ONE:TM}(m_ONE:mg "ONE"=some (.ref g_ONE))(c_ONE:∀F,DA K F (.tuple [.int (1),.int (1)]) (.ref g_ONE)):bh P w K mg base el 4 f fd ["chances","answers"] (eu K 2 iJ):=by obtain⟨Qz,QA,Pq,PJ⟩:=z_times;obtain⟨Qo,Qp,Pk,PK⟩:=z_one_less;have nd:=p_.nd;exact h.fn p_ rfl rfl (λcdv A outer s H E hr=>(@ag _ _ _ _ _ _ _ _ (@aE _ _ _ _ _ 2 _ _ nd rfl ↥3 (@ed _ _ _ (V.ref g_ONE) _ _ (PyData.tuple [.int (1),.int (1)]) rfl m_ONE rfl c_ONE ⋯) ∅ (by trivial)) (@ag _ _ _ _ _ _ _ _ (@cZ _ _ _ _ _ _ _ _ _ _ _ UL rfl (@IP _ _ _ _ _ _ _ _ _ _ rfl rfl T.b_zip ((¬0)∘((¬1)∘ab)) ∅ ∅) (@ce _ _ _ _ _ _ _ _ rfl rfl (@au _ _ _ _ _ _ _ _ (@aq _ _ _ 3 _ nd rfl ↥3 (by trivial)) (@au _ _ _ _ _ _ _ _ (@aq _ _ _ 4 _ nd rfl ↥3 (by trivial)) (@bB _ _) ∅) ∅) (aB (aB b_)) ∅ ∅) (@aj _ _ _ _ _ (@aE _ _ _ _ _ 2 _ _ nd rfl ↥3 (@aG _ _ _ _ _ _ _ _ _ _ _ _ _ _ _ Pq PJ (hr.mono ⋯) ((¬2)∘((@mL _ _ _ _ _ _ _ _ _ (@gJ _ _ _ _ (¬4) ↥5) (¬3) (@aG _ _ _ _ _ _ _ _ _ _ _ _ _ _ _ Pk PK (hr.mono ⋯) ((¬3)∘ab) ∅ ⋯ ∅ ∅))∘ab)) ∅ ⋯ ∅ ∅) ∅ (by trivial))) ↥5) (@aj _ _ _ _ _ (@az _ _ _ _ _ (¬2))))))
def kj:FI:=(eE (ay bF (ac 0) (vC (.int 1))))
def io:FE:=(ay bF (ac 0) (vC (.int 2)))
def rk:FS:=(a_ (bA 2 iJ (aa (bD [] 1 kj (af 0) aX io) (aa (ac 1) ah))))
def iK:FM:=et 2 0 [] rk
theorem qa:av ["web","answers"] ["web","answers"] (ao iP):=⟨rfl,rfl,rfl,by decide+kernel,rfl,by decide+kernel,by decide+kernel⟩
theorem yp(h:eN K mg "chance_of" iP f fd ["web","answers"])(T:gS mg)(z_chance_by:Cl P w K mg base "chance_by" iO ["chances","answers"] 4 2 iJ):bh P w K mg base el 5 f fd ["web","answers"] (eu K 2 iK):=by obtain⟨Sf,Sg,PR,QX⟩:=z_chance_by;have nd:=qa.nd;exact h.fn qa rfl rfl (λcdv A outer s H E hr=>(@aj _ _ _ _ _ (@az _ _ _ _ _ (@aG _ _ _ _ _ _ _ _ _ _ _ _ _ _ _ PR QX (hr.mono ⋯) ((@cY _ _ _ _ _ _ _ _ _ _ _ _ _ [] ["tie"] rfl rfl (@cf _ _ _ _ _ rfl (@aR _ _ _ _ _ _ _ rfl (¬0) ae ↥4)) (λC s0 H0 fp=>(@aq _ _ _ 0 _ (show UB (["tie"]:List Str) by decide+kernel) rfl ↥3 (by trivial))) (λC s0 H0 fp=>(@cG _ _)) (λC s0 H0 fp=>(@aR _ _ _ _ _ _ _ rfl (¬0) ae ↥4)) rfl ∅ ↥5)∘((¬1)∘ab)) ∅ ⋯ ∅ ∅))))
def iZ:FI:=(eE (ac 1))
def eT:FI:=(eE (bH (aa (vC (.bool true)) (aa (vC (.bool false)) ah))))
def de:FE:=(ay cy (ac 0) (bH (aa (ac 1) ah)))
def i0:FI:=(eS (aa (ac 0) ah))
def dc:FS:=(a8 1 (kB [] 2 iZ (af 0) aX eT (af 1) aX de))
def nF:FS:=(aC (a8 1 (dq (aa (bH ah) ah))) (aC (cH ([2]++[1]) i0 (af 2) dc) (a_ (ac 1))))
def eH:FM:=et 1 2 ([1]++(([2]++[1])++[])) nF
theorem mP:av ["many","rows","at"] ["many"] (ao eK):=⟨rfl,rfl,rfl,by decide+kernel,rfl,by decide+kernel,by decide+kernel⟩
theorem um(h:eN K mg "all_answers" eK f fd ["many"])(T:gS mg):bh P w K mg base el 1 f fd ["many"] (eu K 1 eH):=by have nd:=mP.nd;exact h.fn mP rfl rfl (λcdv A outer s H E hr=>(@ag _ _ _ _ _ _ _ _ (@aE _ _ _ _ _ 1 _ _ nd rfl ↥3 (@bS _ _ _ _ _ ((@aU _ _ _ _ _ _ ab)∘ab)) ∅ (by trivial)) (@ag _ _ _ _ _ _ _ _ (@cZ _ _ _ _ _ _ _ _ _ _ _ UL rfl (@fL _ _ _ _ _ _ _ rfl T.b_range ((¬0)∘ab) ∅) (@aq _ _ _ 2 _ nd rfl ↥3 (by trivial)) (@aj _ _ _ _ _ (@zZ _ _ _ (1) _ _ _ _ _ _ _ _ _ _ _ _ _ _ _ _ _ _ _ _ [] ["row","truth"] rfl (@cf _ _ _ _ _ rfl (¬1)) (λC s0 H0 fp=>(@aq _ _ _ 0 _ (show UB (["row","truth"]:List Str) by decide+kernel) rfl ↥3 (by trivial))) (λC s0 H0 fp=>(@cG _ _)) (λC s0 H0 fp=>(@cf _ _ _ _ _ rfl (@aU _ _ _ _ _ _ ((@dQ _ _ _ _ _)∘((@dQ _ _ _ _ _)∘ab))))) (λC s0 H0 fp=>(@aq _ _ _ 1 _ (show UB (["row","truth"]:List Str) by decide+kernel) rfl ↥3 (by trivial))) (λC s0 H0 fp=>(@cG _ _)) (λC s0 H0 fp=>(@bV _ _ _ _ _ _ _ rfl (¬0) (@aU _ _ _ _ _ _ ((¬1)∘ab)))) rfl ∅ nd rfl rfl ∅ (by intro _ _ _ _ _;rfl) ↥5)) ↥5) (@aj _ _ _ _ _ (@az _ _ _ _ _ (¬1))))))
def jD:FI:=(eE (bA 1 eH (aa (aL (g1 gU) (aa (ay bF (ac 0) (vC (.int 1))) ah)) ah)))
def gj:FE:=(bA 2 cF (aa (bA 2 iK (aa (ac 0) (aa (ac 2) ah))) (aa (bH (aa (bA 2 gD (aa (ac 0) (aa (bA 3 ie (aa (ac 0) (aa (ac 1) (aa (ac 2) ah)))) ah))) (aa (vC (.int 1)) ah))) ah)))
def o_:FS:=(aC (dr (bA 2 dN (aa (aL (g1 gU) (aa (ay bF (ac 0) (vC (.int 1))) ah)) (aa (vC (.int (10))) ah)))) (a_ (bA 1 pM (aa (bD [(0,"web"),(1,"tree")] 1 jD (af 2) aX gj) ah))))
def bJ:FM:=et 2 0 ([]++[]) o_
theorem nQ:av ["web","tree"] ["web","tree"] (ao gN):=⟨rfl,rfl,rfl,by decide+kernel,rfl,by decide+kernel,by decide+kernel⟩
theorem vG(h:eN K mg "by_answers" gN f fd ["web","tree"])(T:gS mg)(z_refuse_above:Cl P w K mg base "refuse_above" dX ["many","most"] 1 2 dN)(z_total:Cl P w K mg base "total" p7 ["row"] 4 1 pM)(z_times:Cl P w K mg base "times" jh ["one","other"] 3 2 cF)(z_chance_of:Cl P w K mg base "chance_of" iP ["web","answers"] 5 2 iK)(z_all_answers:Cl P w K mg base "all_answers" eK ["many"] 1 1 eH)(z_worth_kept:Cl P w K mg base "worth_kept" gR ["web","run"] 2 2 gD)(z_run_tree:Cl P w K mg base "run_tree" jL ["web","tree","answers"] 1 3 ie){t_MOST_TIES_BY_ANSWERS:Tok}(m_MOST_TIES_BY_ANSWERS:mg "MOST_TIES_BY_ANSWERS"=some (.int (10) t_MOST_TIES_BY_ANSWERS)):bh P w K mg base el 6 f fd ["web","tree"] (eu K 2 bJ):=by obtain⟨Rp,Rq,Pu,Ql⟩:=z_refuse_above;obtain⟨SY,SZ,QB,Si⟩:=z_total;obtain⟨Qz,QA,Pq,PJ⟩:=z_times;obtain⟨Sj,Sk,PU,QY⟩:=z_chance_of;obtain⟨Rz,RB,Pz,QC⟩:=z_all_answers;obtain⟨RT,RU,PD,QN⟩:=z_worth_kept;obtain⟨Ss,Su,P3,Q5⟩:=z_run_tree;have nd:=nQ.nd;exact h.fn nQ rfl rfl (λcdv A outer s H E hr=>(@ag _ _ _ _ _ _ _ _ (@ee _ _ _ _ _ (@aG _ _ _ _ _ _ _ _ _ _ _ _ _ _ _ Pu Ql (hr.mono ⋯) ((@aZ _ _ _ _ _ _ _ _ _ (@b_len _ _ rfl) ∅ T.b_len ((@aR _ _ _ _ _ _ _ rfl (¬0) ae ↥4)∘ab) ⋯ ⋯ ∅ ∅)∘((@ed _ _ _ (V.int (10)) _ _ (PyData.int (10)) rfl m_MOST_TIES_BY_ANSWERS ⟨_,rfl⟩ (λ_=>bZ.mpr rfl) ⋯)∘ab)) ∅ ⋯ ∅ ∅) ∅) (@aj _ _ _ _ _ (@az _ _ _ _ _ (@aG _ _ _ _ _ _ _ _ _ _ _ _ _ _ _ QB Si (hr.mono ⋯) ((@cY _ _ _ _ _ _ _ _ _ _ _ _ _ [(0,"web"),(1,"tree")] ["answers"] rfl rfl (@cf _ _ _ _ _ rfl (@aG _ _ _ _ _ _ _ _ _ _ _ _ _ _ _ Pz QC (hr.mono ⋯) ((@aZ _ _ _ _ _ _ _ _ _ (@b_len _ _ rfl) ∅ T.b_len ((@aR _ _ _ _ _ _ _ rfl (¬0) ae ↥4)∘ab) ⋯ ⋯ ∅ ∅)∘ab) ∅ ⋯ ∅ ∅)) (λC s0 H0 fp=>(@aq _ _ _ 2 _ (show UB (["web","tree","answers"]:List Str) by decide+kernel) rfl ↥3 (by trivial))) (λC s0 H0 fp=>(@cG _ _)) (λC s0 H0 fp=>(@aG _ _ _ _ _ _ _ _ _ _ _ _ _ _ _ Pq PJ (hr.mono ⋯) ((@aG _ _ _ _ _ _ _ _ _ _ _ _ _ _ _ PU QY (hr.mono ⋯) ((¬0)∘((¬2)∘ab)) ∅ ⋯ ∅ ∅)∘((@aU _ _ _ _ _ _ ((@aG _ _ _ _ _ _ _ _ _ _ _ _ _ _ _ PD QN (hr.mono ⋯) ((¬0)∘((@aG _ _ _ _ _ _ _ _ _ _ _ _ _ _ _ P3 Q5 (hr.mono ⋯) ((¬0)∘((¬1)∘((¬2)∘ab))) ∅ ⋯ ∅ ∅)∘ab)) ∅ ⋯ ∅ ∅)∘(ae∘ab)))∘ab)) ∅ ⋯ ∅ ∅)) rfl ∅ ↥5)∘ab) ∅ ⋯ ∅ ∅)))))
def BM:FS:=(aC (a8 2 (ay bx (ay cy (ay cy (ay cL (ay bx (ac 0) (vC (.int 2147483647))) (vC (.int 48271))) (ay cL (ay cL (vC (.int 7919)) (ac 1)) (ac 1))) (vC (.int 104729))) (vC (.int 2147483647)))) (a_ (ay bx (ay cL (ac 2) (ac 2)) (vC (.int 2147483629)))))
def m_:FM:=et 2 1 ([2]++[]) BM
theorem Ai:av ["_law_cell","_law_k","_law_number"] ["_law_cell","_law_k"] (ao p5):=⟨rfl,rfl,rfl,by decide+kernel,rfl,by decide+kernel,by decide+kernel⟩
theorem Fe(h:eN K mg "_law_mixed" p5 f fd ["_law_cell","_law_k"])(T:gS mg):bh P w K mg base el 1 f fd ["_law_cell","_law_k"] (eu K 2 m_):=by have nd:=Ai.nd;exact h.fn Ai rfl rfl (λcdv A outer s H E hr=>(@ag _ _ _ _ _ _ _ _ (@aE _ _ _ _ _ 2 _ _ nd rfl ↥3 (@bu _ _ _ _ _ _ _ (@bV _ _ _ _ _ _ _ rfl (@bV _ _ _ _ _ _ _ rfl (@gH _ _ _ _ _ _ _ rfl (@bu _ _ _ _ _ _ _ (¬0) ae) ae) (@gH _ _ _ _ _ _ _ rfl (@gH _ _ _ _ _ _ _ rfl ae (¬1)) (¬1))) ae) ae) ∅ (by trivial)) (@aj _ _ _ _ _ (@az _ _ _ _ _ (@bu _ _ _ _ _ _ _ (@gH _ _ _ _ _ _ _ rfl (¬2) (¬2)) ae)))))
def jk:FT:=(l7 (aI (ay G7 (ac 3) (ay A0 (vC (.int 10)) (vC (.int 18))))) (aI (ay DT (aL (g1 gU) (aa (ac 1) ah)) (vC (.int 900)))))
def m4:FS:=(aC (dr (cS bG (ac 1) (aa (ay bx (ac 3) (vC (.int 2147483629))) ah))) (a8 3 (ay gY (ac 3) (vC (.int 2147483629)))))
def m9:FI:=(eS (aa (vC (.int 12)) ah))
def kL:FS:=(dr (cS bG (ac 1) (aa (bA 2 m_ (aa (bA 2 m_ (aa (ac 3) (aa (ay cy (ay cL (vC (.int 3)) (ac 4)) (vC (.int 1))) ah))) (aa (ay cy (ay cy (ac 4) (ac 2)) (vC (.int 2))) ah))) ah)))
def qG:FI:=(eS (aa (aL (g2 EE) (aa (aL (g1 gU) (aa (ac 0) ah)) (aa (vC (.int 63)) ah))) ah))
def jj:FS:=(aC (a8 3 (aL (g1 AZ) (aa (ay bF (ac 0) (ac 2)) ah))) (aC (kD (aI (ay DT (ac 3) (ay A0 (vC (.int 10)) (vC (.int 18))))) (cH ([4]++[]) m9 (af 4) kL) dm) (aC (eZ (2^4200) jk m4) (kD (aI (ay G7 (ac 3) (vC (.int 2147483629)))) (dr (cS bG (ac 1) (aa (ay bx (ac 3) (vC (.int 2147483629))) ah))) dm))))
def BK:FS:=(aC (a8 1 (dq ah)) (aC (cH ([2]++([3]++((([4]++[])++[])++(([]++[3])++([]++[]))))) qG (af 2) jj) (a_ (ac 1))))
def pI:FM:=et 1 4 ([1]++(([2]++([3]++((([4]++[])++[])++(([]++[3])++([]++[])))))++[])) BK
theorem Ag:av ["_law_script","_law_drawn","_law_k","_law_cell","_law_j"] ["_law_script"] (ao pY):=⟨rfl,rfl,rfl,by decide+kernel,rfl,by decide+kernel,by decide+kernel⟩
theorem Fc(h:eN K mg "_law_draws" pY f fd ["_law_script"])(T:gS mg)(zLmixed:Cl P w K mg base "_law_mixed" p5 ["_law_cell","_law_k"] 1 2 m_):bh P w K mg base el 2 f fd ["_law_script"] (eu K 1 pI):=by obtain⟨S0,S3,Qk,Rg⟩:=zLmixed;have nd:=Ag.nd;exact h.fn Ag rfl rfl (λcdv A outer s H E hr=>(@ag _ _ _ _ _ _ _ _ (@aE _ _ _ _ _ 1 _ _ nd rfl ↥3 (@bS _ _ _ _ _ ab) ∅ (by trivial)) (@ag _ _ _ _ _ _ _ _ (@cZ _ _ _ _ _ _ _ _ _ _ _ UL rfl (@fL _ _ _ _ _ _ _ rfl T.b_range ((@aZ _ _ _ _ _ _ _ _ _ (@b_min _ _ rfl) ∅ T.b_min ((@aZ _ _ _ _ _ _ _ _ _ (@b_len _ _ rfl) ∅ T.b_len ((¬0)∘ab) ⋯ ⋯ ∅ ∅)∘(ae∘ab)) ⋯ ⋯ ∅ ∅)∘ab) ∅) (@aq _ _ _ 2 _ nd rfl ↥3 (by trivial)) (@ag _ _ _ _ _ _ _ _ (@aE _ _ _ _ _ 3 _ _ nd rfl ↥3 (@aZ _ _ _ _ _ _ _ _ _ (@b_abs _ _) ∅ T.b_abs ((@aR _ _ _ _ _ _ _ rfl (¬0) (¬2) ↥4)∘ab) ⋯ ⋯ ∅ ∅) ∅ (by trivial)) (@ag _ _ _ _ _ _ _ _ (@df _ _ _ _ _ _ _ _ _ _ _ (@a9 _ _ _ _ _ _ _ _ _ (@CN _ _) (¬3) (@JZ _ _ _ _ _ _ _ ae ae) (aP _)) (@aj _ _ _ _ _ (@cZ _ _ _ _ _ _ _ _ _ _ _ UL rfl (@fL _ _ _ _ _ _ _ rfl T.b_range (ae∘ab) ∅) (@aq _ _ _ 4 _ nd rfl ↥3 (by trivial)) (@aj _ _ _ _ _ (@ee _ _ _ _ _ (@eI _ _ _ _ _ _ _ _ _ rfl (¬1) ((@aG _ _ _ _ _ _ _ _ _ _ _ _ _ _ _ Qk Rg (hr.mono ⋯) ((@aG _ _ _ _ _ _ _ _ _ _ _ _ _ _ _ Qk Rg (hr.mono ⋯) ((¬3)∘((@bV _ _ _ _ _ _ _ rfl (@gH _ _ _ _ _ _ _ rfl ae (¬4)) ae)∘ab)) ∅ ⋯ ∅ ∅)∘((@bV _ _ _ _ _ _ _ rfl (@bV _ _ _ _ _ _ _ rfl (¬4) (¬2)) ae)∘ab)) ∅ ⋯ ∅ ∅)∘ab) ∅ ∅ ∅ ∅ ∅) ∅)) ↥5)) (@bv _ _)) (@ag _ _ _ _ _ _ _ _ (@jG _ _ _ _ _ _ _ _ _ UL (@vM _ _ _ _ (@uw _ _ _ _ _ _ _ _ (@a9 _ _ _ _ _ _ _ _ _ (@CL _ _) (¬3) (@JZ _ _ _ _ _ _ _ ae ae) (aP _)) (@sX _ _ _ _ _ (@a9 _ _ _ _ _ _ _ _ _ (@CN _ _) (@aZ _ _ _ _ _ _ _ _ _ (@b_len _ _ rfl) ∅ T.b_len ((¬1)∘ab) ⋯ ⋯ ∅ ∅) ae (aP _))))) (@ag _ _ _ _ _ _ _ _ (@ee _ _ _ _ _ (@eI _ _ _ _ _ _ _ _ _ rfl (¬1) ((@bu _ _ _ _ _ _ _ (¬3) ae)∘ab) ∅ ∅ ∅ ∅ ∅) ∅) (@aj _ _ _ _ _ (@aE _ _ _ _ _ 3 _ _ nd rfl ↥3 (@ku _ _ _ _ _ _ _ (¬3) ae) ∅ (by trivial))))) (@aj _ _ _ _ _ (@df _ _ _ _ _ _ _ _ _ _ _ (@a9 _ _ _ _ _ _ _ _ _ (@CL _ _) (¬3) ae (aP _)) (@aj _ _ _ _ _ (@ee _ _ _ _ _ (@eI _ _ _ _ _ _ _ _ _ rfl (¬1) ((@bu _ _ _ _ _ _ _ (¬3) ae)∘ab) ∅ ∅ ∅ ∅ ∅) ∅)) (@bv _ _)))))) ↥5) (@aj _ _ _ _ _ (@az _ _ _ _ _ (¬1))))))
def AO:FS:=(aC (kD (aI (ay (bR false) (ac 0) (dq ah))) (a_ (vC (.int 0))) dm) (a_ (cS gB (ac 0) (aa (vC (.int 0)) ah))))
def bo:FM:=et 1 0 (([]++[])++[]) AO
theorem Cp:av ["_law_drawn"] ["_law_drawn"] (ao jJ):=⟨rfl,rfl,rfl,by decide+kernel,rfl,by decide+kernel,by decide+kernel⟩
theorem HV(h:eN K mg "_law_next" jJ f fd ["_law_drawn"])(T:gS mg):bh P w K mg base el 1 f fd ["_law_drawn"] (eu K 1 bo):=by have nd:=Cp.nd;exact h.fn Cp rfl rfl (λcdv A outer s H E hr=>(@ag _ _ _ _ _ _ _ _ (@df _ _ _ _ _ _ _ _ _ _ _ (@a9 _ _ _ _ _ _ _ _ _ (@qs _ _ _ rfl hr) (¬0) (@bS _ _ _ _ _ ab) (aP _)) (@aj _ _ _ _ _ (@az _ _ _ _ _ ae)) (@bv _ _)) (@aj _ _ _ _ _ (@az _ _ _ _ _ (@yy _ _ _ _ _ _ _ _ _ rfl (¬0) (ae∘ab) ∅ ∅ ∅ ∅ ∅)))))
def ph:FT:=(aI (ay (bR true) (ac 1) (vC (.int 0))))
def sM:FS:=(sE 0 1 (aa (ac 1) (aa (ay bx (ac 0) (ac 1)) ah)))
def JA:FS:=(aC (eZ (2^4200) ph sM) (a_ (aL (g1 AZ) (aa (ac 0) ah))))
def zI:FM:=et 2 0 ([0,1]++[]) JA
theorem Gm:av ["_law_one","_law_other"] ["_law_one","_law_other"] (ao Ac):=⟨rfl,rfl,rfl,by decide+kernel,rfl,by decide+kernel,by decide+kernel⟩
theorem K2(h:eN K mg "_law_gcd" Ac f fd ["_law_one","_law_other"])(T:gS mg):bh P w K mg base el 1 f fd ["_law_one","_law_other"] (eu K 2 zI):=by have nd:=Gm.nd;exact h.fn Gm rfl rfl (λcdv A outer s H E hr=>(@ag _ _ _ _ _ _ _ _ (@jG _ _ _ _ _ _ _ _ _ UL (@a9 _ _ _ _ _ _ _ _ _ (@qt _ _ _ rfl hr) (¬1) ae (aP _)) (@aj _ _ _ _ _ (@FX _ _ _ _ _ 0 1 _ _ _ _ _ _ _ _ _ rfl nd rfl rfl ⋯ rfl rfl ((¬1)∘((@bu _ _ _ _ _ _ _ (¬0) (¬1))∘ab)) ∅ ∅))) (@aj _ _ _ _ _ (@az _ _ _ _ _ (@aZ _ _ _ _ _ _ _ _ _ (@b_abs _ _) ∅ T.b_abs ((¬0)∘ab) ⋯ ⋯ ∅ ∅)))))
def JB:FS:=(aC (a8 2 (bA 2 zI (aa (ac 0) (aa (ac 1) ah)))) (a_ (bH (aa (ay gY (ac 0) (ac 2)) (aa (ay gY (ac 1) (ac 2)) ah)))))
def nK:FM:=et 2 1 ([2]++[]) JB
theorem Gn:av ["_law_top","_law_bottom","_law_common"] ["_law_top","_law_bottom"] (ao uG):=⟨rfl,rfl,rfl,by decide+kernel,rfl,by decide+kernel,by decide+kernel⟩
theorem K3(h:eN K mg "_law_low" uG f fd ["_law_top","_law_bottom"])(T:gS mg)(zLgcd:Cl P w K mg base "_law_gcd" Ac ["_law_one","_law_other"] 1 2 zI):bh P w K mg base el 2 f fd ["_law_top","_law_bottom"] (eu K 2 nK):=by obtain⟨Tq,Tr,RC,S4⟩:=zLgcd;have nd:=Gn.nd;exact h.fn Gn rfl rfl (λcdv A outer s H E hr=>(@ag _ _ _ _ _ _ _ _ (@aE _ _ _ _ _ 2 _ _ nd rfl ↥3 (@aG _ _ _ _ _ _ _ _ _ _ _ _ _ _ _ RC S4 (hr.mono ⋯) ((¬0)∘((¬1)∘ab)) ∅ ⋯ ∅ ∅) ∅ (by trivial)) (@aj _ _ _ _ _ (@az _ _ _ _ _ (@aU _ _ _ _ _ _ ((@ku _ _ _ _ _ _ _ (¬0) (¬2))∘((@ku _ _ _ _ _ _ _ (¬1) (¬2))∘ab)))))))
def D':FS:=(a_ (bA 2 nK (aa (ay cy (ay cL (ay bF (ac 0) (vC (.int 0))) (ay bF (ac 1) (vC (.int 1)))) (ay cL (ay bF (ac 1) (vC (.int 0))) (ay bF (ac 0) (vC (.int 1))))) (aa (ay cL (ay bF (ac 0) (vC (.int 1))) (ay bF (ac 1) (vC (.int 1)))) ah))))
def oD:FM:=et 2 0 [] D'
theorem Cq:av ["_law_one","_law_other"] ["_law_one","_law_other"] (ao qU):=⟨rfl,rfl,rfl,by decide+kernel,rfl,by decide+kernel,by decide+kernel⟩
theorem HW(h:eN K mg "_law_plus" qU f fd ["_law_one","_law_other"])(T:gS mg)(zLlow:Cl P w K mg base "_law_low" uG ["_law_top","_law_bottom"] 2 2 nK):bh P w K mg base el 3 f fd ["_law_one","_law_other"] (eu K 2 oD):=by obtain⟨SE,SF,QD,Q6⟩:=zLlow;have nd:=Cq.nd;exact h.fn Cq rfl rfl (λcdv A outer s H E hr=>(@aj _ _ _ _ _ (@az _ _ _ _ _ (@aG _ _ _ _ _ _ _ _ _ _ _ _ _ _ _ QD Q6 (hr.mono ⋯) ((@bV _ _ _ _ _ _ _ rfl (@gH _ _ _ _ _ _ _ rfl (@aR _ _ _ _ _ _ _ rfl (¬0) ae ↥4) (@aR _ _ _ _ _ _ _ rfl (¬1) ae ↥4)) (@gH _ _ _ _ _ _ _ rfl (@aR _ _ _ _ _ _ _ rfl (¬1) ae ↥4) (@aR _ _ _ _ _ _ _ rfl (¬0) ae ↥4)))∘((@gH _ _ _ _ _ _ _ rfl (@aR _ _ _ _ _ _ _ rfl (¬0) ae ↥4) (@aR _ _ _ _ _ _ _ rfl (¬1) ae ↥4))∘ab)) ∅ ⋯ ∅ ∅))))
def BN:FS:=(a_ (bA 2 nK (aa (ay cL (ay bF (ac 0) (vC (.int 0))) (ay bF (ac 1) (vC (.int 0)))) (aa (ay cL (ay bF (ac 0) (vC (.int 1))) (ay bF (ac 1) (vC (.int 1)))) ah))))
def gy:FM:=et 2 0 [] BN
theorem Aj:av ["_law_one","_law_other"] ["_law_one","_law_other"] (ao lM):=⟨rfl,rfl,rfl,by decide+kernel,rfl,by decide+kernel,by decide+kernel⟩
theorem Ff(h:eN K mg "_law_times" lM f fd ["_law_one","_law_other"])(T:gS mg)(zLlow:Cl P w K mg base "_law_low" uG ["_law_top","_law_bottom"] 2 2 nK):bh P w K mg base el 3 f fd ["_law_one","_law_other"] (eu K 2 gy):=by obtain⟨SE,SF,QD,Q6⟩:=zLlow;have nd:=Aj.nd;exact h.fn Aj rfl rfl (λcdv A outer s H E hr=>(@aj _ _ _ _ _ (@az _ _ _ _ _ (@aG _ _ _ _ _ _ _ _ _ _ _ _ _ _ _ QD Q6 (hr.mono ⋯) ((@gH _ _ _ _ _ _ _ rfl (@aR _ _ _ _ _ _ _ rfl (¬0) ae ↥4) (@aR _ _ _ _ _ _ _ rfl (¬1) ae ↥4))∘((@gH _ _ _ _ _ _ _ rfl (@aR _ _ _ _ _ _ _ rfl (¬0) ae ↥4) (@aR _ _ _ _ _ _ _ rfl (¬1) ae ↥4))∘ab)) ∅ ⋯ ∅ ∅))))
def Ea:FS:=(a_ (bH (aa (ay my (ay bF (ac 0) (vC (.int 1))) (ay bF (ac 0) (vC (.int 0)))) (aa (ay bF (ac 0) (vC (.int 1))) ah))))
def uh:FM:=et 1 0 [] Ea
theorem Cr:av ["_law_one"] ["_law_one"] (ao uH):=⟨rfl,rfl,rfl,by decide+kernel,rfl,by decide+kernel,by decide+kernel⟩
theorem HX(h:eN K mg "_law_rest" uH f fd ["_law_one"])(T:gS mg):bh P w K mg base el 1 f fd ["_law_one"] (eu K 1 uh):=by have nd:=Cr.nd;exact h.fn Cr rfl rfl (λcdv A outer s H E hr=>(@aj _ _ _ _ _ (@az _ _ _ _ _ (@aU _ _ _ _ _ _ ((@z9 _ _ _ _ _ _ _ (@aR _ _ _ _ _ _ _ rfl (¬0) ae ↥4) (@aR _ _ _ _ _ _ _ rfl (¬0) ae ↥4))∘((@aR _ _ _ _ _ _ _ rfl (¬0) ae ↥4)∘ab))))))
def Eb:FS:=(a_ (ay (bR false) (aL (g1 rW) (aa (ac 0) ah)) (aL (g1 rW) (aa (ac 1) ah))))
def mJ:FM:=et 2 0 [] Eb
theorem Cs:av ["_law_found","_law_due"] ["_law_found","_law_due"] (ao uI):=⟨rfl,rfl,rfl,by decide+kernel,rfl,by decide+kernel,by decide+kernel⟩
theorem HY(h:eN K mg "_law_same" uI f fd ["_law_found","_law_due"])(T:gS mg):bh P w K mg base el 1 f fd ["_law_found","_law_due"] (eu K 2 mJ):=by have nd:=Cs.nd;exact h.fn Cs rfl rfl (λcdv A outer s H E hr=>(@aj _ _ _ _ _ (@az _ _ _ _ _ (@pU _ _ _ _ _ _ _ _ _ (@qs _ _ _ rfl hr) (@aZ _ _ _ _ _ _ _ _ _ (@b_repr _ _ _ rfl hr) ∅ T.b_repr ((¬0)∘ab) ⋯ ⋯ ∅ ∅) (@aZ _ _ _ _ _ _ _ _ _ (@b_repr _ _ _ rfl hr) ∅ T.b_repr ((¬1)∘ab) ⋯ ⋯ ∅ ∅) (aP _)))))
def mh:FS:=(aC (kD (aI (ay (bR false) (ac 1) (vC (.int 0)))) (a_ (ay bF (dq (aa (bH (aa (vC (.int 1)) (aa (vC (.int 2)) ah))) (aa (bH (aa (vC (.int 1)) (aa (vC (.int 3)) ah))) (aa (bH (aa (vC (.int 2)) (aa (vC (.int 3)) ah))) (aa (bH (aa (vC (.int 1)) (aa (vC (.int 1)) ah))) (aa (bH (aa (vC (.int 0)) (aa (vC (.int 1)) ah))) (aa (bH (aa (vC (.int 3)) (aa (vC (.int 4)) ah))) ah))))))) (ay bx (ac 0) (vC (.int 6))))) dm) (aC (kD (aI (ay (bR false) (ac 1) (vC (.int 1)))) (aC (a8 2 (ay cy (vC (.int 2)) (ay bx (ac 0) (vC (.int 9))))) (a_ (bA 2 nK (aa (ay cy (vC (.int 1)) (ay bx (ay gY (ac 0) (vC (.int 9))) (ay my (ac 2) (vC (.int 1))))) (aa (ac 2) ah))))) dm) (aC (kD (aI (ay (bR false) (ac 1) (vC (.int 2)))) (aC (a8 2 (ay cy (vC (.int 1)) (ay bx (ac 0) (vC (.int 100))))) (a_ (bA 2 nK (aa (ay bx (ay gY (ac 0) (vC (.int 100))) (ay cy (ac 2) (vC (.int 1)))) (aa (ac 2) ah))))) dm) (a_ (bH (aa (vC (.int 1)) (aa (vC (.int 1)) ah)))))))
def eG:FM:=et 2 1 (([]++[])++((([2]++[])++[])++((([2]++[])++[])++[]))) mh
theorem xa:av ["_law_number","_law_kind","_law_bottom"] ["_law_number","_law_kind"] (ao lg):=⟨rfl,rfl,rfl,by decide+kernel,rfl,by decide+kernel,by decide+kernel⟩
theorem Dh(h:eN K mg "_law_chance" lg f fd ["_law_number","_law_kind"])(T:gS mg)(zLlow:Cl P w K mg base "_law_low" uG ["_law_top","_law_bottom"] 2 2 nK):bh P w K mg base el 3 f fd ["_law_number","_law_kind"] (eu K 2 eG):=by obtain⟨SE,SF,QD,Q6⟩:=zLlow;have nd:=xa.nd;exact h.fn xa rfl rfl (λcdv A outer s H E hr=>(@ag _ _ _ _ _ _ _ _ (@df _ _ _ _ _ _ _ _ _ _ _ (@a9 _ _ _ _ _ _ _ _ _ (@qs _ _ _ rfl hr) (¬1) ae (aP _)) (@aj _ _ _ _ _ (@az _ _ _ _ _ (@aR _ _ _ _ _ _ _ rfl (@bS _ _ _ _ _ ((@aU _ _ _ _ _ _ (ae∘(ae∘ab)))∘((@aU _ _ _ _ _ _ (ae∘(ae∘ab)))∘((@aU _ _ _ _ _ _ (ae∘(ae∘ab)))∘((@aU _ _ _ _ _ _ (ae∘(ae∘ab)))∘((@aU _ _ _ _ _ _ (ae∘(ae∘ab)))∘((@aU _ _ _ _ _ _ (ae∘(ae∘ab)))∘ab))))))) (@bu _ _ _ _ _ _ _ (¬0) ae) ↥4))) (@bv _ _)) (@ag _ _ _ _ _ _ _ _ (@df _ _ _ _ _ _ _ _ _ _ _ (@a9 _ _ _ _ _ _ _ _ _ (@qs _ _ _ rfl hr) (¬1) ae (aP _)) (@ag _ _ _ _ _ _ _ _ (@aE _ _ _ _ _ 2 _ _ nd rfl ↥3 (@bV _ _ _ _ _ _ _ rfl ae (@bu _ _ _ _ _ _ _ (¬0) ae)) ∅ (by trivial)) (@aj _ _ _ _ _ (@az _ _ _ _ _ (@aG _ _ _ _ _ _ _ _ _ _ _ _ _ _ _ QD Q6 (hr.mono ⋯) ((@bV _ _ _ _ _ _ _ rfl ae (@bu _ _ _ _ _ _ _ (@ku _ _ _ _ _ _ _ (¬0) ae) (@z9 _ _ _ _ _ _ _ (¬2) ae)))∘((¬2)∘ab)) ∅ ⋯ ∅ ∅)))) (@bv _ _)) (@ag _ _ _ _ _ _ _ _ (@df _ _ _ _ _ _ _ _ _ _ _ (@a9 _ _ _ _ _ _ _ _ _ (@qs _ _ _ rfl hr) (¬1) ae (aP _)) (@ag _ _ _ _ _ _ _ _ (@aE _ _ _ _ _ 2 _ _ nd rfl ↥3 (@bV _ _ _ _ _ _ _ rfl ae (@bu _ _ _ _ _ _ _ (¬0) ae)) ∅ (by trivial)) (@aj _ _ _ _ _ (@az _ _ _ _ _ (@aG _ _ _ _ _ _ _ _ _ _ _ _ _ _ _ QD Q6 (hr.mono ⋯) ((@bu _ _ _ _ _ _ _ (@ku _ _ _ _ _ _ _ (¬0) ae) (@bV _ _ _ _ _ _ _ rfl (¬2) ae))∘((¬2)∘ab)) ∅ ⋯ ∅ ∅)))) (@bv _ _)) (@aj _ _ _ _ _ (@az _ _ _ _ _ (@aU _ _ _ _ _ _ (ae∘(ae∘ab)))))))))
def BO:FS:=(a_ (ay bF (dq (aa (ay bx (ac 0) (vC (.int 7))) (aa (ay cy (vC (.int 5)) (ay bx (ac 0) (vC (.int 2)))) (aa (ay bx (ac 0) (vC (.int 1001))) (aa (ay my (vC (.int 1000)) (ay bx (ac 0) (vC (.int 3)))) ah))))) (ay bx (ac 1) (vC (.int 4)))))
def pL:FM:=et 2 0 [] BO
theorem Ak:av ["_law_number","_law_kind"] ["_law_number","_law_kind"] (ao p6):=⟨rfl,rfl,rfl,by decide+kernel,rfl,by decide+kernel,by decide+kernel⟩
theorem Fg(h:eN K mg "_law_worth" p6 f fd ["_law_number","_law_kind"])(T:gS mg):bh P w K mg base el 1 f fd ["_law_number","_law_kind"] (eu K 2 pL):=by have nd:=Ak.nd;exact h.fn Ak rfl rfl (λcdv A outer s H E hr=>(@aj _ _ _ _ _ (@az _ _ _ _ _ (@aR _ _ _ _ _ _ _ rfl (@bS _ _ _ _ _ ((@bu _ _ _ _ _ _ _ (¬0) ae)∘((@bV _ _ _ _ _ _ _ rfl ae (@bu _ _ _ _ _ _ _ (¬0) ae))∘((@bu _ _ _ _ _ _ _ (¬0) ae)∘((@z9 _ _ _ _ _ _ _ ae (@bu _ _ _ _ _ _ _ (¬0) ae))∘ab))))) (@bu _ _ _ _ _ _ _ (¬1) ae) ↥4))))
def tX:FI:=(eS (aa (ac 2) ah))
def kN:FS:=(aC (a8 8 (bA 1 bo (aa (ac 0) ah))) (aC (a8 9 (ay bF (dq (aa (ay bx (ac 8) (ac 1)) (aa (vC (.int 0)) (aa (ay bx (ac 7) (ac 1)) (aa (ay bx (ac 8) (ac 1)) (aa (ay bx (ac 8) (vC (.int 2))) (aa (ay bx (ac 8) (ac 1)) ah))))))) (ac 3))) (aC (a8 10 (ay bx (ay cy (ay cy (ac 9) (vC (.int 1))) (ay bx (ay gY (ac 8) (vC (.int 12))) (ay my (ac 1) (vC (.int 1))))) (ac 1))) (aC (kD (aI (ay (bR false) (ac 3) (vC (.int 4)))) (ky (bH (aa (vC (.int 0)) (aa (vC (.int 1)) ah))) (aO (am (af 9) (am (af 10) aN)))) dm) (aC (a8 11 (bA 1 bo (aa (ac 0) ah))) (aC (a8 12 (bH (aa (aL (g2 EE) (aa (ac 9) (aa (ac 10) ah))) (aa (aL (g2 C0) (aa (ac 9) (aa (ac 10) ah))) ah)))) (dr (cS bG (ac 6) (aa (ay cy (ac 12) (bH (aa (bA 2 eG (aa (ac 11) (aa (ac 4) ah))) (aa (bA 2 pL (aa (ay gY (ac 11) (vC (.int 10007))) (aa (ac 5) ah))) ah)))) ah)))))))))
def Ec:FS:=(aC (a8 3 (ay bx (bA 1 bo (aa (ac 0) ah)) (vC (.int 6)))) (aC (a8 4 (ay bx (bA 1 bo (aa (ac 0) ah)) (vC (.int 4)))) (aC (a8 5 (ay bx (bA 1 bo (aa (ac 0) ah)) (vC (.int 4)))) (aC (a8 6 (dq ah)) (aC (cH ([7]++([8]++([9]++([10]++((([9]++([10]++[]))++[])++([11]++([12]++[]))))))) tX (af 7) kN) (a_ (aL (g1 cz) (aa (ac 6) ah))))))))
def oE:FM:=et 3 10 ([3]++([4]++([5]++([6]++(([7]++([8]++([9]++([10]++((([9]++([10]++[]))++[])++([11]++([12]++[])))))))++[]))))) Ec
theorem Ct:av ["_law_drawn","_law_things","_law_many","_law_shape","_law_odds","_law_worths","_law_found","_law_k","_law_number","_law_one","_law_other","_law_cell","_law_ends"] ["_law_drawn","_law_things","_law_many"] (ao qV):=⟨rfl,rfl,rfl,by decide+kernel,rfl,by decide+kernel,by decide+kernel⟩
theorem HZ(h:eN K mg "_law_ties" qV f fd ["_law_drawn","_law_things","_law_many"])(T:gS mg)(zLnext:Cl P w K mg base "_law_next" jJ ["_law_drawn"] 1 1 bo)(zLchance:Cl P w K mg base "_law_chance" lg ["_law_number","_law_kind"] 3 2 eG)(zLworth:Cl P w K mg base "_law_worth" p6 ["_law_number","_law_kind"] 1 2 pL):bh P w K mg base el 4 f fd ["_law_drawn","_law_things","_law_many"] (eu K 3 oE):=by obtain⟨Qq,Qr,Pe,Pf⟩:=zLnext;obtain⟨RD,RE,P4,QE⟩:=zLchance;obtain⟨S5,S6,QF,Sl⟩:=zLworth;have nd:=Ct.nd;exact h.fn Ct rfl rfl (λcdv A outer s H E hr=>(@ag _ _ _ _ _ _ _ _ (@aE _ _ _ _ _ 3 _ _ nd rfl ↥3 (@bu _ _ _ _ _ _ _ (@aG _ _ _ _ _ _ _ _ _ _ _ _ _ _ _ Pe Pf (hr.mono ⋯) ((¬0)∘ab) ∅ ⋯ ∅ ∅) ae) ∅ (by trivial)) (@ag _ _ _ _ _ _ _ _ (@aE _ _ _ _ _ 4 _ _ nd rfl ↥3 (@bu _ _ _ _ _ _ _ (@aG _ _ _ _ _ _ _ _ _ _ _ _ _ _ _ Pe Pf (hr.mono ⋯) ((¬0)∘ab) ∅ ⋯ ∅ ∅) ae) ∅ (by trivial)) (@ag _ _ _ _ _ _ _ _ (@aE _ _ _ _ _ 5 _ _ nd rfl ↥3 (@bu _ _ _ _ _ _ _ (@aG _ _ _ _ _ _ _ _ _ _ _ _ _ _ _ Pe Pf (hr.mono ⋯) ((¬0)∘ab) ∅ ⋯ ∅ ∅) ae) ∅ (by trivial)) (@ag _ _ _ _ _ _ _ _ (@aE _ _ _ _ _ 6 _ _ nd rfl ↥3 (@bS _ _ _ _ _ ab) ∅ (by trivial)) (@ag _ _ _ _ _ _ _ _ (@cZ _ _ _ _ _ _ _ _ _ _ _ UL rfl (@fL _ _ _ _ _ _ _ rfl T.b_range ((¬2)∘ab) ∅) (@aq _ _ _ 7 _ nd rfl ↥3 (by trivial)) (@ag _ _ _ _ _ _ _ _ (@aE _ _ _ _ _ 8 _ _ nd rfl ↥3 (@aG _ _ _ _ _ _ _ _ _ _ _ _ _ _ _ Pe Pf (hr.mono ⋯) ((¬0)∘ab) ∅ ⋯ ∅ ∅) ∅ (by trivial)) (@ag _ _ _ _ _ _ _ _ (@aE _ _ _ _ _ 9 _ _ nd rfl ↥3 (@aR _ _ _ _ _ _ _ rfl (@bS _ _ _ _ _ ((@bu _ _ _ _ _ _ _ (¬8) (¬1))∘(ae∘((@bu _ _ _ _ _ _ _ (¬7) (¬1))∘((@bu _ _ _ _ _ _ _ (¬8) (¬1))∘((@bu _ _ _ _ _ _ _ (¬8) ae)∘((@bu _ _ _ _ _ _ _ (¬8) (¬1))∘ab))))))) (¬3) ↥4) ∅ (by trivial)) (@ag _ _ _ _ _ _ _ _ (@aE _ _ _ _ _ 10 _ _ nd rfl ↥3 (@bu _ _ _ _ _ _ _ (@bV _ _ _ _ _ _ _ rfl (@bV _ _ _ _ _ _ _ rfl (¬9) ae) (@bu _ _ _ _ _ _ _ (@ku _ _ _ _ _ _ _ (¬8) ae) (@z9 _ _ _ _ _ _ _ (¬1) ae))) (¬1)) ∅ (by trivial)) (@ag _ _ _ _ _ _ _ _ (@df _ _ _ _ _ _ _ _ _ _ _ (@a9 _ _ _ _ _ _ _ _ _ (@qs _ _ _ rfl hr) (¬3) ae (aP _)) (@aj _ _ _ _ _ (@jF _ _ _ _ _ _ _ _ (@aU _ _ _ _ _ _ (ae∘(ae∘ab))) (@ce _ _ _ _ _ _ _ _ rfl rfl (@au _ _ _ _ _ _ _ _ (@aq _ _ _ 9 _ nd rfl ↥3 (by trivial)) (@au _ _ _ _ _ _ _ _ (@aq _ _ _ 10 _ nd rfl ↥3 (by trivial)) (@bB _ _) ∅) ∅) (aB (aB b_)) ∅ ∅) ∅ ∅ ∅)) (@bv _ _)) (@ag _ _ _ _ _ _ _ _ (@aE _ _ _ _ _ 11 _ _ nd rfl ↥3 (@aG _ _ _ _ _ _ _ _ _ _ _ _ _ _ _ Pe Pf (hr.mono ⋯) ((¬0)∘ab) ∅ ⋯ ∅ ∅) ∅ (by trivial)) (@ag _ _ _ _ _ _ _ _ (@aE _ _ _ _ _ 12 _ _ nd rfl ↥3 (@aU _ _ _ _ _ _ ((@aZ _ _ _ _ _ _ _ _ _ (@b_min _ _ rfl) ∅ T.b_min ((¬9)∘((¬10)∘ab)) ⋯ ⋯ ∅ ∅)∘((@aZ _ _ _ _ _ _ _ _ _ (@b_max _ _ rfl) ∅ T.b_max ((¬9)∘((¬10)∘ab)) ⋯ ⋯ ∅ ∅)∘ab))) ∅ (by trivial)) (@aj _ _ _ _ _ (@ee _ _ _ _ _ (@eI _ _ _ _ _ _ _ _ _ rfl (¬6) ((@bV _ _ _ _ _ _ _ rfl (¬12) (@aU _ _ _ _ _ _ ((@aG _ _ _ _ _ _ _ _ _ _ _ _ _ _ _ P4 QE (hr.mono ⋯) ((¬11)∘((¬4)∘ab)) ∅ ⋯ ∅ ∅)∘((@aG _ _ _ _ _ _ _ _ _ _ _ _ _ _ _ QF Sl (hr.mono ⋯) ((@ku _ _ _ _ _ _ _ (¬11) ae)∘((¬5)∘ab)) ∅ ⋯ ∅ ∅)∘ab))))∘ab) ∅ ∅ ∅ ∅ ∅) ∅)))))))) ↥5) (@aj _ _ _ _ _ (@az _ _ _ _ _ (@aZ _ _ _ _ _ _ _ _ _ (@b_tuple _ _ rfl) ∅ T.b_tuple ((¬6)∘ab) ⋯ ⋯ ∅ ∅)))))))))
def xU:FI:=(eS (aa (ac 3) ah))
def sN:FS:=(dr (cS bG (ac 7) (aa (ay bF (dq (aa (vC (.int 20)) (aa (ay cy (vC (.int 1)) (ay bx (bA 1 bo (aa (ac 0) ah)) (vC (.int 3)))) (aa (ay bx (bA 1 bo (aa (ac 0) ah)) (vC (.int 21))) ah)))) (ac 6)) ah)))
def JD:FS:=(aC (a8 3 (ay bx (bA 1 bo (aa (ac 0) ah)) (ay cy (ac 1) (vC (.int 1))))) (aC (a8 4 (ay cL (ay bx (bA 1 bo (aa (ac 0) ah)) (ay cy (ac 2) (vC (.int 1)))) (aL (g1 qC) (aa (ay Ht (ac 3) (vC (.int 1))) ah)))) (aC (a8 5 (bA 3 oE (aa (ac 0) (aa (aL (g2 C0) (aa (vC (.int 2)) (aa (ac 3) ah))) (aa (ac 4) ah))))) (aC (a8 6 (ay bx (bA 1 bo (aa (ac 0) ah)) (vC (.int 3)))) (aC (a8 7 (dq ah)) (aC (cH ([8]++[]) xU (af 8) sN) (aC (a8 9 (ay bF (dq (aa (vC (.int 40)) (aa (ay cy (vC (.int 1)) (ay bx (bA 1 bo (aa (ac 0) ah)) (aL (g2 C0) (aa (vC (.int 1)) (aa (ac 4) ah))))) (aa (ay bx (bA 1 bo (aa (ac 0) ah)) (vC (.int 41))) ah)))) (ay bx (bA 1 bo (aa (ac 0) ah)) (vC (.int 3))))) (a_ (bH (aa (ac 3) (aa (ac 5) (aa (aL (g1 cz) (aa (ac 7) ah)) (aa (ac 9) ah)))))))))))))
def zK:FM:=et 3 7 ([3]++([4]++([5]++([6]++([7]++(([8]++[])++([9]++[]))))))) JD
theorem Gr:av ["_law_drawn","_law_most","_law_ties_here","_law_things","_law_many","_law_rows","_law_way","_law_patience","_law_k","_law_asks"] ["_law_drawn","_law_most","_law_ties_here"] (ao Af):=⟨rfl,rfl,rfl,by decide+kernel,rfl,by decide+kernel,by decide+kernel⟩
theorem K6(h:eN K mg "_law_web" Af f fd ["_law_drawn","_law_most","_law_ties_here"])(T:gS mg)(zLties:Cl P w K mg base "_law_ties" qV ["_law_drawn","_law_things","_law_many"] 4 3 oE)(zLnext:Cl P w K mg base "_law_next" jJ ["_law_drawn"] 1 1 bo):bh P w K mg base el 5 f fd ["_law_drawn","_law_most","_law_ties_here"] (eu K 3 zK):=by obtain⟨SG,SH,Qs,Rh⟩:=zLties;obtain⟨Qq,Qr,Pe,Pf⟩:=zLnext;have nd:=Gr.nd;exact h.fn Gr rfl rfl (λcdv A outer s H E hr=>(@ag _ _ _ _ _ _ _ _ (@aE _ _ _ _ _ 3 _ _ nd rfl ↥3 (@bu _ _ _ _ _ _ _ (@aG _ _ _ _ _ _ _ _ _ _ _ _ _ _ _ Pe Pf (hr.mono ⋯) ((¬0)∘ab) ∅ ⋯ ∅ ∅) (@bV _ _ _ _ _ _ _ rfl (¬1) ae)) ∅ (by trivial)) (@ag _ _ _ _ _ _ _ _ (@aE _ _ _ _ _ 4 _ _ nd rfl ↥3 (@gH _ _ _ _ _ _ _ rfl (@bu _ _ _ _ _ _ _ (@aG _ _ _ _ _ _ _ _ _ _ _ _ _ _ _ Pe Pf (hr.mono ⋯) ((¬0)∘ab) ∅ ⋯ ∅ ∅) (@bV _ _ _ _ _ _ _ rfl (¬2) ae)) (@aZ _ _ _ _ _ _ _ _ _ (@b_int _ _) ∅ T.b_int ((@pU _ _ _ _ _ _ _ _ _ (@CM _ _) (¬3) ae (aP _))∘ab) ⋯ ⋯ ∅ ∅)) ∅ (by trivial)) (@ag _ _ _ _ _ _ _ _ (@aE _ _ _ _ _ 5 _ _ nd rfl ↥3 (@aG _ _ _ _ _ _ _ _ _ _ _ _ _ _ _ Qs Rh (hr.mono ⋯) ((¬0)∘((@aZ _ _ _ _ _ _ _ _ _ (@b_max _ _ rfl) ∅ T.b_max (ae∘((¬3)∘ab)) ⋯ ⋯ ∅ ∅)∘((¬4)∘ab))) ∅ ⋯ ∅ ∅) ∅ (by trivial)) (@ag _ _ _ _ _ _ _ _ (@aE _ _ _ _ _ 6 _ _ nd rfl ↥3 (@bu _ _ _ _ _ _ _ (@aG _ _ _ _ _ _ _ _ _ _ _ _ _ _ _ Pe Pf (hr.mono ⋯) ((¬0)∘ab) ∅ ⋯ ∅ ∅) ae) ∅ (by trivial)) (@ag _ _ _ _ _ _ _ _ (@aE _ _ _ _ _ 7 _ _ nd rfl ↥3 (@bS _ _ _ _ _ ab) ∅ (by trivial)) (@ag _ _ _ _ _ _ _ _ (@cZ _ _ _ _ _ _ _ _ _ _ _ UL rfl (@fL _ _ _ _ _ _ _ rfl T.b_range ((¬3)∘ab) ∅) (@aq _ _ _ 8 _ nd rfl ↥3 (by trivial)) (@aj _ _ _ _ _ (@ee _ _ _ _ _ (@eI _ _ _ _ _ _ _ _ _ rfl (¬7) ((@aR _ _ _ _ _ _ _ rfl (@bS _ _ _ _ _ (ae∘((@bV _ _ _ _ _ _ _ rfl ae (@bu _ _ _ _ _ _ _ (@aG _ _ _ _ _ _ _ _ _ _ _ _ _ _ _ Pe Pf (hr.mono ⋯) ((¬0)∘ab) ∅ ⋯ ∅ ∅) ae))∘((@bu _ _ _ _ _ _ _ (@aG _ _ _ _ _ _ _ _ _ _ _ _ _ _ _ Pe Pf (hr.mono ⋯) ((¬0)∘ab) ∅ ⋯ ∅ ∅) ae)∘ab)))) (¬6) ↥4)∘ab) ∅ ∅ ∅ ∅ ∅) ∅)) ↥5) (@ag _ _ _ _ _ _ _ _ (@aE _ _ _ _ _ 9 _ _ nd rfl ↥3 (@aR _ _ _ _ _ _ _ rfl (@bS _ _ _ _ _ (ae∘((@bV _ _ _ _ _ _ _ rfl ae (@bu _ _ _ _ _ _ _ (@aG _ _ _ _ _ _ _ _ _ _ _ _ _ _ _ Pe Pf (hr.mono ⋯) ((¬0)∘ab) ∅ ⋯ ∅ ∅) (@aZ _ _ _ _ _ _ _ _ _ (@b_max _ _ rfl) ∅ T.b_max (ae∘((¬4)∘ab)) ⋯ ⋯ ∅ ∅)))∘((@bu _ _ _ _ _ _ _ (@aG _ _ _ _ _ _ _ _ _ _ _ _ _ _ _ Pe Pf (hr.mono ⋯) ((¬0)∘ab) ∅ ⋯ ∅ ∅) ae)∘ab)))) (@bu _ _ _ _ _ _ _ (@aG _ _ _ _ _ _ _ _ _ _ _ _ _ _ _ Pe Pf (hr.mono ⋯) ((¬0)∘ab) ∅ ⋯ ∅ ∅) ae) ↥4) ∅ (by trivial)) (@aj _ _ _ _ _ (@az _ _ _ _ _ (@aU _ _ _ _ _ _ ((¬3)∘((¬5)∘((@aZ _ _ _ _ _ _ _ _ _ (@b_tuple _ _ rfl) ∅ T.b_tuple ((¬7)∘ab) ⋯ ⋯ ∅ ∅)∘((¬9)∘ab)))))))))))))))
def rX:FI:=(eE (ac 1))
def iu:FT:=(aI (ay (Hu false) (ac 0) (xo (ay bF (ay bF (ac 1) (vC (.int 1))) (ac 2)) g_ (gG (vC (.int 2))))))
def iy:FE:=(ac 2)
def v_:FS:=(a_ (aL (g1 gU) (aa (bD [(2,"_law_thing"),(0,"_law_web_here")] 1 rX (af 2) iu iy) ah)))
def jm:FM:=et 3 0 [] v_
theorem uM:av ["_law_web_here","_law_asked","_law_thing"] ["_law_web_here","_law_asked","_law_thing"] (ao lc):=⟨rfl,rfl,rfl,by decide+kernel,rfl,by decide+kernel,by decide+kernel⟩
theorem Bg(h:eN K mg "_law_asks_of" lc f fd ["_law_web_here","_law_asked","_law_thing"])(T:gS mg):bh P w K mg base el 1 f fd ["_law_web_here","_law_asked","_law_thing"] (eu K 3 jm):=by have nd:=uM.nd;exact h.fn uM rfl rfl (λcdv A outer s H E hr=>(@aj _ _ _ _ _ (@az _ _ _ _ _ (@aZ _ _ _ _ _ _ _ _ _ (@b_len _ _ rfl) ∅ T.b_len ((@cY _ _ _ _ _ _ _ _ _ _ _ _ _ [(2,"_law_thing"),(0,"_law_web_here")] ["_law_tie"] rfl rfl (@cf _ _ _ _ _ rfl (¬1)) (λC s0 H0 fp=>(@aq _ _ _ 2 _ (show UB (["_law_thing","_law_web_here","_law_tie"]:List Str) by decide+kernel) rfl ↥3 (by trivial))) (λC s0 H0 fp=>(@ng _ _ _ _ (@a9 _ _ _ _ _ _ _ _ _ (@Ko _ _ _ rfl hr) (¬0) (@jd _ _ _ _ _ _ _ _ _ _ rfl (@aR _ _ _ _ _ _ _ rfl (@aR _ _ _ _ _ _ _ rfl (¬1) ae ↥4) (¬2) ↥4) (@je _ _) (@jf _ _ _ _ ae)) (by with_unfolding_all rfl)))) (λC s0 H0 fp=>(¬2)) rfl ∅ ↥5)∘ab) ⋯ ⋯ ∅ ∅))))
def B2:FI:=(eE (xo (ay bF (ay bF (ac 0) (vC (.int 1))) (ac 2)) g_ (gG (vC (.int 2)))))
def lw:FS:=(kD (yS (aI (ay (Hu false) (ac 5) (ac 4))) (aI (ay G7 (bA 3 jm (aa (ac 0) (aa (ac 3) (aa (ac 5) ah)))) (ay bF (ay bF (ac 0) (vC (.int 2))) (ac 5))))) (a_ (vC (.bool false))) dm)
def wa:FS:=(aC (ky (ac 1) (aO (am (af 3) (am (af 4) aN)))) (aC (kD (yS (aI (ay (Hu false) (ac 2) (ac 3))) (aI (ay G7 (aL (g1 gU) (aa (ac 3) ah)) (ay bF (ac 0) (vC (.int 3)))))) (a_ (vC (.bool false))) dm) (aC (cH ([5]++([]++[])) B2 (af 5) lw) (a_ (vC (.bool true))))))
def pK:FM:=et 3 3 (([3]++([4]++[]))++(([]++[])++(([5]++([]++[]))++[]))) wa
theorem Gp:av ["_law_web_here","_law_stand","_law_tie","_law_asked","_law_taken","_law_thing"] ["_law_web_here","_law_stand","_law_tie"] (ao Ad):=⟨rfl,rfl,rfl,by decide+kernel,rfl,by decide+kernel,by decide+kernel⟩
theorem K4(h:eN K mg "_law_may" Ad f fd ["_law_web_here","_law_stand","_law_tie"])(T:gS mg)(zLasks_of:Cl P w K mg base "_law_asks_of" lc ["_law_web_here","_law_asked","_law_thing"] 1 3 jm):bh P w K mg base el 2 f fd ["_law_web_here","_law_stand","_law_tie"] (eu K 3 pK):=by obtain⟨SJ,SK,P_,Rj⟩:=zLasks_of;have nd:=Gp.nd;exact h.fn Gp rfl rfl (λcdv A outer s H E hr=>(@ag _ _ _ _ _ _ _ _ (@jF _ _ _ _ _ _ _ _ (¬1) (@ce _ _ _ _ _ _ _ _ rfl rfl (@au _ _ _ _ _ _ _ _ (@aq _ _ _ 3 _ nd rfl ↥3 (by trivial)) (@au _ _ _ _ _ _ _ _ (@aq _ _ _ 4 _ nd rfl ↥3 (by trivial)) (@bB _ _) ∅) ∅) (aB (aB b_)) ∅ ∅) ∅ ∅ ∅) (@ag _ _ _ _ _ _ _ _ (@df _ _ _ _ _ _ _ _ _ _ _ (@vM _ _ _ _ (@uA _ _ _ _ _ _ _ _ (@a9 _ _ _ _ _ _ _ _ _ (@Ko _ _ _ rfl hr) (¬2) (¬3) (by with_unfolding_all rfl)) (@qP _ _ _ _ _ (@a9 _ _ _ _ _ _ _ _ _ (@CL _ _) (@aZ _ _ _ _ _ _ _ _ _ (@b_len _ _ rfl) ∅ T.b_len ((¬3)∘ab) ⋯ ⋯ ∅ ∅) (@aR _ _ _ _ _ _ _ rfl (¬0) ae ↥4) (aP _))))) (@aj _ _ _ _ _ (@az _ _ _ _ _ (@dQ _ _ _ _ _))) (@bv _ _)) (@ag _ _ _ _ _ _ _ _ (@cZ _ _ _ _ _ _ _ _ _ _ _ UL rfl (@cf _ _ _ _ _ rfl (@jd _ _ _ _ _ _ _ _ _ _ rfl (@aR _ _ _ _ _ _ _ rfl (@aR _ _ _ _ _ _ _ rfl (¬0) ae ↥4) (¬2) ↥4) (@je _ _) (@jf _ _ _ _ ae))) (@aq _ _ _ 5 _ nd rfl ↥3 (by trivial)) (@aj _ _ _ _ _ (@df _ _ _ _ _ _ _ _ _ _ _ (@vM _ _ _ _ (@uA _ _ _ _ _ _ _ _ (@a9 _ _ _ _ _ _ _ _ _ (@Ko _ _ _ rfl hr) (¬5) (¬4) (by with_unfolding_all rfl)) (@qP _ _ _ _ _ (@a9 _ _ _ _ _ _ _ _ _ (@CL _ _) (@aG _ _ _ _ _ _ _ _ _ _ _ _ _ _ _ P_ Rj (hr.mono ⋯) ((¬0)∘((¬3)∘((¬5)∘ab))) ∅ ⋯ ∅ ∅) (@aR _ _ _ _ _ _ _ rfl (@aR _ _ _ _ _ _ _ rfl (¬0) ae ↥4) (¬5) ↥4) (aP _))))) (@aj _ _ _ _ _ (@az _ _ _ _ _ (@dQ _ _ _ _ _))) (@bv _ _))) ↥5) (@aj _ _ _ _ _ (@az _ _ _ _ _ (@dQ _ _ _ _ _)))))))
def tL:FS:=(aC (ky (ac 1) (aO (am (af 4) (am (af 5) aN)))) (aC (a8 6 (ac 5)) (aC (kD (aI (ac 3)) (a8 6 (aL (g1 cz) (aa (aL (g1 lE) (aa (ay cy (ac 5) (xo (ay bF (ay bF (ac 0) (vC (.int 1))) (ac 2)) g_ (gG (vC (.int 2))))) ah)) ah))) dm) (a_ (bH (aa (aL (g1 cz) (aa (aL (g1 lE) (aa (ay cy (ac 4) (bH (aa (ac 2) ah))) ah)) ah)) (aa (ac 6) ah)))))))
def iH:FM:=et 4 3 (([4]++([5]++[]))++([6]++(([6]++[])++[]))) tL
theorem w_:av ["_law_web_here","_law_stand","_law_tie","_law_truth","_law_asked","_law_taken","_law_more"] ["_law_web_here","_law_stand","_law_tie","_law_truth"] (ao mN):=⟨rfl,rfl,rfl,by decide+kernel,rfl,by decide+kernel,by decide+kernel⟩
theorem Dg(h:eN K mg "_law_behind" mN f fd ["_law_web_here","_law_stand","_law_tie","_law_truth"])(T:gS mg):bh P w K mg base el 1 f fd ["_law_web_here","_law_stand","_law_tie","_law_truth"] (eu K 4 iH):=by have nd:=w_.nd;exact h.fn w_ rfl rfl (λcdv A outer s H E hr=>(@ag _ _ _ _ _ _ _ _ (@jF _ _ _ _ _ _ _ _ (¬1) (@ce _ _ _ _ _ _ _ _ rfl rfl (@au _ _ _ _ _ _ _ _ (@aq _ _ _ 4 _ nd rfl ↥3 (by trivial)) (@au _ _ _ _ _ _ _ _ (@aq _ _ _ 5 _ nd rfl ↥3 (by trivial)) (@bB _ _) ∅) ∅) (aB (aB b_)) ∅ ∅) ∅ ∅ ∅) (@ag _ _ _ _ _ _ _ _ (@aE _ _ _ _ _ 6 _ _ nd rfl ↥3 (¬5) ∅ (by trivial)) (@ag _ _ _ _ _ _ _ _ (@df _ _ _ _ _ _ _ _ _ _ _ (@gJ _ _ _ _ (¬3) ↥5) (@aj _ _ _ _ _ (@aE _ _ _ _ _ 6 _ _ nd rfl ↥3 (@aZ _ _ _ _ _ _ _ _ _ (@b_tuple _ _ rfl) ∅ T.b_tuple ((@aZ _ _ _ _ _ _ _ _ _ (@b_sorted _ _ rfl) ∅ T.b_sorted ((@bV _ _ _ _ _ _ _ rfl (¬5) (@jd _ _ _ _ _ _ _ _ _ _ rfl (@aR _ _ _ _ _ _ _ rfl (@aR _ _ _ _ _ _ _ rfl (¬0) ae ↥4) (¬2) ↥4) (@je _ _) (@jf _ _ _ _ ae)))∘ab) ⋯ ⋯ ∅ ∅)∘ab) ⋯ ⋯ ∅ ∅) ∅ (by trivial))) (@bv _ _)) (@aj _ _ _ _ _ (@az _ _ _ _ _ (@aU _ _ _ _ _ _ ((@aZ _ _ _ _ _ _ _ _ _ (@b_tuple _ _ rfl) ∅ T.b_tuple ((@aZ _ _ _ _ _ _ _ _ _ (@b_sorted _ _ rfl) ∅ T.b_sorted ((@bV _ _ _ _ _ _ _ rfl (¬4) (@aU _ _ _ _ _ _ ((¬2)∘ab)))∘ab) ⋯ ⋯ ∅ ∅)∘ab) ⋯ ⋯ ∅ ∅)∘((¬6)∘ab)))))))))
def mz:FI:=(eS (aa (aL (g1 gU) (aa (ay bF (ac 0) (vC (.int 1))) ah)) ah))
def ir:FT:=(aI (bA 3 pK (aa (ac 0) (aa (ac 1) (aa (ac 2) ah)))))
def iw:FE:=(ac 2)
def vZ:FS:=(a_ (bD [(0,"_law_web_here"),(1,"_law_stand")] 1 mz (af 2) ir iw))
def kZ:FM:=et 2 0 [] vZ
theorem uL:av ["_law_web_here","_law_stand"] ["_law_web_here","_law_stand"] (ao lb):=⟨rfl,rfl,rfl,by decide+kernel,rfl,by decide+kernel,by decide+kernel⟩
theorem Bf(h:eN K mg "_law_askable" lb f fd ["_law_web_here","_law_stand"])(T:gS mg)(zLmay:Cl P w K mg base "_law_may" Ad ["_law_web_here","_law_stand","_law_tie"] 2 3 pK):bh P w K mg base el 3 f fd ["_law_web_here","_law_stand"] (eu K 2 kZ):=by obtain⟨Ts,Tt,RF,S7⟩:=zLmay;have nd:=uL.nd;exact h.fn uL rfl rfl (λcdv A outer s H E hr=>(@aj _ _ _ _ _ (@az _ _ _ _ _ (@cY _ _ _ _ _ _ _ _ _ _ _ _ _ [(0,"_law_web_here"),(1,"_law_stand")] ["_law_tie"] rfl rfl (@fL _ _ _ _ _ _ _ rfl T.b_range ((@aZ _ _ _ _ _ _ _ _ _ (@b_len _ _ rfl) ∅ T.b_len ((@aR _ _ _ _ _ _ _ rfl (¬0) ae ↥4)∘ab) ⋯ ⋯ ∅ ∅)∘ab) ∅) (λC s0 H0 fp=>(@aq _ _ _ 2 _ (show UB (["_law_web_here","_law_stand","_law_tie"]:List Str) by decide+kernel) rfl ↥3 (by trivial))) (λC s0 H0 fp=>(@ng _ _ _ _ (@gJ _ _ _ _ (@aG _ _ _ _ _ _ _ _ _ _ _ _ _ _ _ RF S7 (hr.mono ⋯) ((¬0)∘((¬1)∘((¬2)∘ab))) ∅ ⋯ ∅ ∅) ↥5))) (λC s0 H0 fp=>(¬2)) rfl ∅ ↥5))))
def wJ:FI:=(EI 3)
def m6:FE:=(aL (g1 cz) (aa (ac 0) ah))
def kS:FT:=(aI (ay (bR true) (ac 4) (dq ah)))
def kM:FS:=(aC (ky (cS gB (ac 4) (aa (vC (.int 0)) ah)) (aO (am (af 5) (am (af 6) (am (af 7) aN))))) (aC (a8 8 (bA 2 kZ (aa (ac 1) (aa (ac 5) ah)))) (aC (a8 9 (bA 1 bo (aa (ac 0) ah))) (kD (l7 (aI (ay (bR true) (ac 8) (dq ah))) (l7 (aI (ay DT (i7 3) (ac 2))) (yS (aI (ay (bR true) (ay bx (ac 9) (vC (.int 7))) (vC (.int 6)))) (aI (ay DT (ac 6) (vC (.int 0))))))) (aC (a8 10 (ay bF (ac 8) (ay bx (ay gY (ac 9) (vC (.int 7))) (aL (g1 gU) (aa (ac 8) ah))))) (aC (kD (aI (ay G7 (ac 6) (vC (.int 0)))) (wZ 3 (i7 3) (ac 6) (Dc (nC 1) (Dd 7))) dm) (aC (dr (cS bG (ac 4) (aa (bH (aa (bA 4 iH (aa (ac 1) (aa (ac 5) (aa (ac 10) (aa (vC (.bool true)) ah))))) (aa (i7 3) (aa (vC (.int 0)) ah)))) ah))) (aC (dr (cS bG (ac 4) (aa (bH (aa (bA 4 iH (aa (ac 1) (aa (ac 5) (aa (ac 10) (aa (vC (.bool false)) ah))))) (aa (i7 3) (aa (vC (.int 1)) ah)))) ah))) (dr (AB 3 (dq (aa (ac 10) (aa (si qE (vC (.int 1))) (aa (si qE (vC (.int 1))) ah)))))))))) dm))))
def BL:FS:=(aC (Gk 3) (aC (a8 4 (dq (aa (bH (aa (bH (aa (bH ah) (aa (bH ah) ah))) (aa (si qE (vC (.int 1))) (aa (vC (.int 0)) ah)))) ah))) (aC (eZ (2^4200) kS kM) (a_ (aL (g1 cz) (aa (bD [] 1 wJ (af 0) aX m6) ah))))))
def pJ:FM:=et 3 8 ([3]++([4]++((([5]++([6]++([7]++[])))++([8]++([9]++(([10]++(([]++[])++([]++([]++[]))))++[]))))++[]))) BL
theorem Ah:av ["_law_drawn","_law_web_here","_law_most","_law_nodes","_law_waiting","_law_stand","_law_parent","_law_side","_law_some","_law_number","_law_tie"] ["_law_drawn","_law_web_here","_law_most"] (ao pZ):=⟨rfl,rfl,rfl,by decide+kernel,rfl,by decide+kernel,by decide+kernel⟩
theorem Fd(h:eN K mg "_law_grown" pZ f fd ["_law_drawn","_law_web_here","_law_most"])(T:gS mg)(zLaskable:Cl P w K mg base "_law_askable" lb ["_law_web_here","_law_stand"] 3 2 kZ)(zLnext:Cl P w K mg base "_law_next" jJ ["_law_drawn"] 1 1 bo)(zLbehind:Cl P w K mg base "_law_behind" mN ["_law_web_here","_law_stand","_law_tie","_law_truth"] 1 4 iH):bh P w K mg base el 4 f fd ["_law_drawn","_law_web_here","_law_most"] (eu K 3 pJ):=by obtain⟨SL,SM,P',Rk⟩:=zLaskable;obtain⟨Qq,Qr,Pe,Pf⟩:=zLnext;obtain⟨SW,SX,Qa,Q0⟩:=zLbehind;have nd:=Ah.nd;exact h.fn Ah rfl rfl (λcdv A outer s H E hr=>(@ag _ _ _ _ _ _ _ _ (@IR _ _ _ _ _ _ 3 nd rfl ↥3 ∅ (by trivial)) (@ag _ _ _ _ _ _ _ _ (@aE _ _ _ _ _ 4 _ _ nd rfl ↥3 (@bS _ _ _ _ _ ((@aU _ _ _ _ _ _ ((@aU _ _ _ _ _ _ ((@aU _ _ _ _ _ _ ab)∘((@aU _ _ _ _ _ _ ab)∘ab)))∘((@rZ _ _ _ _ _ ae)∘(ae∘ab))))∘ab)) ∅ (by trivial)) (@ag _ _ _ _ _ _ _ _ (@jG _ _ _ _ _ _ _ _ _ UL (@a9 _ _ _ _ _ _ _ _ _ (@qt _ _ _ rfl hr) (¬4) (@bS _ _ _ _ _ ab) (aP _)) (@ag _ _ _ _ _ _ _ _ (@jF _ _ _ _ _ _ _ _ (@yy _ _ _ _ _ _ _ _ _ rfl (¬4) (ae∘ab) ∅ ∅ ∅ ∅ ∅) (@ce _ _ _ _ _ _ _ _ rfl rfl (@au _ _ _ _ _ _ _ _ (@aq _ _ _ 5 _ nd rfl ↥3 (by trivial)) (@au _ _ _ _ _ _ _ _ (@aq _ _ _ 6 _ nd rfl ↥3 (by trivial)) (@au _ _ _ _ _ _ _ _ (@aq _ _ _ 7 _ nd rfl ↥3 (by trivial)) (@bB _ _) ∅) ∅) ∅) (aB (aB (aB b_))) ∅ ∅) ∅ ∅ ∅) (@ag _ _ _ _ _ _ _ _ (@aE _ _ _ _ _ 8 _ _ nd rfl ↥3 (@aG _ _ _ _ _ _ _ _ _ _ _ _ _ _ _ P' Rk (hr.mono ⋯) ((¬1)∘((¬5)∘ab)) ∅ ⋯ ∅ ∅) ∅ (by trivial)) (@ag _ _ _ _ _ _ _ _ (@aE _ _ _ _ _ 9 _ _ nd rfl ↥3 (@aG _ _ _ _ _ _ _ _ _ _ _ _ _ _ _ Pe Pf (hr.mono ⋯) ((¬0)∘ab) ∅ ⋯ ∅ ∅) ∅ (by trivial)) (@aj _ _ _ _ _ (@df _ _ _ _ _ _ _ _ _ _ _ (@vM _ _ _ _ (@uw _ _ _ _ _ _ _ _ (@a9 _ _ _ _ _ _ _ _ _ (@qt _ _ _ rfl hr) (¬8) (@bS _ _ _ _ _ ab) (aP _)) (@uw _ _ _ _ _ _ _ _ (@a9 _ _ _ _ _ _ _ _ _ (@CN _ _) (@yx _ _ _ _ _ _ 3 rfl ∅ (by first|exact Or.inl rfl|exact UI ↥3|exact UI (UI rfl)) ⋯ ⋯ ∅ T.b_len ∅ ∅ ∅) (¬2) (aP _)) (@sX _ _ _ _ _ (@vM _ _ _ _ (@uA _ _ _ _ _ _ _ _ (@a9 _ _ _ _ _ _ _ _ _ (@qt _ _ _ rfl hr) (@bu _ _ _ _ _ _ _ (¬9) ae) ae (aP _)) (@qP _ _ _ _ _ (@a9 _ _ _ _ _ _ _ _ _ (@CN _ _) (¬6) ae (aP _))))))))) (@ag _ _ _ _ _ _ _ _ (@aE _ _ _ _ _ 10 _ _ nd rfl ↥3 (@aR _ _ _ _ _ _ _ rfl (¬8) (@bu _ _ _ _ _ _ _ (@ku _ _ _ _ _ _ _ (¬9) ae) (@aZ _ _ _ _ _ _ _ _ _ (@b_len _ _ rfl) ∅ T.b_len ((¬8)∘ab) ⋯ ⋯ ∅ ∅)) ↥4) ∅ (by trivial)) (@ag _ _ _ _ _ _ _ _ (@df _ _ _ _ _ _ _ _ _ _ _ (@a9 _ _ _ _ _ _ _ _ _ (@CL _ _) (¬6) ae (aP _)) (@aj _ _ _ _ _ (@IS _ _ _ _ _ _ 3 _ _ _ _ _ _ _ rfl (@yx _ _ _ _ _ _ 3 rfl ∅ (by first|exact Or.inl rfl|exact UI ↥3|exact UI (UI rfl)) ⋯ ⋯ ∅ T.b_len ∅ ∅ ∅) ∅ (by first|exact Or.inl rfl|exact UI ↥3|exact UI (UI rfl)) ⋯ ⋯ (¬6) ↥4 (@Ly _ _ _ _ _ _ _ (@Lz _ _ _ _ _) (@LA _ _ _ _ 7 ∅ (by first|exact Or.inl rfl|exact UI ↥3|exact UI (UI rfl)) ⋯ ⋯)) ↥5 ∅ ∅ ∅)) (@bv _ _)) (@ag _ _ _ _ _ _ _ _ (@ee _ _ _ _ _ (@eI _ _ _ _ _ _ _ _ _ rfl (¬4) ((@aU _ _ _ _ _ _ ((@aG _ _ _ _ _ _ _ _ _ _ _ _ _ _ _ Qa Q0 (hr.mono ⋯) ((¬1)∘((¬5)∘((¬10)∘((@dQ _ _ _ _ _)∘ab)))) ∅ ⋯ ∅ ∅)∘((@yx _ _ _ _ _ _ 3 rfl ∅ (by first|exact Or.inl rfl|exact UI ↥3|exact UI (UI rfl)) ⋯ ⋯ ∅ T.b_len ∅ ∅ ∅)∘(ae∘ab))))∘ab) ∅ ∅ ∅ ∅ ∅) ∅) (@ag _ _ _ _ _ _ _ _ (@ee _ _ _ _ _ (@eI _ _ _ _ _ _ _ _ _ rfl (¬4) ((@aU _ _ _ _ _ _ ((@aG _ _ _ _ _ _ _ _ _ _ _ _ _ _ _ Qa Q0 (hr.mono ⋯) ((¬1)∘((¬5)∘((¬10)∘((@dQ _ _ _ _ _)∘ab)))) ∅ ⋯ ∅ ∅)∘((@yx _ _ _ _ _ _ 3 rfl ∅ (by first|exact Or.inl rfl|exact UI ↥3|exact UI (UI rfl)) ⋯ ⋯ ∅ T.b_len ∅ ∅ ∅)∘(ae∘ab))))∘ab) ∅ ∅ ∅ ∅ ∅) ∅) (@aj _ _ _ _ _ (@ee _ _ _ _ _ (@Lv _ _ _ _ _ _ 3 _ _ rfl ∅ (by first|exact Or.inl rfl|exact UI ↥3|exact UI (UI rfl)) ⋯ ⋯ (@bS _ _ _ _ _ ((¬10)∘((@rZ _ _ _ _ _ ae)∘((@rZ _ _ _ _ _ ae)∘ab)))) ∅ ∅ ∅ ∅ ∅ ∅) ∅)))))) (@bv _ _))))))) (@aj _ _ _ _ _ (@az _ _ _ _ _ (@aZ _ _ _ _ _ _ _ _ _ (@b_tuple _ _ rfl) ∅ T.b_tuple ((@cY _ _ _ _ _ _ _ _ _ _ _ _ _ [] ["_law_node"] rfl rfl (@IM _ _ _ _ 3 _ rfl ∅ (by first|exact Or.inl rfl|exact UI ↥3|exact UI (UI rfl)) ⋯ ⋯) (λC s0 H0 fp=>(@aq _ _ _ 0 _ (show UB (["_law_node"]:List Str) by decide+kernel) rfl ↥3 (by trivial))) (λC s0 H0 fp=>(@cG _ _)) (λC s0 H0 fp=>(@aZ _ _ _ _ _ _ _ _ _ (@b_tuple _ _ rfl) ∅ T.b_tuple ((¬0)∘ab) ⋯ ⋯ ∅ ∅)) rfl ∅ ↥5)∘ab) ⋯ ⋯ ∅ ∅)))))))
def lT:FI:=(eE (ac 1))
def eO:FE:=(ay cy (ac 0) (bH (aa (vC (.bool true)) ah)))
def lU:FI:=(eE (ac 1))
def eP:FE:=(ay cy (ac 0) (bH (aa (vC (.bool false)) ah)))
def iY:FI:=(eS (aa (ac 0) ah))
def c_:FS:=(a8 1 (ay cy (bD [] 1 lT (af 0) aX eO) (bD [] 1 lU (af 0) aX eP)))
def nD:FS:=(aC (a8 1 (dq (aa (bH ah) ah))) (aC (cH ([2]++[1]) iY (af 2) c_) (a_ (ac 1))))
def eF:FM:=et 1 2 ([1]++(([2]++[1])++[])) nD
theorem mO:av ["_law_many","_law_rows","_law_k"] ["_law_many"] (ao eJ):=⟨rfl,rfl,rfl,by decide+kernel,rfl,by decide+kernel,by decide+kernel⟩
theorem ul(h:eN K mg "_law_all_answers" eJ f fd ["_law_many"])(T:gS mg):bh P w K mg base el 1 f fd ["_law_many"] (eu K 1 eF):=by have nd:=mO.nd;exact h.fn mO rfl rfl (λcdv A outer s H E hr=>(@ag _ _ _ _ _ _ _ _ (@aE _ _ _ _ _ 1 _ _ nd rfl ↥3 (@bS _ _ _ _ _ ((@aU _ _ _ _ _ _ ab)∘ab)) ∅ (by trivial)) (@ag _ _ _ _ _ _ _ _ (@cZ _ _ _ _ _ _ _ _ _ _ _ UL rfl (@fL _ _ _ _ _ _ _ rfl T.b_range ((¬0)∘ab) ∅) (@aq _ _ _ 2 _ nd rfl ↥3 (by trivial)) (@aj _ _ _ _ _ (@aE _ _ _ _ _ 1 _ _ nd rfl ↥3 (@bV _ _ _ _ _ _ _ rfl (@cY _ _ _ _ _ _ _ _ _ _ _ _ _ [] ["_law_row"] rfl rfl (@cf _ _ _ _ _ rfl (¬1)) (λC s0 H0 fp=>(@aq _ _ _ 0 _ (show UB (["_law_row"]:List Str) by decide+kernel) rfl ↥3 (by trivial))) (λC s0 H0 fp=>(@cG _ _)) (λC s0 H0 fp=>(@bV _ _ _ _ _ _ _ rfl (¬0) (@aU _ _ _ _ _ _ ((@dQ _ _ _ _ _)∘ab)))) rfl ∅ ↥5) (@cY _ _ _ _ _ _ _ _ _ _ _ _ _ [] ["_law_row"] rfl rfl (@cf _ _ _ _ _ rfl (¬1)) (λC s0 H0 fp=>(@aq _ _ _ 0 _ (show UB (["_law_row"]:List Str) by decide+kernel) rfl ↥3 (by trivial))) (λC s0 H0 fp=>(@cG _ _)) (λC s0 H0 fp=>(@bV _ _ _ _ _ _ _ rfl (¬0) (@aU _ _ _ _ _ _ ((@dQ _ _ _ _ _)∘ab)))) rfl ∅ ↥5)) ∅ (by trivial))) ↥5) (@aj _ _ _ _ _ (@az _ _ _ _ _ (¬1))))))
def kh:FI:=(nH (aa (ay bF (ac 0) (vC (.int 1))) (aa (ac 1) ah)))
def dh:FS:=(a8 2 (bA 2 gy (aa (ac 2) (aa (ay bF (dq (aa (bA 1 uh (aa (ay bF (ac 3) (vC (.int 2))) ah)) (aa (ay bF (ac 3) (vC (.int 2))) ah))) (aL (g1 qC) (aa (ac 4) ah))) ah))))
def rh:FS:=(aC (a8 2 (bH (aa (vC (.int 1)) (aa (vC (.int 1)) ah)))) (aC (cH (([3]++([4]++[]))++[2]) kh (aO (am (af 3) (am (af 4) aN))) dh) (a_ (ac 2))))
def iI:FM:=et 2 3 ([2]++((([3]++([4]++[]))++[2])++[])) rh
theorem p8:av ["_law_web_here","_law_answers","_law_found","_law_tie","_law_truth"] ["_law_web_here","_law_answers"] (ao iM):=⟨rfl,rfl,rfl,by decide+kernel,rfl,by decide+kernel,by decide+kernel⟩
theorem ym(h:eN K mg "_law_chance_of" iM f fd ["_law_web_here","_law_answers"])(T:gS mg)(zLtimes:Cl P w K mg base "_law_times" lM ["_law_one","_law_other"] 3 2 gy)(zLrest:Cl P w K mg base "_law_rest" uH ["_law_one"] 1 1 uh):bh P w K mg base el 4 f fd ["_law_web_here","_law_answers"] (eu K 2 iI):=by obtain⟨Rl,Rm,PV,Qe⟩:=zLtimes;obtain⟨Tf,Tg,Q1,SN⟩:=zLrest;have nd:=p8.nd;exact h.fn p8 rfl rfl (λcdv A outer s H E hr=>(@ag _ _ _ _ _ _ _ _ (@aE _ _ _ _ _ 2 _ _ nd rfl ↥3 (@aU _ _ _ _ _ _ (ae∘(ae∘ab))) ∅ (by trivial)) (@ag _ _ _ _ _ _ _ _ (@cZ _ _ _ _ _ _ _ _ _ _ _ UL rfl (@mM _ _ _ _ _ _ _ _ _ _ rfl rfl T.b_zip ((@aR _ _ _ _ _ _ _ rfl (¬0) ae ↥4)∘((¬1)∘ab)) ∅ ∅) (@ce _ _ _ _ _ _ _ _ rfl rfl (@au _ _ _ _ _ _ _ _ (@aq _ _ _ 3 _ nd rfl ↥3 (by trivial)) (@au _ _ _ _ _ _ _ _ (@aq _ _ _ 4 _ nd rfl ↥3 (by trivial)) (@bB _ _) ∅) ∅) (aB (aB b_)) ∅ ∅) (@aj _ _ _ _ _ (@aE _ _ _ _ _ 2 _ _ nd rfl ↥3 (@aG _ _ _ _ _ _ _ _ _ _ _ _ _ _ _ PV Qe (hr.mono ⋯) ((¬2)∘((@aR _ _ _ _ _ _ _ rfl (@bS _ _ _ _ _ ((@aG _ _ _ _ _ _ _ _ _ _ _ _ _ _ _ Q1 SN (hr.mono ⋯) ((@aR _ _ _ _ _ _ _ rfl (¬3) ae ↥4)∘ab) ∅ ⋯ ∅ ∅)∘((@aR _ _ _ _ _ _ _ rfl (¬3) ae ↥4)∘ab))) (@aZ _ _ _ _ _ _ _ _ _ (@b_int _ _) ∅ T.b_int ((¬4)∘ab) ⋯ ⋯ ∅ ∅) ↥4)∘ab)) ∅ ⋯ ∅ ∅) ∅ (by trivial))) ↥5) (@aj _ _ _ _ _ (@az _ _ _ _ _ (¬2))))))
def f9:FT:=(aI (ay G7 (ac 3) (vC (.int 0))))
def i9:FS:=(aC (ky (ay bF (ac 0) (ac 3)) (aO (am (af 4) (am (af 5) (am (af 6) aN))))) (aC (dr (cS bG (ac 2) (aa (bH (aa (ac 4) (aa (ay bF (ac 1) (ac 4)) ah))) ah))) (a8 3 (ay bF (dq (aa (ac 6) (aa (ac 5) ah))) (aL (g1 qC) (aa (ay bF (ac 1) (ac 4)) ah))))))
def tM:FS:=(aC (a8 2 (dq ah)) (aC (a8 3 (ay cy (si qE (vC (.int 1))) (aL (g1 qC) (aa (ay Ht (aL (g1 gU) (aa (ac 0) ah)) (vC (.int 0))) ah)))) (aC (eZ (2^4200) f9 i9) (a_ (aL (g1 cz) (aa (ac 2) ah))))))
def jE:FM:=et 2 5 ([2]++([3]++((([4]++([5]++([6]++[])))++([]++[3]))++[]))) tM
theorem r6:av ["_law_tree_here","_law_answers","_law_run","_law_at","_law_tie","_law_yes","_law_no"] ["_law_tree_here","_law_answers"] (ao jK):=⟨rfl,rfl,rfl,by decide+kernel,rfl,by decide+kernel,by decide+kernel⟩
theorem zS(h:eN K mg "_law_run_tree" jK f fd ["_law_tree_here","_law_answers"])(T:gS mg):bh P w K mg base el 1 f fd ["_law_tree_here","_law_answers"] (eu K 2 jE):=by have nd:=r6.nd;exact h.fn r6 rfl rfl (λcdv A outer s H E hr=>(@ag _ _ _ _ _ _ _ _ (@aE _ _ _ _ _ 2 _ _ nd rfl ↥3 (@bS _ _ _ _ _ ab) ∅ (by trivial)) (@ag _ _ _ _ _ _ _ _ (@aE _ _ _ _ _ 3 _ _ nd rfl ↥3 (@bV _ _ _ _ _ _ _ rfl (@rZ _ _ _ _ _ ae) (@aZ _ _ _ _ _ _ _ _ _ (@b_int _ _) ∅ T.b_int ((@pU _ _ _ _ _ _ _ _ _ (@CM _ _) (@aZ _ _ _ _ _ _ _ _ _ (@b_len _ _ rfl) ∅ T.b_len ((¬0)∘ab) ⋯ ⋯ ∅ ∅) ae (aP _))∘ab) ⋯ ⋯ ∅ ∅)) ∅ (by trivial)) (@ag _ _ _ _ _ _ _ _ (@jG _ _ _ _ _ _ _ _ _ UL (@a9 _ _ _ _ _ _ _ _ _ (@CL _ _) (¬3) ae (aP _)) (@ag _ _ _ _ _ _ _ _ (@jF _ _ _ _ _ _ _ _ (@aR _ _ _ _ _ _ _ rfl (¬0) (¬3) ↥4) (@ce _ _ _ _ _ _ _ _ rfl rfl (@au _ _ _ _ _ _ _ _ (@aq _ _ _ 4 _ nd rfl ↥3 (by trivial)) (@au _ _ _ _ _ _ _ _ (@aq _ _ _ 5 _ nd rfl ↥3 (by trivial)) (@au _ _ _ _ _ _ _ _ (@aq _ _ _ 6 _ nd rfl ↥3 (by trivial)) (@bB _ _) ∅) ∅) ∅) (aB (aB (aB b_))) ∅ ∅) ∅ ∅ ∅) (@ag _ _ _ _ _ _ _ _ (@ee _ _ _ _ _ (@eI _ _ _ _ _ _ _ _ _ rfl (¬2) ((@aU _ _ _ _ _ _ ((¬4)∘((@aR _ _ _ _ _ _ _ rfl (¬1) (¬4) ↥4)∘ab)))∘ab) ∅ ∅ ∅ ∅ ∅) ∅) (@aj _ _ _ _ _ (@aE _ _ _ _ _ 3 _ _ nd rfl ↥3 (@aR _ _ _ _ _ _ _ rfl (@bS _ _ _ _ _ ((¬6)∘((¬5)∘ab))) (@aZ _ _ _ _ _ _ _ _ _ (@b_int _ _) ∅ T.b_int ((@aR _ _ _ _ _ _ _ rfl (¬1) (¬4) ↥4)∘ab) ⋯ ⋯ ∅ ∅) ↥4) ∅ (by trivial)))))) (@aj _ _ _ _ _ (@az _ _ _ _ _ (@aZ _ _ _ _ _ _ _ _ _ (@b_tuple _ _ rfl) ∅ T.b_tuple ((¬2)∘ab) ⋯ ⋯ ∅ ∅)))))))
def zz:FI:=(eE (ac 1))
def y8:FT:=(aI (ac 2))
def pA:FE:=(ay bF (ay bF (ay bF (ac 0) (vC (.int 1))) (ac 1)) (vC (.int 3)))
def D_:FS:=(a_ (aL (g1 (i4 wF)) (aa (bD [(0,"_law_web_here")] 2 zz (aO (am (af 1) (am (af 2) aN))) y8 pA) ah)))
def ug:FM:=et 2 0 [] D_
theorem Co:av ["_law_web_here","_law_run"] ["_law_web_here","_law_run"] (ao uF):=⟨rfl,rfl,rfl,by decide+kernel,rfl,by decide+kernel,by decide+kernel⟩
theorem HU(h:eN K mg "_law_kept" uF f fd ["_law_web_here","_law_run"])(T:gS mg):bh P w K mg base el 1 f fd ["_law_web_here","_law_run"] (eu K 2 ug):=by have nd:=Co.nd;exact h.fn Co rfl rfl (λcdv A outer s H E hr=>(@aj _ _ _ _ _ (@az _ _ _ _ _ (@aZ _ _ _ _ _ _ _ _ _ (@b_sum _ _ _ rfl hr) ∅ T.b_sum ((@cY _ _ _ _ _ _ _ _ _ _ _ _ _ [(0,"_law_web_here")] ["_law_tie","_law_truth"] rfl rfl (@cf _ _ _ _ _ rfl (¬1)) (λC s0 H0 fp=>(@ce _ _ _ _ _ _ _ _ rfl rfl (@au _ _ _ _ _ _ _ _ (@aq _ _ _ 1 _ (show UB (["_law_web_here","_law_tie","_law_truth"]:List Str) by decide+kernel) rfl ↥3 (by trivial)) (@au _ _ _ _ _ _ _ _ (@aq _ _ _ 2 _ (show UB (["_law_web_here","_law_tie","_law_truth"]:List Str) by decide+kernel) rfl ↥3 (by trivial)) (@bB _ _) ∅) ∅) (aB (aB b_)) ∅ ∅)) (λC s0 H0 fp=>(@ng _ _ _ _ (@gJ _ _ _ _ (¬2) ↥5))) (λC s0 H0 fp=>(@aR _ _ _ _ _ _ _ rfl (@aR _ _ _ _ _ _ _ rfl (@aR _ _ _ _ _ _ _ rfl (¬0) ae ↥4) (¬1) ↥4) ae ↥4)) rfl ∅ ↥5)∘ab) ⋯ ⋯ ∅ ∅))))
def jC:FI:=(eE (bA 1 eF (aa (aL (g1 gU) (aa (ay bF (ac 0) (vC (.int 1))) ah)) ah)))
def dw:FS:=(aC (a8 4 (bH (aa (bA 2 ug (aa (ac 0) (aa (bA 2 jE (aa (ac 1) (aa (ac 3) ah))) ah))) (aa (vC (.int 1)) ah)))) (a8 2 (bA 2 oD (aa (ac 2) (aa (bA 2 gy (aa (bA 2 iI (aa (ac 0) (aa (ac 3) ah))) (aa (ac 4) ah))) ah)))))
def o8:FS:=(aC (a8 2 (bH (aa (vC (.int 0)) (aa (vC (.int 1)) ah)))) (aC (cH ([3]++([4]++[2])) jC (af 3) dw) (a_ (ac 2))))
def d_:FM:=et 2 3 ([2]++(([3]++([4]++[2]))++[])) o8
theorem nP:av ["_law_web_here","_law_tree_here","_law_total","_law_answers","_law_kept_here"] ["_law_web_here","_law_tree_here"] (ao gM):=⟨rfl,rfl,rfl,by decide+kernel,rfl,by decide+kernel,by decide+kernel⟩
theorem vF(h:eN K mg "_law_tree_worth" gM f fd ["_law_web_here","_law_tree_here"])(T:gS mg)(zLall_answers:Cl P w K mg base "_law_all_answers" eJ ["_law_many"] 1 1 eF)(zLplus:Cl P w K mg base "_law_plus" qU ["_law_one","_law_other"] 3 2 oD)(zLkept:Cl P w K mg base "_law_kept" uF ["_law_web_here","_law_run"] 1 2 ug)(zLtimes:Cl P w K mg base "_law_times" lM ["_law_one","_law_other"] 3 2 gy)(zLrun_tree:Cl P w K mg base "_law_run_tree" jK ["_law_tree_here","_law_answers"] 1 2 jE)(zLchance_of:Cl P w K mg base "_law_chance_of" iM ["_law_web_here","_law_answers"] 4 2 iI):bh P w K mg base el 5 f fd ["_law_web_here","_law_tree_here"] (eu K 2 d_):=by obtain⟨RG,RH,PB,QG⟩:=zLall_answers;obtain⟨SO,SQ,Qu,Ro⟩:=zLplus;obtain⟨Th,Ti,Q2,SS⟩:=zLkept;obtain⟨Rl,Rm,PV,Qe⟩:=zLtimes;obtain⟨Sx,Sy,P5,Q7⟩:=zLrun_tree;obtain⟨Sm,Sn,PX,QZ⟩:=zLchance_of;have nd:=nP.nd;exact h.fn nP rfl rfl (λcdv A outer s H E hr=>(@ag _ _ _ _ _ _ _ _ (@aE _ _ _ _ _ 2 _ _ nd rfl ↥3 (@aU _ _ _ _ _ _ (ae∘(ae∘ab))) ∅ (by trivial)) (@ag _ _ _ _ _ _ _ _ (@cZ _ _ _ _ _ _ _ _ _ _ _ UL rfl (@cf _ _ _ _ _ rfl (@aG _ _ _ _ _ _ _ _ _ _ _ _ _ _ _ PB QG (hr.mono ⋯) ((@aZ _ _ _ _ _ _ _ _ _ (@b_len _ _ rfl) ∅ T.b_len ((@aR _ _ _ _ _ _ _ rfl (¬0) ae ↥4)∘ab) ⋯ ⋯ ∅ ∅)∘ab) ∅ ⋯ ∅ ∅)) (@aq _ _ _ 3 _ nd rfl ↥3 (by trivial)) (@ag _ _ _ _ _ _ _ _ (@aE _ _ _ _ _ 4 _ _ nd rfl ↥3 (@aU _ _ _ _ _ _ ((@aG _ _ _ _ _ _ _ _ _ _ _ _ _ _ _ Q2 SS (hr.mono ⋯) ((¬0)∘((@aG _ _ _ _ _ _ _ _ _ _ _ _ _ _ _ P5 Q7 (hr.mono ⋯) ((¬1)∘((¬3)∘ab)) ∅ ⋯ ∅ ∅)∘ab)) ∅ ⋯ ∅ ∅)∘(ae∘ab))) ∅ (by trivial)) (@aj _ _ _ _ _ (@aE _ _ _ _ _ 2 _ _ nd rfl ↥3 (@aG _ _ _ _ _ _ _ _ _ _ _ _ _ _ _ Qu Ro (hr.mono ⋯) ((¬2)∘((@aG _ _ _ _ _ _ _ _ _ _ _ _ _ _ _ PV Qe (hr.mono ⋯) ((@aG _ _ _ _ _ _ _ _ _ _ _ _ _ _ _ PX QZ (hr.mono ⋯) ((¬0)∘((¬3)∘ab)) ∅ ⋯ ∅ ∅)∘((¬4)∘ab)) ∅ ⋯ ∅ ∅)∘ab)) ∅ ⋯ ∅ ∅) ∅ (by trivial)))) ↥5) (@aj _ _ _ _ _ (@az _ _ _ _ _ (¬2))))))
def mB:FI:=(eE (ac 3))
def gf:FE:=(bH (aa (ay bF (ay bF (ac 1) (ac 2)) (vC (.int 0))) (aa (ay bF (ac 0) (ay bF (ay bF (ac 1) (ac 2)) (vC (.int 1)))) (aa (ay bF (ac 0) (ay bF (ay bF (ac 1) (ac 2)) (vC (.int 2)))) ah))))
def mC:FI:=(B1 (aa (ac 3) ah))
def fW:FS:=(vO (ac 5) (ac 4) (ac 6))
def jB:FI:=(eE (xo (ay bF (ac 1) (ay bF (ac 3) (si qE (vC (.int 1))))) (gG (vC (.int 1))) g_))
def fZ:FT:=(aI (ay (bR true) (ac 0) (si qE (vC (.int 1)))))
def gh:FE:=(ac 0)
def dA:FT:=(aI (ay (bR true) (ac 2) (dq ah)))
def du:FS:=(aC (dr (cS bG (ac 3) (aa (cS gB (ac 2) (aa (ay bx (bA 1 bo (aa (ac 0) ah)) (aL (g1 gU) (aa (ac 2) ah))) ah)) ah))) (dr (Jp (ac 2) (bD [] 1 jB (af 0) fZ gh))))
def o6:FS:=(aC (a8 2 (xo (dq (aa (vC (.int 0)) ah)) g_ (gG (aL (g1 gU) (aa (ac 1) ah))))) (aC (a8 3 (dq ah)) (aC (eZ (2^4200) dA du) (aC (a8 4 (ay cL (dq (aa (si qE (vC (.int 1))) ah)) (ay cy (aL (g1 gU) (aa (ac 1) ah)) (vC (.int 1))))) (aC (cH (([5]++([6]++[]))++[]) mC (aO (am (af 5) (am (af 6) aN))) fW) (a_ (aL (g1 cz) (aa (bD [(4,"_law_numbers"),(1,"_law_tree_here")] 1 mB (af 2) aX gf) ah))))))))
def cD:FM:=et 2 5 ([2]++([3]++(([]++[])++([4]++((([5]++([6]++[]))++[])++[]))))) o6
theorem nO:av ["_law_drawn","_law_tree_here","_law_waiting","_law_order","_law_numbers","_law_at","_law_node"] ["_law_drawn","_law_tree_here"] (ao ef):=⟨rfl,rfl,rfl,by decide+kernel,rfl,by decide+kernel,by decide+kernel⟩
theorem vE(h:eN K mg "_law_renumbered" ef f fd ["_law_drawn","_law_tree_here"])(T:gS mg)(zLnext:Cl P w K mg base "_law_next" jJ ["_law_drawn"] 1 1 bo):bh P w K mg base el 2 f fd ["_law_drawn","_law_tree_here"] (eu K 2 cD):=by obtain⟨Qq,Qr,Pe,Pf⟩:=zLnext;have nd:=nO.nd;exact h.fn nO rfl rfl (λcdv A outer s H E hr=>(@ag _ _ _ _ _ _ _ _ (@aE _ _ _ _ _ 2 _ _ nd rfl ↥3 (@jd _ _ _ _ _ _ _ _ _ _ rfl (@bS _ _ _ _ _ (ae∘ab)) (@je _ _) (@jf _ _ _ _ (@aZ _ _ _ _ _ _ _ _ _ (@b_len _ _ rfl) ∅ T.b_len ((¬1)∘ab) ⋯ ⋯ ∅ ∅))) ∅ (by trivial)) (@ag _ _ _ _ _ _ _ _ (@aE _ _ _ _ _ 3 _ _ nd rfl ↥3 (@bS _ _ _ _ _ ab) ∅ (by trivial)) (@ag _ _ _ _ _ _ _ _ (@jG _ _ _ _ _ _ _ _ _ UL (@a9 _ _ _ _ _ _ _ _ _ (@qt _ _ _ rfl hr) (¬2) (@bS _ _ _ _ _ ab) (aP _)) (@ag _ _ _ _ _ _ _ _ (@ee _ _ _ _ _ (@eI _ _ _ _ _ _ _ _ _ rfl (¬3) ((@yy _ _ _ _ _ _ _ _ _ rfl (¬2) ((@bu _ _ _ _ _ _ _ (@aG _ _ _ _ _ _ _ _ _ _ _ _ _ _ _ Pe Pf (hr.mono ⋯) ((¬0)∘ab) ∅ ⋯ ∅ ∅) (@aZ _ _ _ _ _ _ _ _ _ (@b_len _ _ rfl) ∅ T.b_len ((¬2)∘ab) ⋯ ⋯ ∅ ∅))∘ab) ∅ ∅ ∅ ∅ ∅)∘ab) ∅ ∅ ∅ ∅ ∅) ∅) (@aj _ _ _ _ _ (@ee _ _ _ _ _ (@FQ _ _ _ _ _ _ _ _ rfl (¬2) (@cY _ _ _ _ _ _ _ _ _ _ _ _ _ [] ["_law_link"] rfl rfl (@cf _ _ _ _ _ rfl (@jd _ _ _ _ _ _ _ _ _ _ rfl (@aR _ _ _ _ _ _ _ rfl (¬1) (@aR _ _ _ _ _ _ _ rfl (¬3) (@rZ _ _ _ _ _ ae) ↥4) ↥4) (@jf _ _ _ _ ae) (@je _ _))) (λC s0 H0 fp=>(@aq _ _ _ 0 _ (show UB (["_law_link"]:List Str) by decide+kernel) rfl ↥3 (by trivial))) (λC s0 H0 fp=>(@ng _ _ _ _ (@a9 _ _ _ _ _ _ _ _ _ (@qt _ _ _ rfl hr) (¬0) (@rZ _ _ _ _ _ ae) (aP _)))) (λC s0 H0 fp=>(¬0)) rfl ∅ ↥5) ∅ ∅ ∅ ∅ ∅ ∅) ∅)))) (@ag _ _ _ _ _ _ _ _ (@aE _ _ _ _ _ 4 _ _ nd rfl (UI rfl) (@gH _ _ _ _ _ _ _ rfl (@bS _ _ _ _ _ ((@rZ _ _ _ _ _ ae)∘ab)) (@bV _ _ _ _ _ _ _ rfl (@aZ _ _ _ _ _ _ _ _ _ (@b_len _ _ rfl) ∅ T.b_len ((¬1)∘ab) ⋯ ⋯ ∅ ∅) ae)) ∅ (by trivial)) (@ag _ _ _ _ _ _ _ _ (@cZ _ _ _ _ _ _ _ _ _ _ _ UL rfl (@z_ _ _ _ _ _ _ _ _ _ rfl rfl T.b_enumerate ((¬3)∘ab) ∅) (@ce _ _ _ _ _ _ _ _ rfl rfl (@au _ _ _ _ _ _ _ _ (@aq _ _ _ 5 _ nd rfl ↥3 (by trivial)) (@au _ _ _ _ _ _ _ _ (@aq _ _ _ 6 _ nd rfl ↥3 (by trivial)) (@bB _ _) ∅) ∅) (aB (aB b_)) ∅ ∅) (@aj _ _ _ _ _ (@yB _ _ _ _ _ _ _ _ _ _ (¬5) (¬4) (¬6) ↥5 ∅ ∅ ∅)) ↥5) (@aj _ _ _ _ _ (@az _ _ _ _ _ (@aZ _ _ _ _ _ _ _ _ _ (@b_tuple _ _ rfl) ∅ T.b_tuple ((@cY _ _ _ _ _ _ _ _ _ _ _ _ _ [(4,"_law_numbers"),(1,"_law_tree_here")] ["_law_node"] rfl rfl (@cf _ _ _ _ _ rfl (¬3)) (λC s0 H0 fp=>(@aq _ _ _ 2 _ (show UB (["_law_numbers","_law_tree_here","_law_node"]:List Str) by decide+kernel) rfl ↥3 (by trivial))) (λC s0 H0 fp=>(@cG _ _)) (λC s0 H0 fp=>(@aU _ _ _ _ _ _ ((@aR _ _ _ _ _ _ _ rfl (@aR _ _ _ _ _ _ _ rfl (¬1) (¬2) ↥4) ae ↥4)∘((@aR _ _ _ _ _ _ _ rfl (¬0) (@aR _ _ _ _ _ _ _ rfl (@aR _ _ _ _ _ _ _ rfl (¬1) (¬2) ↥4) ae ↥4) ↥4)∘((@aR _ _ _ _ _ _ _ rfl (¬0) (@aR _ _ _ _ _ _ _ rfl (@aR _ _ _ _ _ _ _ rfl (¬1) (¬2) ↥4) ae ↥4) ↥4)∘ab))))) rfl ∅ ↥5)∘ab) ⋯ ⋯ ∅ ∅)))))))))
def Ed:FS:=(aC (a8 3 (ay bF (dq (aa (ay cy (vC (.int 1)) (ay bx (bA 1 bo (aa (ac 0) ah)) (vC (.int 8)))) (aa (ay cy (vC (.int 1)) (ay bx (bA 1 bo (aa (ac 0) ah)) (vC (.int 40)))) (aa (ay cy (vC (.int 40)) (ay cL (vC (.int 260)) (aL (g1 qC) (aa (ac 2) ah)))) ah)))) (ay bx (bA 1 bo (aa (ac 0) ah)) (vC (.int 3))))) (a_ (bA 2 cD (aa (ac 0) (aa (bA 3 pJ (aa (ac 0) (aa (ac 1) (aa (ac 3) ah)))) ah)))))
def qK:FM:=et 3 1 ([3]++[]) Ed
theorem Cu:av ["_law_drawn","_law_web_here","_law_great","_law_most"] ["_law_drawn","_law_web_here","_law_great"] (ao uJ):=⟨rfl,rfl,rfl,by decide+kernel,rfl,by decide+kernel,by decide+kernel⟩
theorem H_(h:eN K mg "_law_tree" uJ f fd ["_law_drawn","_law_web_here","_law_great"])(T:gS mg)(zLrenumbered:Cl P w K mg base "_law_renumbered" ef ["_law_drawn","_law_tree_here"] 2 2 cD)(zLgrown:Cl P w K mg base "_law_grown" pZ ["_law_drawn","_law_web_here","_law_most"] 4 3 pJ)(zLnext:Cl P w K mg base "_law_next" jJ ["_law_drawn"] 1 1 bo):bh P w K mg base el 5 f fd ["_law_drawn","_law_web_here","_law_great"] (eu K 3 qK):=by obtain⟨QO,QP,Pn,P0⟩:=zLrenumbered;obtain⟨S8,S9,QH,So⟩:=zLgrown;obtain⟨Qq,Qr,Pe,Pf⟩:=zLnext;have nd:=Cu.nd;exact h.fn Cu rfl rfl (λcdv A outer s H E hr=>(@ag _ _ _ _ _ _ _ _ (@aE _ _ _ _ _ 3 _ _ nd rfl ↥3 (@aR _ _ _ _ _ _ _ rfl (@bS _ _ _ _ _ ((@bV _ _ _ _ _ _ _ rfl ae (@bu _ _ _ _ _ _ _ (@aG _ _ _ _ _ _ _ _ _ _ _ _ _ _ _ Pe Pf (hr.mono ⋯) ((¬0)∘ab) ∅ ⋯ ∅ ∅) ae))∘((@bV _ _ _ _ _ _ _ rfl ae (@bu _ _ _ _ _ _ _ (@aG _ _ _ _ _ _ _ _ _ _ _ _ _ _ _ Pe Pf (hr.mono ⋯) ((¬0)∘ab) ∅ ⋯ ∅ ∅) ae))∘((@bV _ _ _ _ _ _ _ rfl ae (@gH _ _ _ _ _ _ _ rfl ae (@aZ _ _ _ _ _ _ _ _ _ (@b_int _ _) ∅ T.b_int ((¬2)∘ab) ⋯ ⋯ ∅ ∅)))∘ab)))) (@bu _ _ _ _ _ _ _ (@aG _ _ _ _ _ _ _ _ _ _ _ _ _ _ _ Pe Pf (hr.mono ⋯) ((¬0)∘ab) ∅ ⋯ ∅ ∅) ae) ↥4) ∅ (by trivial)) (@aj _ _ _ _ _ (@az _ _ _ _ _ (@aG _ _ _ _ _ _ _ _ _ _ _ _ _ _ _ Pn P0 (hr.mono ⋯) ((¬0)∘((@aG _ _ _ _ _ _ _ _ _ _ _ _ _ _ _ QH So (hr.mono ⋯) ((¬0)∘((¬1)∘((¬3)∘ab))) ∅ ⋯ ∅ ∅)∘ab)) ∅ ⋯ ∅ ∅)))))
def xT:FI:=(eE (bA 3 oE (aa (ac 0) (aa (vC (.int 12)) (aa (vC (.int 10)) ah)))))
def sR:FE:=(ay cy (ay cy (xo (ac 1) g_ (gG (vC (.int 2)))) (bH (aa (bA 2 eG (aa (bA 1 bo (aa (ac 0) ah)) (aa (vC (.int 0)) ah))) ah))) (xo (ac 1) (gG (vC (.int 3))) g_))
def JC:FS:=(aC (a8 1 (bD [(0,"_law_drawn")] 1 xT (af 1) aX sR)) (a_ (bH (aa (vC (.int 12)) (aa (aL (g1 cz) (aa (ac 1) ah)) (aa (ay cL (bH (aa (ay cy (vC (.int 1)) (ay bx (bA 1 bo (aa (ac 0) ah)) (vC (.int 20)))) ah)) (vC (.int 12))) (aa (vC (.int 10)) ah)))))))
def zJ:FM:=et 1 1 ([1]++[]) JC
theorem Gq:av ["_law_drawn","_law_ties_here"] ["_law_drawn"] (ao Ae):=⟨rfl,rfl,rfl,by decide+kernel,rfl,by decide+kernel,by decide+kernel⟩
theorem K5(h:eN K mg "_law_ten" Ae f fd ["_law_drawn"])(T:gS mg)(zLties:Cl P w K mg base "_law_ties" qV ["_law_drawn","_law_things","_law_many"] 4 3 oE)(zLchance:Cl P w K mg base "_law_chance" lg ["_law_number","_law_kind"] 3 2 eG)(zLnext:Cl P w K mg base "_law_next" jJ ["_law_drawn"] 1 1 bo):bh P w K mg base el 5 f fd ["_law_drawn"] (eu K 1 zJ):=by obtain⟨SG,SH,Qs,Rh⟩:=zLties;obtain⟨RD,RE,P4,QE⟩:=zLchance;obtain⟨Qq,Qr,Pe,Pf⟩:=zLnext;have nd:=Gq.nd;exact h.fn Gq rfl rfl (λcdv A outer s H E hr=>(@ag _ _ _ _ _ _ _ _ (@lL _ _ _ (1) _ _ _ _ _ _ _ _ _ _ _ _ _ [(0,"_law_drawn")] ["_law_tie"] rfl rfl (@cf _ _ _ _ _ rfl (@aG _ _ _ _ _ _ _ _ _ _ _ _ _ _ _ Qs Rh (hr.mono ⋯) ((¬0)∘(ae∘(ae∘ab))) ∅ ⋯ ∅ ∅)) (λC s0 H0 fp=>(@aq _ _ _ 1 _ (show UB (["_law_drawn","_law_tie"]:List Str) by decide+kernel) rfl ↥3 (by trivial))) (λC s0 H0 fp=>(@cG _ _)) (λC s0 H0 fp=>(@bV _ _ _ _ _ _ _ rfl (@bV _ _ _ _ _ _ _ rfl (@jd _ _ _ _ _ _ _ _ _ _ rfl (¬1) (@je _ _) (@jf _ _ _ _ ae)) (@aU _ _ _ _ _ _ ((@aG _ _ _ _ _ _ _ _ _ _ _ _ _ _ _ P4 QE (hr.mono ⋯) ((@aG _ _ _ _ _ _ _ _ _ _ _ _ _ _ _ Pe Pf (hr.mono ⋯) ((¬0)∘ab) ∅ ⋯ ∅ ∅)∘(ae∘ab)) ∅ ⋯ ∅ ∅)∘ab))) (@jd _ _ _ _ _ _ _ _ _ _ rfl (¬1) (@jf _ _ _ _ ae) (@je _ _)))) rfl ∅ nd rfl rfl ∅ ↥5) (@aj _ _ _ _ _ (@az _ _ _ _ _ (@aU _ _ _ _ _ _ (ae∘((@aZ _ _ _ _ _ _ _ _ _ (@b_tuple _ _ rfl) ∅ T.b_tuple ((¬1)∘ab) ⋯ ⋯ ∅ ∅)∘((@gH _ _ _ _ _ _ _ rfl (@aU _ _ _ _ _ _ ((@bV _ _ _ _ _ _ _ rfl ae (@bu _ _ _ _ _ _ _ (@aG _ _ _ _ _ _ _ _ _ _ _ _ _ _ _ Pe Pf (hr.mono ⋯) ((¬0)∘ab) ∅ ⋯ ∅ ∅) ae))∘ab)) ae)∘(ae∘ab)))))))))
def jA:FI:=(nH (aa (ac 1) (aa (ac 2) ah)))
def fV:FS:=(aC (ky (xo (ay bF (ay bF (ac 0) (vC (.int 1))) (ay bF (ac 4) (vC (.int 0)))) (gG (vC (.int 2))) g_) (aO (am (af 6) (am (af 7) aN)))) (a8 3 (bA 2 oD (aa (ac 3) (aa (bA 2 gy (aa (bA 2 gy (aa (ac 5) (aa (ac 6) ah))) (aa (bH (aa (ac 7) (aa (vC (.int 1)) ah))) ah))) ah)))))
def o5:FS:=(aC (a8 3 (bH (aa (vC (.int 0)) (aa (vC (.int 1)) ah)))) (aC (cH (([4]++([5]++[]))++(([6]++([7]++[]))++[3])) jA (aO (am (af 4) (am (af 5) aN))) fV) (a_ (ac 3))))
def d9:FM:=et 3 5 ([3]++((([4]++([5]++[]))++(([6]++([7]++[]))++[3]))++[])) o5
theorem nM:av ["_law_web_here","_law_tree_here","_law_reaches","_law_found","_law_node","_law_reach","_law_chance_here","_law_worth_here"] ["_law_web_here","_law_tree_here","_law_reaches"] (ao gL):=⟨rfl,rfl,rfl,by decide+kernel,rfl,by decide+kernel,by decide+kernel⟩
theorem vD(h:eN K mg "_law_by_reaches" gL f fd ["_law_web_here","_law_tree_here","_law_reaches"])(T:gS mg)(zLplus:Cl P w K mg base "_law_plus" qU ["_law_one","_law_other"] 3 2 oD)(zLtimes:Cl P w K mg base "_law_times" lM ["_law_one","_law_other"] 3 2 gy):bh P w K mg base el 4 f fd ["_law_web_here","_law_tree_here","_law_reaches"] (eu K 3 d9):=by obtain⟨SO,SQ,Qu,Ro⟩:=zLplus;obtain⟨Rl,Rm,PV,Qe⟩:=zLtimes;have nd:=nM.nd;exact h.fn nM rfl rfl (λcdv A outer s H E hr=>(@ag _ _ _ _ _ _ _ _ (@aE _ _ _ _ _ 3 _ _ nd rfl ↥3 (@aU _ _ _ _ _ _ (ae∘(ae∘ab))) ∅ (by trivial)) (@ag _ _ _ _ _ _ _ _ (@cZ _ _ _ _ _ _ _ _ _ _ _ UL rfl (@mM _ _ _ _ _ _ _ _ _ _ rfl rfl T.b_zip ((¬1)∘((¬2)∘ab)) ∅ ∅) (@ce _ _ _ _ _ _ _ _ rfl rfl (@au _ _ _ _ _ _ _ _ (@aq _ _ _ 4 _ nd rfl ↥3 (by trivial)) (@au _ _ _ _ _ _ _ _ (@aq _ _ _ 5 _ nd rfl ↥3 (by trivial)) (@bB _ _) ∅) ∅) (aB (aB b_)) ∅ ∅) (@ag _ _ _ _ _ _ _ _ (@jF _ _ _ _ _ _ _ _ (@jd _ _ _ _ _ _ _ _ _ _ rfl (@aR _ _ _ _ _ _ _ rfl (@aR _ _ _ _ _ _ _ rfl (¬0) ae ↥4) (@aR _ _ _ _ _ _ _ rfl (¬4) ae ↥4) ↥4) (@jf _ _ _ _ ae) (@je _ _)) (@ce _ _ _ _ _ _ _ _ rfl rfl (@au _ _ _ _ _ _ _ _ (@aq _ _ _ 6 _ nd rfl ↥3 (by trivial)) (@au _ _ _ _ _ _ _ _ (@aq _ _ _ 7 _ nd rfl ↥3 (by trivial)) (@bB _ _) ∅) ∅) (aB (aB b_)) ∅ ∅) ∅ ∅ ∅) (@aj _ _ _ _ _ (@aE _ _ _ _ _ 3 _ _ nd rfl ↥3 (@aG _ _ _ _ _ _ _ _ _ _ _ _ _ _ _ Qu Ro (hr.mono ⋯) ((¬3)∘((@aG _ _ _ _ _ _ _ _ _ _ _ _ _ _ _ PV Qe (hr.mono ⋯) ((@aG _ _ _ _ _ _ _ _ _ _ _ _ _ _ _ PV Qe (hr.mono ⋯) ((¬5)∘((¬6)∘ab)) ∅ ⋯ ∅ ∅)∘((@aU _ _ _ _ _ _ ((¬7)∘(ae∘ab)))∘ab)) ∅ ⋯ ∅ ∅)∘ab)) ∅ ⋯ ∅ ∅) ∅ (by trivial)))) ↥5) (@aj _ _ _ _ _ (@az _ _ _ _ _ (¬3))))))
def N7:FI:=(eE (dq (aa (bA 2 cw (aa (ac 3) (aa (ac 5) ah))) (aa (bA 2 bJ (aa (ac 3) (aa (ac 5) ah))) (aa (bA 2 cw (aa (ac 3) (aa (ac 6) ah))) ah)))))
def ND:FS:=(kD (l8 (aI (bA 2 mJ (aa (ac 9) (aa (ac 7) ah))))) (a_ (vC (.bool false))) dm)
def OC:FI:=(eS (aa (vC (.int 2)) ah))
def Kk:FS:=(aC (a8 3 (bA 3 zK (aa (ac 1) (aa (vC (.int 12)) (aa (vC (.int 6)) ah))))) (aC (a8 4 (iU (ay (bR false) (ac 2) (vC (.int 1))) (ay (bR false) (ay bx (bA 1 bo (aa (ac 1) ah)) (vC (.int 8))) (vC (.int 0))))) (aC (kD (aI (ac 4)) (a8 3 (bA 1 zJ (aa (ac 1) ah))) dm) (aC (a8 5 (bA 3 qK (aa (ac 1) (aa (ac 3) (aa (jQ (ac 4)) ah))))) (aC (a8 6 (bA 2 cD (aa (ac 1) (aa (ac 5) ah)))) (aC (a8 7 (bA 2 d_ (aa (ac 3) (aa (ac 5) ah)))) (aC (a8 8 (bA 2 cE (aa (ac 3) (aa (ac 5) ah)))) (aC (cH ([9]++([]++[])) N7 (af 9) ND) (aC (kD (yS (aI (ay (bR true) (bA 3 d9 (aa (ac 3) (aa (ac 5) (aa (ac 8) ah)))) (ac 7))) (aI (ay (bR true) (bA 2 bO (aa (ac 3) (aa (ac 6) ah))) (bA 2 bO (aa (ac 3) (aa (ac 5) ah)))))) (a_ (vC (.bool false))) dm) (aC (kD (yS (aI (ay qD (bA 3 bE (aa (ac 3) (aa (ac 5) (aa (ac 8) ah)))) (vC (.bool true)))) (aI (ay qD (bA 3 bM (aa (ac 3) (aa (ac 5) (aa (bA 2 cm (aa (ac 3) (aa (ac 5) ah))) ah)))) (vC (.bool true))))) (a_ (vC (.bool false))) dm) (aC (kD (aI (ay qD (bA 3 bM (aa (ac 3) (aa (ac 6) (aa (bA 2 cm (aa (ac 3) (aa (ac 6) ah))) ah)))) (vC (.bool true)))) (a_ (vC (.bool false))) dm) (kD (l7 (l8 (aI (ac 4))) (aI (ay (bR true) (bA 2 bJ (aa (ac 3) (aa (ac 6) ah))) (ac 7)))) (a_ (vC (.bool false))) dm))))))))))))
def JE:FS:=(aC (a8 1 (bA 1 pI (aa (ac 0) ah))) (aC (cH ([2]++([3]++([4]++(([3]++[])++([5]++([6]++([7]++([8]++(([9]++([]++[]))++(([]++[])++(([]++[])++(([]++[])++([]++[]))))))))))))) OC (af 2) Kk) (a_ (vC (.bool true)))))
def ui:FM:=et 1 9 ([1]++(([2]++([3]++([4]++(([3]++[])++([5]++([6]++([7]++([8]++(([9]++([]++[]))++(([]++[])++(([]++[])++(([]++[])++([]++[])))))))))))))++[])) JE
theorem Gu:av ["_law_script","_law_drawn","_law_k","_law_web_here","_law_great","_law_tree_here","_law_other","_law_due","_law_reaches","_law_found"] ["_law_script"] (ao uK):=⟨rfl,rfl,rfl,by decide+kernel,rfl,by decide+kernel,by decide+kernel⟩
theorem K7(h:eN K mg "law" uK f fd ["_law_script"])(T:gS mg)(zLdraws:Cl P w K mg base "_law_draws" pY ["_law_script"] 2 1 pI)(zLweb:Cl P w K mg base "_law_web" Af ["_law_drawn","_law_most","_law_ties_here"] 5 3 zK)(zLtree:Cl P w K mg base "_law_tree" uJ ["_law_drawn","_law_web_here","_law_great"] 5 3 qK)(zLrenumbered:Cl P w K mg base "_law_renumbered" ef ["_law_drawn","_law_tree_here"] 2 2 cD)(zLtree_worth:Cl P w K mg base "_law_tree_worth" gM ["_law_web_here","_law_tree_here"] 5 2 d_)(z_reaches_of:Cl P w K mg base "reaches_of" ek ["web","tree"] 5 2 cE)(zLten:Cl P w K mg base "_law_ten" Ae ["_law_drawn"] 5 1 zJ)(z_worth_of:Cl P w K mg base "worth_of" jM ["web","tree"] 7 2 cw)(z_by_answers:Cl P w K mg base "by_answers" gN ["web","tree"] 6 2 bJ)(z_worths_hold:Cl P w K mg base "worths_hold" eM ["web","tree","thing"] 6 3 bM)(zLsame:Cl P w K mg base "_law_same" uI ["_law_found","_law_due"] 1 2 mJ)(zLby_reaches:Cl P w K mg base "_law_by_reaches" gL ["_law_web_here","_law_tree_here","_law_reaches"] 4 3 d9)(z_asked_shares:Cl P w K mg base "asked_shares" dU ["web","tree"] 6 2 bO)(z_reaches_hold:Cl P w K mg base "reaches_hold" dW ["web","tree","thing"] 5 3 bE)(z_worths_of:Cl P w K mg base "worths_of" fP ["web","tree"] 6 2 cm)(zLnext:Cl P w K mg base "_law_next" jJ ["_law_drawn"] 1 1 bo):bh P w K mg base el 8 f fd ["_law_script"] (eu K 1 ui):=by obtain⟨S_,Ta,QI,Sr⟩:=zLdraws;obtain⟨Tu,Tv,RK,Tb⟩:=zLweb;obtain⟨Tj,Tn,Q3,SU⟩:=zLtree;obtain⟨QO,QP,Pn,P0⟩:=zLrenumbered;obtain⟨RV,RW,PF,QQ⟩:=zLtree_worth;obtain⟨QL,QM,Pm,PZ⟩:=z_reaches_of;obtain⟨Tw,Tx,RL,Tc⟩:=zLten;obtain⟨SA,SB,PM,Qv⟩:=z_worth_of;obtain⟨RX,RY,Px,Qg⟩:=z_by_answers;obtain⟨RM,RN,Po,Qb⟩:=z_worths_hold;obtain⟨To,Tp,Q4,SV⟩:=zLsame;obtain⟨RZ,R_,PH,QR⟩:=zLby_reaches;obtain⟨Rr,Rt,Ph,P6⟩:=z_asked_shares;obtain⟨Ru,Rw,Pv,Qm⟩:=z_reaches_hold;obtain⟨QV,QW,Pj,PQ⟩:=z_worths_of;obtain⟨Qq,Qr,Pe,Pf⟩:=zLnext;have nd:=Gu.nd;exact h.fn Gu rfl rfl (λcdv A outer s H E hr=>(@ag _ _ _ _ _ _ _ _ (@aE _ _ _ _ _ 1 _ _ nd rfl ↥3 (@aG _ _ _ _ _ _ _ _ _ _ _ _ _ _ _ QI Sr (hr.mono ⋯) ((¬0)∘ab) ∅ ⋯ ∅ ∅) ∅ (by trivial)) (@ag _ _ _ _ _ _ _ _ (@cZ _ _ _ _ _ _ _ _ _ _ _ UL rfl (@fL _ _ _ _ _ _ _ rfl T.b_range (ae∘ab) ∅) (@aq _ _ _ 2 _ nd rfl ↥3 (by trivial)) (@ag _ _ _ _ _ _ _ _ (@aE _ _ _ _ _ 3 _ _ nd rfl ↥3 (@aG _ _ _ _ _ _ _ _ _ _ _ _ _ _ _ RK Tb (hr.mono ⋯) ((¬1)∘(ae∘(ae∘ab))) ∅ ⋯ ∅ ∅) ∅ (by trivial)) (@ag _ _ _ _ _ _ _ _ (@aE _ _ _ _ _ 4 _ _ nd rfl ↥3 (@yz _ _ _ _ _ _ _ _ (@pU _ _ _ _ _ _ _ _ _ (@qs _ _ _ rfl hr) (¬2) ae (aP _)) (@yA _ _ _ _ _ _ (@pU _ _ _ _ _ _ _ _ _ (@qs _ _ _ rfl hr) (@bu _ _ _ _ _ _ _ (@aG _ _ _ _ _ _ _ _ _ _ _ _ _ _ _ Pe Pf (hr.mono ⋯) ((¬1)∘ab) ∅ ⋯ ∅ ∅) ae) ae (aP _)))) ∅ (by trivial)) (@ag _ _ _ _ _ _ _ _ (@df _ _ _ _ _ _ _ _ _ _ _ (@gJ _ _ _ _ (¬4) ↥5) (@aj _ _ _ _ _ (@aE _ _ _ _ _ 3 _ _ nd rfl ↥3 (@aG _ _ _ _ _ _ _ _ _ _ _ _ _ _ _ RL Tc (hr.mono ⋯) ((¬1)∘ab) ∅ ⋯ ∅ ∅) ∅ (by trivial))) (@bv _ _)) (@ag _ _ _ _ _ _ _ _ (@aE _ _ _ _ _ 5 _ _ nd rfl ↥3 (@aG _ _ _ _ _ _ _ _ _ _ _ _ _ _ _ Q3 SU (hr.mono ⋯) ((¬1)∘((¬3)∘((@FV _ _ _ _ _ (¬4))∘ab))) ∅ ⋯ ∅ ∅) ∅ (by trivial)) (@ag _ _ _ _ _ _ _ _ (@aE _ _ _ _ _ 6 _ _ nd rfl ↥3 (@aG _ _ _ _ _ _ _ _ _ _ _ _ _ _ _ Pn P0 (hr.mono ⋯) ((¬1)∘((¬5)∘ab)) ∅ ⋯ ∅ ∅) ∅ (by trivial)) (@ag _ _ _ _ _ _ _ _ (@aE _ _ _ _ _ 7 _ _ nd rfl ↥3 (@aG _ _ _ _ _ _ _ _ _ _ _ _ _ _ _ PF QQ (hr.mono ⋯) ((¬3)∘((¬5)∘ab)) ∅ ⋯ ∅ ∅) ∅ (by trivial)) (@ag _ _ _ _ _ _ _ _ (@aE _ _ _ _ _ 8 _ _ nd rfl ↥3 (@aG _ _ _ _ _ _ _ _ _ _ _ _ _ _ _ Pm PZ (hr.mono ⋯) ((¬3)∘((¬5)∘ab)) ∅ ⋯ ∅ ∅) ∅ (by trivial)) (@ag _ _ _ _ _ _ _ _ (@cZ _ _ _ _ _ _ _ _ _ _ _ UL rfl (@cf _ _ _ _ _ rfl (@bS _ _ _ _ _ ((@aG _ _ _ _ _ _ _ _ _ _ _ _ _ _ _ PM Qv (hr.mono ⋯) ((¬3)∘((¬5)∘ab)) ∅ ⋯ ∅ ∅)∘((@aG _ _ _ _ _ _ _ _ _ _ _ _ _ _ _ Px Qg (hr.mono ⋯) ((¬3)∘((¬5)∘ab)) ∅ ⋯ ∅ ∅)∘((@aG _ _ _ _ _ _ _ _ _ _ _ _ _ _ _ PM Qv (hr.mono ⋯) ((¬3)∘((¬6)∘ab)) ∅ ⋯ ∅ ∅)∘ab))))) (@aq _ _ _ 9 _ nd rfl ↥3 (by trivial)) (@aj _ _ _ _ _ (@df _ _ _ _ _ _ _ _ _ _ _ (@oO _ _ _ _ _ (@gJ _ _ _ _ (@aG _ _ _ _ _ _ _ _ _ _ _ _ _ _ _ Q4 SV (hr.mono ⋯) ((¬9)∘((¬7)∘ab)) ∅ ⋯ ∅ ∅) ↥5)) (@aj _ _ _ _ _ (@az _ _ _ _ _ (@dQ _ _ _ _ _))) (@bv _ _))) ↥5) (@ag _ _ _ _ _ _ _ _ (@df _ _ _ _ _ _ _ _ _ _ _ (@vM _ _ _ _ (@uA _ _ _ _ _ _ _ _ (@a9 _ _ _ _ _ _ _ _ _ (@qt _ _ _ rfl hr) (@aG _ _ _ _ _ _ _ _ _ _ _ _ _ _ _ PH QR (hr.mono ⋯) ((¬3)∘((¬5)∘((¬8)∘ab))) ∅ ⋯ ∅ ∅) (¬7) (aP _)) (@qP _ _ _ _ _ (@a9 _ _ _ _ _ _ _ _ _ (@qt _ _ _ rfl hr) (@aG _ _ _ _ _ _ _ _ _ _ _ _ _ _ _ Ph P6 (hr.mono ⋯) ((¬3)∘((¬6)∘ab)) ∅ ⋯ ∅ ∅) (@aG _ _ _ _ _ _ _ _ _ _ _ _ _ _ _ Ph P6 (hr.mono ⋯) ((¬3)∘((¬5)∘ab)) ∅ ⋯ ∅ ∅) (aP _))))) (@aj _ _ _ _ _ (@az _ _ _ _ _ (@dQ _ _ _ _ _))) (@bv _ _)) (@ag _ _ _ _ _ _ _ _ (@df _ _ _ _ _ _ _ _ _ _ _ (@vM _ _ _ _ (@uA _ _ _ _ _ _ _ _ (@a9 _ _ _ _ _ _ _ _ _ (@xE _ _) (@aG _ _ _ _ _ _ _ _ _ _ _ _ _ _ _ Pv Qm (hr.mono ⋯) ((¬3)∘((¬5)∘((¬8)∘ab))) ∅ ⋯ ∅ ∅) (@dQ _ _ _ _ _) (aP _)) (@qP _ _ _ _ _ (@a9 _ _ _ _ _ _ _ _ _ (@xE _ _) (@aG _ _ _ _ _ _ _ _ _ _ _ _ _ _ _ Po Qb (hr.mono ⋯) ((¬3)∘((¬5)∘((@aG _ _ _ _ _ _ _ _ _ _ _ _ _ _ _ Pj PQ (hr.mono ⋯) ((¬3)∘((¬5)∘ab)) ∅ ⋯ ∅ ∅)∘ab))) ∅ ⋯ ∅ ∅) (@dQ _ _ _ _ _) (aP _))))) (@aj _ _ _ _ _ (@az _ _ _ _ _ (@dQ _ _ _ _ _))) (@bv _ _)) (@ag _ _ _ _ _ _ _ _ (@df _ _ _ _ _ _ _ _ _ _ _ (@a9 _ _ _ _ _ _ _ _ _ (@xE _ _) (@aG _ _ _ _ _ _ _ _ _ _ _ _ _ _ _ Po Qb (hr.mono ⋯) ((¬3)∘((¬6)∘((@aG _ _ _ _ _ _ _ _ _ _ _ _ _ _ _ Pj PQ (hr.mono ⋯) ((¬3)∘((¬6)∘ab)) ∅ ⋯ ∅ ∅)∘ab))) ∅ ⋯ ∅ ∅) (@dQ _ _ _ _ _) (aP _)) (@aj _ _ _ _ _ (@az _ _ _ _ _ (@dQ _ _ _ _ _))) (@bv _ _)) (@aj _ _ _ _ _ (@df _ _ _ _ _ _ _ _ _ _ _ (@vM _ _ _ _ (@uw _ _ _ _ _ _ _ _ (@oO _ _ _ _ _ (@gJ _ _ _ _ (¬4) ↥5)) (@sX _ _ _ _ _ (@a9 _ _ _ _ _ _ _ _ _ (@qt _ _ _ rfl hr) (@aG _ _ _ _ _ _ _ _ _ _ _ _ _ _ _ Px Qg (hr.mono ⋯) ((¬3)∘((¬6)∘ab)) ∅ ⋯ ∅ ∅) (¬7) (aP _))))) (@aj _ _ _ _ _ (@az _ _ _ _ _ (@dQ _ _ _ _ _))) (@bv _ _)))))))))))))) ↥5) (@aj _ _ _ _ _ (@az _ _ _ _ _ (@dQ _ _ _ _ _))))))
local macro_rules|`(tactic|simp?[$ts,*])=>`(tactic|simp[$ts,*,et,mK,aC,kD,a_,dm,a8,dr,ky,sE,vL,aI,ay,si,ac,vC,dq,ah,aa,bH,aL,bA,l7,yS,l8,vU,iU,AC,jQ,xo,g_,gG,cS,bG,zL,gB,jx,ox,cW,bU,vh,yP,aO,am,af,aN,cK,aT,bC,yl,fm,gp,dH,jZ,j7,j5,j3,j2,iB,iA,iC,fF,iz,rT,gu,ms,rV,mx,j6,mv,mw,iE,iD,fH,iF,nG,md,cU,me,mf,rD,fD,fx,gq,j4,Ug,-Uv,-Uo,-Ux,-VQ,-Ul,-VB,-getElem?_pos,-Vs,rO,rM,rH,rG,rK,rL,rJ,rP])
theorem Ex{n k:Int}(h:0<k):0<=n%k:=Yb _ (XR h)
theorem Ey{n k:Int}(h:0<k):n%k<k:=Yc _ h
def nx:List Int->Int|[]=>0|d::_=>d
def jR(ds:List Int):Prop:=∀d∈ds,0<=d/\d<2147483648
theorem JV{ds:List Int}(h:jR ds):0<=nx ds/\nx ds<2147483648:=by cases ds with|nil=>exact⟨XS 0,by show(0:Int)<2147483648;decide⟩|cons d r=>exact h d ↥1
theorem Nv{ds:List Int}(h:jR ds):jR ds.tail:=λd hd=>h d (List.mem_of_mem_tail hd)
theorem LU(ds:List Int):bo [.l (ds.map .int)]=some (.d (.int (nx ds)),[.l (ds.tail.map .int)]):=by have hq:∀e:En,e[0]?=some (some (.l (ds.map .int)))->bR false e (.s 0) (.l [])=some (.d (.bool (ds.map PyData.int).isEmpty)):=λe he=>pC he (mS ds).1;cases ds with|nil=>simp?[bo,AO,hq,nx]|cons d r=>simp?[bo,AO,hq,nx]
theorem kz{ds:List Int}(hd:jR ds):∃(n:Int) (ds':List Int),bo [.l (ds.map .int)]=some (.d (.int n),[.l (ds'.map .int)])/\0<=n/\n<2147483648/\jR ds':=⟨nx ds,ds.tail,LU ds,(JV hd).1,(JV hd).2,Nv hd⟩
theorem CB(cell k:Int)(h0:0<=k)(h1:k<=1000):∃r,m_ [.d (.int cell),.d (.int k)]=some (.d (.int r),[.d (.int cell),.d (.int k)])/\0<=r/\r<2147483648:=by
 have a1:oF (cell%2147483647) 48271=true:=yk ⋯ ⋯;have a2:oF 7919 k=true:=Be ⋯ ⋯;have a3:oF (7919*k) k=true:=yk ↥0 ↥0;have a4:oF ((cell%2147483647*48271+7919*k*k+104729)%2147483647) ((cell%2147483647*48271+7919*k*k+104729)%2147483647)=true:=yk ↥0 ↥0;refine⟨_,by simp?[m_,BM,a',cC,a1,a2,a3,a4];rfl,?_,?_⟩;·lia
 ·lia
theorem xN{ds:List Int}(h:jR ds){r:Int}(h0:0<=r)(h1:r<2147483648):jR (ds++[r]):=λd hd=>by
 rcases TF hd with hd|hd;·exact h d hd
 ·simp at hd;subst hd;exact⟨h0,h1⟩
abbrev dE(ns ds:List Int)(v2 v3 v4:Option Sv):En:=[some (.d (.list (ns.map .int))),some (.l (ds.map .int)),v2,v3,v4]
inductive DI (ns:List Int) (i:Nat):En->Prop|mk{ds v2 v3 v4}(hd:jR ds) (hl:ds.length<=1000*i):DI ns i (dE ns ds v2 v3 v4)
inductive DJ (ns:List Int) (k cell:Int) (n i:Nat):En->Prop|mk{ds v4}(hd:jR ds) (hl:ds.length=n+i):DJ ns k cell n i (dE ns ds (some (.d (.int k))) (some (.d (.int cell))) v4)
inductive DW (ns:List Int) (k:Int) (v4:Option Sv) (n:Nat):En->Prop|mk{cell ds}(hc:0<=cell) (hd:jR ds) (hl:ds.length<=max n 900):DW ns k v4 n (dE ns ds (some (.d (.int k))) (some (.d (.int cell))) v4)
theorem Jg(ns:List Int)(hn:ns.length<=63):∃ds,pI [.d (.list (ns.map .int))]=some (.l (ds.map .int),[.d (.list (ns.map .int))])/\jR ds:=by
 have inner:∀(cell k:Int) (ds:List Int) (v4:Option Sv),0<=k->k<=63->jR ds->ds.length<=63000->∃ds' v4',(∀W,cH W m9 (af 4) kL (dE ns ds (some (.d (.int k))) (some (.d (.int cell))) v4)=some (.nx (dE ns ds' (some (.d (.int k))) (some (.d (.int cell))) v4')))/\jR ds'/\ds'.length=ds.length+12:=by
  intro cell k ds v4 k0 k1 hd hl;obtain⟨e',h1,h2⟩:=cB (own:=[]) (g:=af 4) (f:=kL) (DJ ns k cell ds.length) (bP 0 12) 0 (dE ns ds (some (.d (.int k))) (some (.d (.int cell))) v4) (λi x e hx hI=>by
   obtain⟨rfl,hi⟩:=dS hx;obtain⟨hd',hl'⟩:=hI;rename_i ds' v4';obtain⟨r1,c1,_,_⟩:=CB cell (3*(0+(i:Int))+1) ↥0 ↥0;obtain⟨r2,c2,c3,c4⟩:=CB r1 (0+(i:Int)+k+2) ↥0 ↥0;have a1:oF 3 (0+(i:Int))=true:=Be ⋯ ⋯;refine⟨_,dE ns (ds'++[r2]) (some (.d (.int k))) (some (.d (.int cell))) (some (.d (.int (0+(i:Int))))),rfl,?_,aV,.mk (xN hd' c3 c4) ↥7⟩;have hlen:ds'.length<1000000:=by lia
   simp only[Int.zero_add]at a1 c1 c2;simp?[dE,kL,c1,c2,cC,a1,hlen]) (.mk hd rfl);obtain⟨hd',hl'⟩:=h2;rename_i ds' v4';rw[ij]at hl';refine⟨ds',v4',λW=>?_,hd',by lia⟩;rw[cx (show m9 _=some (bP 0 12,[],_) from eY (n:=12) rfl ⋯ ⋯)];exact h1
 have wh:∀(cell k:Int) (ds:List Int) (v4:Option Sv),0<=cell->jR ds->ds.length<=63100->∃cell' ds',eZ (2^4200) jk m4 (dE ns ds (some (.d (.int k))) (some (.d (.int cell))) v4)=some (.nx (dE ns ds' (some (.d (.int k))) (some (.d (.int cell'))) v4))/\0<=cell'/\jR ds'/\ds'.length<=max ds.length 900:=by
  intro cell k ds v4 hc hd hl;have tst:∀(cell:Int) (ds:List Int),jk (dE ns ds (some (.d (.int k))) (some (.d (.int cell))) v4)=some (decide (1000000000000000000<=cell)&&decide ((ds.length:Int)<900),dE ns ds (some (.d (.int k))) (some (.d (.int cell))) v4):=by
   intro cell ds;by_cases h:(1000000000000000000:Int)<=cell;·simp?[dE,jk,pE,pT,h]
   ·simp?[dE,jk,pE,pT,h]
  obtain⟨e0,e',h1,hI,h3⟩:=fg (ft:=jk) (f:=m4) (DW ns k v4 ds.length) (λe=>1000000-gZ 1 e) (λe hI=>by
   obtain⟨hc',hd',hl'⟩:=hI;rename_i cell' ds';rw[tst];by_cases c1:(1000000000000000000:Int)<=cell'
   ·by_cases c2:(ds'.length:Int)<900
    ·refine .inr ⟨_,dE ns (ds'++[cell'%2147483629]) (some (.d (.int k))) (some (.d (.int (cell'/2147483629)))) v4,by rw[decide_eq_true c1,decide_eq_true c2];rfl,?_,.mk ↥0 (xN hd' ↥0 ↥0) ↥7,?_⟩
     ·have hlen:ds'.length<1000000:=by lia
      have b8:Bt 8000 2147483629:=qq ⋯ ⋯;simp?[dE,m4,a',jl,b8,hlen]
     ·simp[gZ,dE];lia
    ·exact .inl ⟨_,by rw[decide_eq_true c1,decide_eq_false c2];rfl,trivial⟩
   ·exact .inl ⟨_,by rw[decide_eq_false c1];rfl,trivial⟩) (2^4200) _ (.mk hc hd ↥0) (lK (m:=20) (YK (Nat.sub_le _ _) ⋯) ⋯);obtain⟨hc',hd',hl'⟩:=hI;rename_i cell' ds';rw[tst]at h3;have h4:=(Prod.mk.inj (UH h3)).2;subst h4;exact⟨cell',ds',h1,hc',hd',hl'⟩
 have turn:∀(i:Nat) (ds:List Int) (v3 v4:Option Sv) (hi:i<ns.length),jR ds->ds.length<=1000*i->∃ds2 v3' v4',jj (dE ns ds (some (.d (.int (i:Int)))) v3 v4)=some (.nx (dE ns ds2 (some (.d (.int (i:Int)))) v3' v4'))/\jR ds2/\ds2.length<=1000*(i+1):=by
  intro i ds v3 v4 hi hd hl;have hcell:atI (ns.map PyData.int) (i:Int)=some (.int ns[i]):=by rw[hX ↥0 (by rw[Uq];lia)];simp[hi]
  have c0:(0:Int)<=(ns[i].natAbs:Int):=by lia
  have st:a8 3 (aL (g1 AZ) (aa (ay bF (ac 0) (ac 2)) ah)) (dE ns ds (some (.d (.int (i:Int)))) v3 v4)=some (.nx (dE ns ds (some (.d (.int (i:Int)))) (some (.d (.int (ns[i].natAbs:Int)))) v4)):=by simp?[dE,hcell]
  generalize (ns[i].natAbs:Int)=cell at c0 st;have mid:∃ds1 v4',kD (aI (ay DT (ac 3) (ay A0 (vC (.int 10)) (vC (.int 18))))) (cH ([4]++[]) m9 (af 4) kL) dm (dE ns ds (some (.d (.int (i:Int)))) (some (.d (.int cell))) v4)=some (.nx (dE ns ds1 (some (.d (.int (i:Int)))) (some (.d (.int cell))) v4'))/\jR ds1/\ds1.length<=ds.length+12:=by
   by_cases cb:cell<1000000000000000000;·obtain⟨ds1,v4',f1,f2,f3⟩:=inner cell (i:Int) ds v4 ↥0 ↥0 hd ↥0;refine⟨ds1,v4',?_,f2,by lia⟩;rw[J6 (e1:=dE ns ds (some (.d (.int (i:Int)))) (some (.d (.int cell))) v4) (by simp?[dE,pE,pT,cb])];exact f1 _
   ·refine⟨ds,v4,?_,hd,by lia⟩;rw[J5 (e1:=dE ns ds (some (.d (.int (i:Int)))) (some (.d (.int cell))) v4) (by simp?[dE,pE,pT,cb])];rfl
  obtain⟨ds1,v4',m1,m2,m3⟩:=mid;obtain⟨cell2,ds2,w1,w2,w3,w4⟩:=wh cell (i:Int) ds1 v4' c0 m2 ↥0;by_cases c2:(2147483629:Int)<=cell2
  ·refine⟨ds2++[cell2%2147483629],some (.d (.int cell2)),v4',?_,xN w3 ↥0 ↥0,by simp;lia⟩;have hlen:ds2.length<1000000:=by lia
   unfold jj;rw[eg st,eg m1,eg w1];simp?[dE,c2,a',hlen]
  ·refine⟨ds2,some (.d (.int cell2)),v4',?_,w3,by lia⟩;unfold jj;rw[eg st,eg m1,eg w1];simp?[dE,c2]
 obtain⟨e',h1,hI⟩:=cB (own:=[]) (g:=af 2) (f:=jj) (DI ns) (bP 0 (min (ns.length:Int) 63).toNat) 0 (dE ns [] none none none) (λi x e hx hI=>by obtain⟨rfl,hi⟩:=dS hx;obtain⟨hd,hl⟩:=hI;rename_i ds v2 v3 v4;rw[Vz]at hl⊢;obtain⟨ds2,v3',v4',t1,t2,t3⟩:=turn i ds v3 v4 ↥0 hd hl;exact⟨dE ns ds (some (.d (.int (i:Int)))) v3 v4,_,by simp[af,dE],t1,aV,.mk t2 t3⟩) (.mk (λd hd=>by cases hd) ↥1);obtain⟨hd,hl⟩:=hI;rename_i ds v2 v3 v4;refine⟨ds,?_,hd⟩;have hf:∀W,cH W qG (af 2) jj (dE ns [] none none none)=some (.nx (dE ns ds v2 v3 v4)):=λW=>by rw[cx (show qG _=some (bP 0 (min (ns.length:Int) 63).toNat,[],dE ns [] none none none) from eY (n:=min (ns.length:Int) 63) (by simp?[dE]) ↥0 ↥0)];exact h1
 unfold dE at hf;simp only[Uv]at hf;simp?[pI,BK,hf]
theorem Np(a b:Int)(hb:Bt 4000 b):zI [.d (.int a),.d (.int b)]=some (.d (.int (Uk a b)),[.d (.int a),.d (.int b)]):=by
 have tst:∀x y:Int,ph [some (.d (.int x)),some (.d (.int y))]=some (!(y==0),[some (.d (.int x)),some (.d (.int y))]):=λx y=>by simp?[ph]
 obtain⟨e0,e',h1,⟨x,y,he,hg,hy⟩,h3⟩:=fg (ft:=ph) (f:=sM) (λe=>∃x y,e=[some (.d (.int x)),some (.d (.int y))]/\Uk x y=Uk a b/\Bt 4000 y) (wU 1) (λe⟨x,y,he,hg,hy⟩=>by
  subst he;rw[tst];by_cases c:y=0;·subst c;exact .inl ⟨_,rfl,trivial⟩
  ·refine .inr ⟨_,[some (.d (.int y)),some (.d (.int (x.fmod y)))],by rw[beq_false_of_ne c];rfl,by simp?[sM,EF c],⟨y,x.fmod y,rfl,by rw[zy,hg],?_⟩,?_⟩;·have:=jY x c;exact Bt.of_le hy ↥0
   ·have:=jY x c;simpa[wU]using this) (2^4200) _ ⟨a,b,rfl,rfl,hb⟩ (lK (m:=4000) (by simpa[wU,Bt]using hb) ⋯);subst he;rw[tst]at h3;have h4:=Prod.mk.inj (UH h3);have hy0:y=0:=by simpa using h4.1
 subst hy0;have h5:=h4.2;subst h5;have hs:eZ (2^4200) ph sM [some (.d (.int a)),some (.d (.int b))]=some (.nx [some (.d (.int x)),some (.d (.int 0))]):=h1;have hg':(x.natAbs:Int)=(Uk a b:Int):=by rw[<-hg];simp
 simp only[zI,JA,et,mK,aC,kD,a_,dm,a8,dr,ky,sE,vL,aI,ay,si,ac,vC,dq,ah,aa,bH,aL,bA,l7,yS,l8,vU,iU,AC,jQ,xo,g_,gG,cS,bG,zL,gB,jx,ox,cW,bU,vh,yP,aO,am,af,aN,cK,aT,bC,yl,fm,gp,dH,jZ,j7,j5,j3,j2,iB,iA,iC,fF,iz,rT,gu,ms,rV,mx,j6,mv,mw,iE,iD,fH,iF,nG,md,cU,me,mf,rD,fD,fx,gq,j4,Ug,-Uv,-Uo,-Ux,-VQ,-Ul,-VB,-getElem?_pos,-Vs,rO,rM,rH,rG,rK,rL,rJ,rP];simp?[hs,hg']
theorem CA(t b:Int)(hb:0<b)(h:Bt 4000 b):nK [.d (.int t),.d (.int b)]=some (.d (.tuple [.int (lowM t b).1,.int (lowM t b).2]),[.d (.int t),.d (.int b)]):=by
 have g0:=xR (t:=t) (b:=b) ↥0;have g1:(Uk t b:Int)≠0:=by lia
 have g8:Bt 8000 (Uk t b:Int):=(EG (t:=t) ↥0 h).mono ⋯;have e:lowM t b=(t.fdiv (Uk t b:Int),b.fdiv (Uk t b:Int)):=by unfold lowM;rw[if_neg ↥0]
 rw[e];simp?[nK,JB,Np t b h,BY g1 g8]
theorem JG{i:Int}{n:Nat}(h1:-2147483648<i)(h2:i<2147483648)(hn:31<=n):Bt n i:=Bt.mono (m:=31) (by unfold Bt;lia) hn
def Er(t b:Int):Prop:=0<=t/\t<=b/\1<=b/\b<=100/\Uk t b=1
theorem Au(n k:Int)(hn:0<=n):∃t b,eG [.d (.int n),.d (.int k)]=some (.d (.tuple [.int t,.int b]),[.d (.int n),.d (.int k)])/\Er t b:=by
 have b9:Bt 8000 9:=qq ⋯ ⋯;have b100:Bt 8000 100:=qq ⋯ ⋯;have low:∀t b:Int,0<b->0<=t->t<=b->b<=100->Er (lowM t b).1 (lowM t b).2:=λt b hb h0 h1 h2=>by obtain⟨r1,r2,r3,r4⟩:=Bb hb h0 h1 h2;exact⟨r1,r2,r3,r4,kY ↥0⟩
 by_cases c0:k=0
 ·subst c0;obtain⟨x,hx,ha⟩:=og (xs:=[PyData.tuple [.int 1,.int 2],.tuple [.int 1,.int 3],.tuple [.int 2,.int 3],.tuple [.int 1,.int 1],.tuple [.int 0,.int 1],.tuple [.int 3,.int 4]]) (i:=n%6) ↥0 ↥7;obtain⟨t,b,rfl,hc⟩:∃t b,x=.tuple [.int t,.int b]/\Er t b:=by simp only[Uy,UK,or_false]at hx;rcases hx with rfl|rfl|rfl|rfl|rfl|rfl<;>exact⟨_,_,rfl,by unfold Er;decide⟩
  exact⟨t,b,by simp?[eG,mh,a',ha],hc⟩
 ·by_cases c1:k=1;·subst c1;have hm:(n/9)%(2+n%9-1)<2+n%9-1:=Yc _ ↥0;have hm0:0<=(n/9)%(2+n%9-1):=Yb _ ↥0;refine⟨_,_,?_,low (1+(n/9)%(2+n%9-1)) (2+n%9) ↥0 ↥0 ↥0 ↥0⟩;have hpos:∀e:En,bx e (.d (.int (n/9))) (.d (.int (2+n%9-1)))=_:=λe=>a' ↥0;have hl:=CA (1+(n/9)%(2+n%9-1)) (2+n%9) ↥0 (JG ↥0 ↥0 ⋯);simp?[eG,mh,a',jl,b9,hpos,hl]
  ·by_cases c2:k=2;·subst c2;have hm:(n/100)%(1+n%100+1)<1+n%100+1:=Yc _ ↥0;have hm0:0<=(n/100)%(1+n%100+1):=Yb _ ↥0;refine⟨_,_,?_,low ((n/100)%(1+n%100+1)) (1+n%100) ↥0 ↥0 ↥0 ↥0⟩;have hpos:∀e:En,bx e (.d (.int (n/100))) (.d (.int (1+n%100+1)))=_:=λe=>a' ↥0;have hl:=CA ((n/100)%(1+n%100+1)) (1+n%100) ↥0 (JG ↥0 ↥0 ⋯);simp?[eG,mh,a',jl,b100,hpos,hl]
   ·refine⟨1,1,?_,by unfold Er;decide⟩;simp?[eG,mh,c0,c1,c2]
theorem Jk(n k:Int):∃r,pL [.d (.int n),.d (.int k)]=some (.d (.int r),[.d (.int n),.d (.int k)])/\0<=r/\r<=1000:=by
 obtain⟨x,hx,ha⟩:=og (xs:=[PyData.int (n%7),.int (5+n%2),.int (n%1001),.int (1000-n%3)]) (i:=k%4) ↥0 ↥7;obtain⟨r,rfl,hr⟩:∃r,x=.int r/\0<=r/\r<=1000:=by simp only[Uy,UK,or_false]at hx;rcases hx with rfl|rfl|rfl|rfl<;>exact⟨_,rfl,by lia,by lia⟩
 exact⟨r,by simp?[pL,BO,a',ha],hr⟩
abbrev tE(ds:List Int)(things many shape odds ws:Int)(ts:List kd)(v7 v8 v9 v10 v11 v12:Option Sv):En:=[some (.l (ds.map .int)),some (.d (.int things)),some (.d (.int many)),some (.d (.int shape)),some (.d (.int odds)),some (.d (.int ws)),some (.l (ts.map bi)),v7,v8,v9,v10,v11,v12]
inductive TR (things many shape odds ws:Int) (ts:List kd) (k:Option Sv):En->Prop|mk{t ds w8 w9 w10 w11 w12}(hd:jR ds) (ht:t.Ok things):TR things many shape odds ws ts k (tE ds things many shape odds ws (ts++[t]) k w8 w9 w10 w11 w12)
inductive TI (things many a b c:Int) (i:Nat):En->Prop|mk{ts ds w7 w8 w9 w10 w11 w12}(hd:jR ds) (hl:ts.length=i) (ht:∀t∈ts,t.Ok things):TI things many a b c i (tE ds things many a b c ts w7 w8 w9 w10 w11 w12)
theorem Nt(ds:List Int)(things many shape odds ws:Int)(ts:List kd)(k:Int)(v8 v9 v10 v11 v12:Option Sv)(hd:jR ds)(h2:2<=things)(h12:things<=100)(s0:0<=shape)(s1:shape<6)(k0:0<=k)(hl:ts.length<=1000):∃e',kN (tE ds things many shape odds ws ts (some (.d (.int k))) v8 v9 v10 v11 v12)=some (.nx e')/\TR things many shape odds ws ts (some (.d (.int k))) e':=by
 obtain⟨n,d1,tn,-,-,hd1⟩:=kz hd;obtain⟨m,d2,tm,m0,-,hd2⟩:=kz hd1;obtain⟨x,hx,ha⟩:=og (xs:=[PyData.int (n%things),.int 0,.int (k%things),.int (n%things),.int (n%2),.int (n%things)]) (i:=shape) s0 ↥7;have tp:0<things:=YX ⋯ h2;have tq:0<things-1:=Int.sub_pos_of_lt (YX ⋯ h2);have nt:0<=n%things/\n%things<things:=⟨Ex tp,Ey tp⟩;have kt:0<=k%things/\k%things<things:=⟨Ex tp,Ey tp⟩;obtain⟨one,rfl,o0,o1⟩:∃r,x=.int r/\0<=r/\r<things:=by simp only[Uy,UK,or_false]at hx;rcases hx with rfl|rfl|rfl|rfl|rfl|rfl<;>exact⟨_,rfl,by lia,by lia⟩
 have r0:0<=(n/12)%(things-1):=Ex tq;have r1:(n/12)%(things-1)<things-1:=Ey tq;have q0:0<=(one+1+(n/12)%(things-1))%things:=Ex tp;have q1:(one+1+(n/12)%(things-1))%things<things:=Ey tp;have qn:(one+1+(n/12)%(things-1))%things≠one:=λz=>by
  by_cases c:one+1+(n/12)%(things-1)<things;·rw[Int.emod_eq_of_lt ↥0 c]at z;lia
  ·have e:(one+1+(n/12)%(things-1))%things=(one+1+(n/12)%(things-1)-things)%things:=by rw[Int.sub_emod_right]
   rw[e,Int.emod_eq_of_lt ↥0 ↥0]at z;lia
 obtain⟨t,b,c1,c2,c3,c4,c5,c6⟩:=Au m odds m0;obtain⟨w,w1,w2,w3⟩:=Jk (m/10007) ws;have b12:Bt 8000 12:=qq ⋯ ⋯;have b107:Bt 8000 10007:=qq ⋯ ⋯;have g1:∀(e:En) (i:Int),bx e (.d (.int i)) (.d (.int things))=some (.d (.int (i%things))):=λe i=>a' tp;have g2:∀(e:En) (i:Int),bx e (.d (.int i)) (.d (.int (things-1)))=some (.d (.int (i%(things-1)))):=λe i=>a' tq;have hlen:ts.length<1000000:=by lia
 by_cases c:shape=4;·subst c;refine⟨tE d2 things many 4 odds ws (ts++[⟨0,1,t,b,w⟩]) (some (.d (.int k))) (some (.d (.int n))) (some (.d (.int 0))) (some (.d (.int 1))) (some (.d (.int m))) (some (.d (.tuple [.int 0,.int 1]))),?_,.mk hd2 ⟨by show(0:Int)<=0;decide,by show(0:Int)<1;decide,by show(1:Int)<things;lia,c2,c3,c4,c5,w2,w3,c6⟩⟩;simp?[tE,kN,tn,tm,a',g1,g2,jl,b12,b107,ha,c1,w1,qz,bi,hlen];decide
 ·refine⟨tE d2 things many shape odds ws (ts++[⟨min one ((one+1+(n/12)%(things-1))%things),max one ((one+1+(n/12)%(things-1))%things),t,b,w⟩]) (some (.d (.int k))) (some (.d (.int n))) (some (.d (.int one))) (some (.d (.int ((one+1+(n/12)%(things-1))%things)))) (some (.d (.int m))) (some (.d (.tuple [.int (min one ((one+1+(n/12)%(things-1))%things)),.int (max one ((one+1+(n/12)%(things-1))%things))]))),?_,.mk hd2 ⟨by show 0<=min _ _;lia,by show min _ _<max _ _;lia,by show max _ _<_;lia,c2,c3,c4,c5,w2,w3,c6⟩⟩;simp?[tE,kN,tn,tm,a',g1,g2,jl,b12,b107,ha,c1,w1,qz,bi,hlen,c]
theorem GK(ds:List Int)(things many:Int)(hd:jR ds)(h2:2<=things)(h12:things<=100)(m0:0<=many)(m1:many<=1000):∃(ts:List kd) (ds':List Int),oE [.l (ds.map .int),.d (.int things),.d (.int many)]=some (.d (.tuple (ts.map bi)),[.l (ds'.map .int),.d (.int things),.d (.int many)])/\jR ds'/\(ts.length:Int)=many/\∀t∈ts,t.Ok things:=by
 obtain⟨n0,d1,t0,-,-,hd1⟩:=kz hd;obtain⟨n1,d2,t1,-,-,hd2⟩:=kz hd1;obtain⟨n2,d3,t2,-,-,hd3⟩:=kz hd2;obtain⟨e',h1,hI⟩:=cB (own:=[]) (g:=af 7) (f:=kN) (TI things many (n0%6) (n1%4) (n2%4)) (bP 0 many.toNat) 0 (tE d3 things many (n0%6) (n1%4) (n2%4) [] none none none none none none) (λi x e hx hI=>by obtain⟨rfl,hi⟩:=dS hx;obtain⟨hd',hl,ht⟩:=hI;rename_i ts ds' w7 w8 w9 w10 w11 w12;obtain⟨e9,s1,⟨s2,s3⟩⟩:=Nt ds' things many (n0%6) (n1%4) (n2%4) ts (0+(i:Int)) w8 w9 w10 w11 w12 hd' h2 h12 (Ex ⋯) (Ey ⋯) ↥0 ↥0;exact⟨_,_,rfl,s1,aV,.mk s2 ↥7 λz hz=>by
  rcases TF hz with hz|hz;·exact ht z hz
  ·simp at hz;subst hz;exact s3⟩) (.mk hd3 rfl λt ht=>by cases ht);obtain⟨hd',hl,ht⟩:=hI;rename_i ts ds' w7 w8 w9 w10 w11 w12;refine⟨ts,ds',?_,hd',by rw[hl,ij];lia,ht⟩;have hf:∀W,cH W tX (af 7) kN (tE d3 things many (n0%6) (n1%4) (n2%4) [] none none none none none none)=some (.nx (tE ds' things many (n0%6) (n1%4) (n2%4) ts w7 w8 w9 w10 w11 w12)):=λW=>by rw[cx (show tX _=some (bP 0 many.toNat,[],tE d3 things many (n0%6) (n1%4) (n2%4) [] none none none none none none) from eY (n:=many) (by simp?[tE]) ↥0 ↥0)];exact h1
 unfold tE at hf;simp only[Uv]at hf;simp?[oE,Ec,t0,t1,t2,a',hf]
abbrev wE(ds:List Int)(most tn things many:Int)(ts:List kd)(way:Int)(ps:List Int)(v8 v9:Option Sv):En:=[some (.l (ds.map .int)),some (.d (.int most)),some (.d (.int tn)),some (.d (.int things)),some (.d (.int many)),some (.d (.tuple (ts.map bi))),some (.d (.int way)),some (.l (ps.map .int)),v8,v9]
inductive WI (most tn things many:Int) (ts:List kd) (way:Int) (i:Nat):En->Prop|mk{ps ds w8}(hd:jR ds) (hpl:ps.length=i) (hps:∀p∈ps,0<=p/\p<=20):WI most tn things many ts way i (wE ds most tn things many ts way ps w8 none)
theorem Nu(ds:List Int)(most tn:Int)(hd:jR ds)(m0:0<=most)(m1:most<=12)(k0:0<=tn)(k1:tn<=16):∃(W:aA) (ds':List Int),zK [.l (ds.map .int),.d (.int most),.d (.int tn)]=some (.d (ax W),[.l (ds'.map .int),.d (.int most),.d (.int tn)])/\jR ds'/\W.Ok/\W.things<=most/\(W.ties.length:Int)<=tn:=by
 obtain⟨n0,d1,t0,-,-,hd1⟩:=kz hd;obtain⟨n1,d2,t1,-,-,hd2⟩:=kz hd1;have mp:0<most+1:=Int.lt_add_one_of_le m0;have kp:0<tn+1:=Int.lt_add_one_of_le k0;have g0:∀(e:En),bx e (.d (.int n0)) (.d (.int (most+1)))=some (.d (.int (n0%(most+1)))):=λe=>a' mp;have g1':∀(e:En),bx e (.d (.int n1)) (.d (.int (tn+1)))=some (.d (.int (n1%(tn+1)))):=λe=>a' kp;have th0:0<=n0%(most+1):=Ex mp;have th1:n0%(most+1)<most+1:=Ey mp;have ti0:0<=n1%(tn+1):=Ex kp;have ti1:n1%(tn+1)<tn+1:=Ey kp;clear mp kp;generalize n0%(most+1)=things at th0 th1 g0;generalize n1%(tn+1)=tm at ti0 ti1 g1';obtain⟨many,hmany,mm,m00,m01⟩:∃many:Int,many=tm*(if decide (1<things)=true then 1 else 0)/\(1<things\/many=0)/\0<=many/\many<=tn:=by
  by_cases c:1<things;·exact⟨tm,by simp[c],.inl c,ti0,by lia⟩
  ·exact⟨0,by simp[c],.inr rfl,by lia,by lia⟩
 have gm:∀e:En,cL e (.d (.int tm)) (.d (.int (if decide (1<things)=true then 1 else 0)))=some (.d (.int many)):=λe=>by rw[cC (yk (by split<;>decide) (by split<;>decide)),hmany]
 have gi:∀e:En,g1 qC e [.d (.bool (decide (1<things)))]=some (.d (.int (if decide (1<things)=true then 1 else 0))):=λe=>rfl;generalize (if decide (1<things)=true then 1 else 0:Int)=one at gm gi;obtain⟨ts,d3,t3,hd3,hlen,hts⟩:=GK d2 (max 2 things) many hd2 ↥0 ↥0 m00 ↥0;obtain⟨n4,d4,t4,-,-,hd4⟩:=kz hd3;obtain⟨e',h1,hI⟩:=cB (own:=[]) (g:=af 8) (f:=sN) (WI most tn things many ts (n4%3)) (bP 0 things.toNat) 0 (wE d4 most tn things many ts (n4%3) [] none none) (λi x e hx hI=>by
  obtain⟨rfl,hi⟩:=dS hx;obtain⟨hd5,hpl,hps⟩:=hI;rename_i ps d5 w8;obtain⟨p1,d6,t6,-,-,hd6⟩:=kz hd5;obtain⟨p2,d7,t7,-,-,hd7⟩:=kz hd6;obtain⟨z,hz,ha⟩:=og (xs:=[PyData.int 20,.int (1+p1%3),.int (p2%21)]) (i:=n4%3) (Ex ⋯) (Ey (k:=3) ⋯);obtain⟨p,rfl,hp⟩:∃r,z=.int r/\0<=r/\r<=20:=by simp only[Uy,UK,or_false]at hz;rcases hz with rfl|rfl|rfl<;>exact⟨_,rfl,by lia,by lia⟩
  refine⟨wE d5 most tn things many ts (n4%3) ps (some (.d (.int (0+(i:Int))))) none,wE d7 most tn things many ts (n4%3) (ps++[p]) (some (.d (.int (0+(i:Int))))) none,rfl,?_,aV,.mk hd7 ↥7 λq hq=>by
   rcases TF hq with hq|hq;·exact hps q hq
   ·simp at hq;subst hq;exact hp⟩;have hlen:ps.length<1000000:=by lia
  simp?[wE,sN,t6,t7,a',ha,hlen]) (.mk hd4 rfl λp hp=>by cases hp);obtain⟨hd5,hpl,hps⟩:=hI;rename_i ps d5 w8;have hf:∀W,cH W xU (af 8) sN (wE d4 most tn things many ts (n4%3) [] none none)=some (.nx (wE d5 most tn things many ts (n4%3) ps w8 none)):=λW=>by rw[cx (show xU _=some (bP 0 things.toNat,[],wE d4 most tn things many ts (n4%3) [] none none) from eY (n:=things) (by simp?[wE]) ↥0 ↥0)];exact h1
 obtain⟨p1,d6,t6,-,-,hd6⟩:=kz hd5;obtain⟨p2,d7,t7,-,-,hd7⟩:=kz hd6;obtain⟨p3,d8,t8,-,-,hd8⟩:=kz hd7;have xp:0<max 1 many:=YX Wx (Int.le_max_left _ _);have gx:∀(e:En),bx e (.d (.int p1)) (.d (.int (max 1 many)))=some (.d (.int (p1%max 1 many))):=λe=>a' xp;have x0:0<=p1%max 1 many:=Ex xp;have x1:p1%max 1 many<max 1 many:=Ey xp;obtain⟨z,hz,ha⟩:=og (xs:=[PyData.int 40,.int (1+p1%max 1 many),.int (p2%41)]) (i:=p3%3) (Ex ⋯) (Ey (k:=3) ⋯);obtain⟨asks,rfl,hasks⟩:∃r,z=.int r/\0<=r/\r<=40:=by simp only[Uy,UK,or_false]at hz;rcases hz with rfl|rfl|rfl<;>exact⟨_,rfl,by lia,by lia⟩
 rw[ij]at hpl;refine⟨⟨things,ts,ps,asks⟩,d8,?_,hd8,⟨th0,by show things<=12;lia,λt ht=>?_,by show ts.length<=16;lia,by show(ps.length:Int)=things;lia,hps,hasks.1,hasks.2⟩,by show things<=most;lia,by show(ts.length:Int)<=tn;lia⟩;·unfold wE at hf;simp only[Uv]at hf;simp?[zK,JD,t0,t1,g0,g1',gm,gi,t3,t4,a',hf,t6,t7,t8,gx,ha,ax]
 ·rcases mm with c|c;·have:=hts t ht;rw[show max 2 things=things by lia]at this;exact this
  ·have:ts=[]:=Yl.mp ↥0;subst this;cases ht
theorem xj{W:aA}{asked:List Int}{thing:Int}(h:∀k∈asked,kc W k)(hl:asked.length<=1000):jm [.d (ax W),.d (.tuple (asked.map .int)),.d (.int thing)]=some (.d (.int (W.many asked thing)),[.d (ax W),.d (.tuple (asked.map .int)),.d (.int thing)]):=by
 let cs:En:=[some (.d (.int thing)),some (.d (ax W))];have hc:∀x∈asked.map PyData.int,iu (cs++[some (.d x)])=some (Bj (λk=>W.has k thing) x,cs++[some (.d x)]):=λx hx=>by obtain⟨k,hk,rfl⟩:=TH hx;simp?[Bj,cs,iu,ax,fU (h k hk),bi,aA.has]
 have he:∀x∈asked.map PyData.int,Bj (λk=>W.has k thing) x=true->iy (cs++[some (.d x)])=some (.d (id x),cs++[some (.d x)]):=λx hx _=>by simp?[cs,iy]
 obtain⟨t',hf⟩:=bI (cs:=cs) (ft:=iu) (fe:=iy) (b:=Bj (λk=>W.has k thing)) (y:=id) (asked.map PyData.int) none [] hc he ↥7;have hv:=dg (cp:=[(2,"_law_thing"),(0,"_law_web_here")]) (nT:=1) (fi:=rX) (g:=af 2) (ft:=iu) (fe:=iy) (e:=[some (.d (ax W)),some (.d (.tuple (asked.map PyData.int))),some (.d (.int thing))]) (cs:=cs) (t:=[none]) (t':=[t']) (lF (fa:=ac 1) rfl) rfl rfl hf;have hlen:(([]++List.map id (List.filter (Bj (λk=>W.has k thing)) (asked.map PyData.int))).length:Int)=W.many asked thing:=by unfold aA.many;simp[Yv];rfl
 simp only[jm,v_,et,mK,aC,kD,a_,dm,a8,dr,ky,sE,vL,aI,ay,si,ac,vC,dq,ah,aa,bH,aL,bA,l7,yS,l8,vU,iU,AC,jQ,xo,g_,gG,cS,bG,zL,gB,jx,ox,cW,bU,vh,yP,aO,am,af,aN,cK,aT,bC,yl,fm,gp,dH,jZ,j7,j5,j3,j2,iB,iA,iC,fF,iz,rT,gu,ms,rV,mx,j6,mv,mw,iE,iD,fH,iF,nG,md,cU,me,mf,rD,fD,fx,gq,j4,Ug,-Uv,-Uo,-Ux,-VQ,-Ul,-VB,-getElem?_pos,-Vs,rO,rM,rH,rG,rK,rL,rJ,rP];simp?[hv];simpa using hlen
theorem Fo{W:aA}(ok:W.Ok){thing:Int}(h0:0<=thing)(h1:thing<W.things):atI (W.pat.map PyData.int) thing=some (.int (W.pat.getD thing.toNat 0)):=D8 h0 (by have:=ok.pl;lia)
theorem Nq{W:aA}(ok:W.Ok){asked taken:List Int}{k:Int}(h:∀k∈asked,kc W k)(hl:asked.length<=1000)(hk:kc W k):pK [.d (ax W),.d (qu asked taken),.d (.int k)]=some (.d (.bool (W.may asked taken k)),[.d (ax W),.d (qu asked taken),.d (.int k)]):=by
 have tk:=hk.ok ok;have t0:=tk.o0;have t1:=tk.o1;have t2:=tk.o2;have p1:=Fo ok (thing:=(W.tie k).one) ↥0 ↥0;have p2:=Fo ok (thing:=(W.tie k).other) ↥0 ↥0;have a1:=xj (W:=W) (asked:=asked) (thing:=(W.tie k).one) h hl;have a2:=xj (W:=W) (asked:=asked) (thing:=(W.tie k).other) h hl;rw[cA]at a1 a2⊢;unfold aA.may aA.bears;by_cases c1:asked.contains k=true;·simp?[pK,wa,qu,c1];simp at c1;simp[c1]
 ·by_cases c2:W.asks<=(asked.length:Int)
  ·have c1':k∉asked:=by simpa using c1
   simp?[pK,wa,qu,c1',c2]
  ·have c1':k∉asked:=by simpa using c1
   have turn:∀(thing:Int) (v5:Option Sv),jm [.d (.tuple [.int W.things,.tuple (W.ties.map bi),.tuple (W.pat.map .int),.int W.asks]),.d (.tuple (asked.map .int)),.d (.int thing)]=some (.d (.int (W.many asked thing)),[.d (.tuple [.int W.things,.tuple (W.ties.map bi),.tuple (W.pat.map .int),.int W.asks]),.d (.tuple (asked.map .int)),.d (.int thing)])->atI (W.pat.map PyData.int) thing=some (.int (W.pat.getD thing.toNat 0))->lw [some (.d (.tuple [.int W.things,.tuple (W.ties.map bi),.tuple (W.pat.map .int),.int W.asks])),some (.d (qu asked taken)),some (.d (.int k)),some (.d (.tuple (asked.map .int))),some (.d (.tuple (taken.map .int))),some (.d (.int thing))]=(if (!taken.contains thing&&decide (W.many asked thing<W.pat.getD thing.toNat 0))=true then some (.nx [some (.d (.tuple [.int W.things,.tuple (W.ties.map bi),.tuple (W.pat.map .int),.int W.asks])),some (.d (qu asked taken)),some (.d (.int k)),some (.d (.tuple (asked.map .int))),some (.d (.tuple (taken.map .int))),some (.d (.int thing))]) else some (.rt (.d (.bool false)) [some (.d (.tuple [.int W.things,.tuple (W.ties.map bi),.tuple (W.pat.map .int),.int W.asks])),some (.d (qu asked taken)),some (.d (.int k)),some (.d (.tuple (asked.map .int))),some (.d (.tuple (taken.map .int))),some (.d (.int thing))])):=by
    intro thing v5 ha hp;by_cases d1:taken.contains thing=true
    ·have d1':thing∈taken:=by simpa using d1
     simp?[lw,d1']
    ·have d1':thing∉taken:=by simpa using d1
     by_cases d2:W.many asked thing<W.pat.getD thing.toNat 0
     ·have d2':¬W.pat.getD thing.toNat 0<=W.many asked thing:=by lia
      simp only[Ur]at d2 d2' hp;simp?[lw,d1',ha,hp,d2,d2']
     ·have d2':W.pat.getD thing.toNat 0<=W.many asked thing:=by lia
      simp only[Ur]at d2 d2' hp;simp?[lw,d1',ha,hp,d2,d2']
   have u1:=turn (W.tie k).one none a1 p1;have u2:=turn (W.tie k).other none a2 p2;have hf:∀Wl,cH Wl B2 (af 5) lw [some (.d (.tuple [.int W.things,.tuple (W.ties.map bi),.tuple (W.pat.map .int),.int W.asks])),some (.d (qu asked taken)),some (.d (.int k)),some (.d (.tuple (asked.map .int))),some (.d (.tuple (taken.map .int))),none]=iX [] (af 5) lw [.int (W.tie k).one,.int (W.tie k).other] [some (.d (.tuple [.int W.things,.tuple (W.ties.map bi),.tuple (W.pat.map .int),.int W.asks])),some (.d (qu asked taken)),some (.d (.int k)),some (.d (.tuple (asked.map .int))),some (.d (.tuple (taken.map .int))),none]:=λWl=>by rw[cx];exact lF (by simp?[fU hk,bi])
   unfold qu at u1 u2 hf⊢;by_cases e1:(!taken.contains (W.tie k).one&&decide (W.many asked (W.tie k).one<W.pat.getD (W.tie k).one.toNat 0))=true
   ·by_cases e2:(!taken.contains (W.tie k).other&&decide (W.many asked (W.tie k).other<W.pat.getD (W.tie k).other.toNat 0))=true;·rw[if_pos e1]at u1;rw[if_pos e2]at u2;rw[e1,e2];simp only[pK,wa,et,mK,aC,kD,a_,dm,a8,dr,ky,sE,vL,aI,ay,si,ac,vC,dq,ah,aa,bH,aL,bA,l7,yS,l8,vU,iU,AC,jQ,xo,g_,gG,cS,bG,zL,gB,jx,ox,cW,bU,vh,yP,aO,am,af,aN,cK,aT,bC,yl,fm,gp,dH,jZ,j7,j5,j3,j2,iB,iA,iC,fF,iz,rT,gu,ms,rV,mx,j6,mv,mw,iE,iD,fH,iF,nG,md,cU,me,mf,rD,fD,fx,gq,j4,Ug,-Uv,-Uo,-Ux,-VQ,-Ul,-VB,-getElem?_pos,-Vs,rO,rM,rH,rG,rK,rL,rJ,rP];simp?[c1',c2,hf,iX,u1,u2,aV]
    ·rw[if_pos e1]at u1;rw[if_neg e2]at u2;rw[e1,Bool.not_eq_true _|>.mp e2];simp only[pK,wa,et,mK,aC,kD,a_,dm,a8,dr,ky,sE,vL,aI,ay,si,ac,vC,dq,ah,aa,bH,aL,bA,l7,yS,l8,vU,iU,AC,jQ,xo,g_,gG,cS,bG,zL,gB,jx,ox,cW,bU,vh,yP,aO,am,af,aN,cK,aT,bC,yl,fm,gp,dH,jZ,j7,j5,j3,j2,iB,iA,iC,fF,iz,rT,gu,ms,rV,mx,j6,mv,mw,iE,iD,fH,iF,nG,md,cU,me,mf,rD,fD,fx,gq,j4,Ug,-Uv,-Uo,-Ux,-VQ,-Ul,-VB,-getElem?_pos,-Vs,rO,rM,rH,rG,rK,rL,rJ,rP];simp?[c1',c2,hf,iX,u1,u2,aV]
   ·rw[if_neg e1]at u1;rw[Bool.not_eq_true _|>.mp e1];simp only[pK,wa,et,mK,aC,kD,a_,dm,a8,dr,ky,sE,vL,aI,ay,si,ac,vC,dq,ah,aa,bH,aL,bA,l7,yS,l8,vU,iU,AC,jQ,xo,g_,gG,cS,bG,zL,gB,jx,ox,cW,bU,vh,yP,aO,am,af,aN,cK,aT,bC,yl,fm,gp,dH,jZ,j7,j5,j3,j2,iB,iA,iC,fF,iz,rT,gu,ms,rV,mx,j6,mv,mw,iE,iD,fH,iF,nG,md,cU,me,mf,rD,fD,fx,gq,j4,Ug,-Uv,-Uo,-Ux,-VQ,-Ul,-VB,-getElem?_pos,-Vs,rO,rM,rH,rG,rK,rL,rJ,rP];simp?[c1',c2,hf,iX,u1,aV]
theorem As{W:aA}{asked taken:List Int}{k:Int}(truth:Bool)(hk:kc W k)(h1:asked.length<60)(h2:taken.length<60):iH [.d (ax W),.d (qu asked taken),.d (.int k),.d (.bool truth)]=some (.d (qu (aA.askd asked k) (W.took taken k truth)),[.d (ax W),.d (qu asked taken),.d (.int k),.d (.bool truth)]):=by
 have s1:∀e,g1 lE e [.d (.tuple (asked.map PyData.int++[.int k]))]=some (.l ((mT (asked++[k])).map .int)):=λe=>by have:=tW (e:=e) (ns:=asked++[k]) ↥7;simpa using this
 have s2:∀e,g1 lE e [.d (.tuple (taken.map PyData.int++[.int (W.tie k).one,.int (W.tie k).other]))]=some (.l ((mT (taken++[(W.tie k).one,(W.tie k).other])).map .int)):=λe=>by have:=tW (e:=e) (ns:=taken++[(W.tie k).one,(W.tie k).other]) ↥7;simpa using this
 have g1':∀e,cy e (.d (.tuple (asked.map .int))) (.d (.tuple [.int k]))=some (.d (.tuple (asked.map .int++[.int k]))):=λe=>qz ↥7;have g2':∀e,cy e (.d (.tuple (taken.map .int))) (.d (.tuple [.int (W.tie k).one,.int (W.tie k).other]))=some (.d (.tuple (taken.map .int++[.int (W.tie k).one,.int (W.tie k).other]))):=λe=>qz ↥7;rw[cA];cases truth with|true=>simp?[iH,tL,qu,fU hk,bi,g1',g2',s1,s2,aA.askd,aA.took]|false=>simp?[iH,tL,qu,g1',s1,aA.askd,aA.took]
theorem DG{W:aA}(ok:W.Ok){asked taken:List Int}(h:∀k∈asked,kc W k)(hl:asked.length<=1000):kZ [.d (ax W),.d (qu asked taken)]=some (.l ((W.can asked taken).map .int),[.d (ax W),.d (qu asked taken)]):=by
 let cs:En:=[some (.d (ax W)),some (.d (qu asked taken))];have wl:=ok.len;have hc:∀x∈bP 0 W.ties.length,ir (cs++[some (.d x)])=some (Bj (λk=>W.may asked taken k) x,cs++[some (.d x)]):=λx hx=>by obtain⟨i,hi⟩:=We hx;obtain⟨rfl,hi⟩:=dS hi;have:=Nq ok (taken:=taken) h hl (k:=0+(i:Int)) ⟨by lia,by lia⟩;simp only[Int.zero_add]at this;simp?[Bj,cs,ir,this]
 have he:∀x∈bP 0 W.ties.length,Bj (λk=>W.may asked taken k) x=true->iw (cs++[some (.d x)])=some (.d (id x),cs++[some (.d x)]):=λx hx _=>by simp?[cs,iw]
 obtain⟨t',hf⟩:=bI (cs:=cs) (ft:=ir) (fe:=iw) (b:=Bj (λk=>W.may asked taken k)) (y:=id) (bP 0 W.ties.length) none [] hc he (by rw[ij];simp;lia);have hv:=dg (cp:=[(0,"_law_web_here"),(1,"_law_stand")]) (nT:=1) (fi:=mz) (g:=af 2) (ft:=ir) (fe:=iw) (e:=[some (.d (ax W)),some (.d (qu asked taken))]) (cs:=cs) (t:=[none]) (t':=[t']) (show mz [some (.d (ax W)),some (.d (qu asked taken))]=some (bP 0 W.ties.length,[],[some (.d (ax W)),some (.d (qu asked taken))]) from eY (n:=(W.ties.length:Int)) (by rw[cA];simp?[Ug]) ↥0 ↥0) rfl rfl hf;rw[Ux,List.map_id,Du]at hv;simp only[kZ,vZ,et,mK,aC,kD,a_,dm,a8,dr,ky,sE,vL,aI,ay,si,ac,vC,dq,ah,aa,bH,aL,bA,l7,yS,l8,vU,iU,AC,jQ,xo,g_,gG,cS,bG,zL,gB,jx,ox,cW,bU,vh,yP,aO,am,af,aN,cK,aT,bC,yl,fm,gp,dH,jZ,j7,j5,j3,j2,iB,iA,iC,fF,iz,rT,gu,ms,rV,mx,j6,mv,mw,iE,iD,fH,iF,nG,md,cU,me,mf,rD,fD,fx,gq,j4,Ug,-Uv,-Uo,-Ux,-VQ,-Ul,-VB,-getElem?_pos,-Vs,rO,rM,rH,rG,rK,rL,rJ,rP];simp?[hv]
def gE(ds:List Int)(W:aA)(most:Int)(T:List Nd)(ws:List Wt)(v5 v6 v7 v8 v9 v10:Option Sv):En:=[some (.l (ds.map .int)),some (.d (ax W)),some (.d (.int most)),some (.n (T.map C8)),some (.l (ws.map Hl)),v5,v6,v7,v8,v9,v10]
inductive GT (W:aA) (most:Int) (T:List Nd) (ws:List Wt):En->Prop|mk{ds T' S' ws' u5 u6 u7 u8 u9 u10}(hd:jR ds) (hG:xr W T' S' ws') (hU:AJ T' ws') (hc:(T'.length=T.length/\ws'.length=ws.length)\/((T.length:Int)<most/\T'.length=T.length+1/\ws'.length=ws.length+2)):GT W most T ws (gE ds W most T' ws' u5 u6 u7 u8 u9 u10)
noncomputable abbrev gC:FT:=l7 (aI (ay (bR true) (ac 8) (dq ah))) (l7 (aI (ay DT (i7 3) (ac 2))) (yS (aI (ay (bR true) (ay bx (ac 9) (vC (.int 7))) (vC (.int 6)))) (aI (ay DT (ac 6) (vC (.int 0))))))
noncomputable abbrev gP:FS:=kD (aI (ay G7 (ac 6) (vC (.int 0)))) (wZ 3 (i7 3) (ac 6) (Dc (nC 1) (Dd 7))) dm
noncomputable abbrev gA(b:Bool)(i:Int):FS:=dr (cS bG (ac 4) (aa (bH (aa (bA 4 iH (aa (ac 1) (aa (ac 5) (aa (ac 10) (aa (vC (.bool b)) ah))))) (aa (i7 3) (aa (vC (.int i)) ah)))) ah))
theorem LX{W:aA}(ok:W.Ok){ds:List Int}{most:Int}{T:List Nd}{S:Nat->Std}{w:Wt}{ws:List Wt}{v5 v6 v7 v8 v9 v10:Option Sv}(hd:jR ds)(h:xr W T S (w::ws))(hu:AJ T (w::ws))(hT:T.length<=1000)(hw:ws.length<=5000):∃e',kM (gE ds W most T (w::ws) v5 v6 v7 v8 v9 v10)=some (.nx e')/\GT W most T ws e':=by
 obtain⟨n,d1,t1,-,-,hd1⟩:=kz hd;obtain⟨hs,hp⟩:=h.wt w ↥1;have hl:=hs.len;have hl2:=hs.tk;have wl:=ok.len;have ta:=DG ok (asked:=w.st.1) (taken:=w.st.2) hs.inw ↥0;let E:List Nd->List Wt->Option Sv->En:=λT ws v10=>gE d1 W most T ws (some (.d (qu w.st.1 w.st.2))) (some (.d (.int w.par))) (some (.d (.int w.side))) (some (.l ((W.can w.st.1 w.st.2).map .int))) (some (.d (.int n))) v10;have pre:∀R,(kD gC (aC (a8 10 (ay bF (ac 8) (ay bx (ay gY (ac 9) (vC (.int 7))) (aL (g1 gU) (aa (ac 8) ah))))) (aC gP (aC (gA true 0) (aC (gA false 1) (dr (AB 3 (dq (aa (ac 10) (aa (si qE (vC (.int 1))) (aa (si qE (vC (.int 1))) ah)))))))))) dm (E T ws v10)=R)->kM (gE ds W most T (w::ws) v5 v6 v7 v8 v9 v10)=R:=λR hR=>by
  refine(eg (e1:=gE ds W most T ws (some (.d (qu w.st.1 w.st.2))) (some (.d (.int w.par))) (some (.d (.int w.side))) v8 v9 v10) ?_).trans ((eg (e1:=gE ds W most T ws (some (.d (qu w.st.1 w.st.2))) (some (.d (.int w.par))) (some (.d (.int w.side))) (some (.l ((W.can w.st.1 w.st.2).map .int))) v9 v10) ?_).trans ((eg (e1:=E T ws v10) ?_).trans hR));·simp?[gE,Hl]
  ·simp?[gE,ta]
  ·simp?[gE,E,t1]
 have q8:∀e:En,e[8]?=some (some (.l ((W.can w.st.1 w.st.2).map .int)))->bR true e (.s 8) (.l [])=some (.d (.bool (!((W.can w.st.1 w.st.2).map PyData.int).isEmpty))):=λe he=>by have:=pC (neg:=true) he (mS _).1;simpa using this
 have gm:∀e:En,bx e (.d (.int n)) (.d (.int 7))=some (.d (.int (n%7))):=λe=>a' ⋯;have tst:gC (E T ws v10)=some (!(W.can w.st.1 w.st.2).isEmpty&&(decide ((T.length:Int)<most)&&(!(n%7==6)||decide (w.par<0))),E T ws v10):=by
  by_cases c1:W.can w.st.1 w.st.2=[];·rw[c1]at q8;simp?[E,gC,gE,q8,c1]
  ·by_cases c2:(T.length:Int)<most
   ·by_cases c3:n%7=6;·simp?[E,gC,gE,q8,gm,c1,c2,c3,i7,cX]
    ·simp?[E,gC,gE,q8,gm,c1,c2,c3,i7,cX]
   ·simp?[E,gC,gE,q8,c1,c2,i7,cX]
 cases hb:(!(W.can w.st.1 w.st.2).isEmpty&&(decide ((T.length:Int)<most)&&(!(n%7==6)||decide (w.par<0)))) with|false=>rw[hb]at tst;exact⟨E T ws v10,pre _ (J5 tst),.mk hd1 h.less hu.less (.inl ⟨rfl,rfl⟩)⟩|true=>
  rw[hb]at tst;simp only[Uw,Bool.or_eq_true,Yt,decide_eq_true_eq]at hb;obtain⟨c1,c2,c3⟩:=hb;have cl:0<(W.can w.st.1 w.st.2).length:=by cases z:W.can w.st.1 w.st.2 with|nil=>rw[z]at c1;cases c1|cons a r=>simp
  have gd:∀e:En,gY e (.d (.int n)) (.d (.int 7))=some (.d (.int (n/7))):=λe=>jl ⋯ (qq ⋯ ⋯);have gx:∀e:En,bx e (.d (.int (n/7))) (.d (.int (W.can w.st.1 w.st.2).length))=some (.d (.int (n/7%(W.can w.st.1 w.st.2).length))):=λe=>a' ↥0;have x0:0<=n/7%((W.can w.st.1 w.st.2).length:Int):=Yb _ ↥0;have x1:n/7%((W.can w.st.1 w.st.2).length:Int)<(W.can w.st.1 w.st.2).length:=Yc _ ↥0;obtain⟨z,hz,hat⟩:=og (xs:=(W.can w.st.1 w.st.2).map PyData.int) x0 (by rw[Uq];exact x1);obtain⟨k,hk,rfl⟩:=TH hz;obtain⟨k1,k2⟩:=Hi hk;have b1:=As (W:=W) (asked:=w.st.1) (taken:=w.st.2) true k1 ↥0 ↥0;have b2:=As (W:=W) (asked:=w.st.1) (taken:=w.st.2) false k1 ↥0 ↥0;have more:=h.more ok k1 k2;refine⟨E ((if 0<=w.par then T.modify w.par.toNat (λx=>jT x w.side T.length) else T)++[⟨k,-1,-1⟩]) (ws++[⟨L2.nxt W w.st k true,T.length,0⟩,⟨L2.nxt W w.st k false,T.length,1⟩]) (some (.d (.int k))),pre _ ((J6 tst).trans ?_),.mk hd1 more hu.more (.inr ⟨c2,by simp;split<;>simp,by simp⟩)⟩;refine(eg (e1:=E T ws (some (.d (.int k)))) ?_).trans ?_;·simp?[E,gE,gd,gx,hat]
  generalize hT':(if 0<=w.par then T.modify w.par.toNat (λx=>jT x w.side T.length) else T)=T';have lT':T'.length=T.length:=by rw[<-hT'];split<;>simp
  have hP:gP (E T ws (some (.d (.int k))))=some (.nx (E T' ws (some (.d (.int k))))):=by
   rcases hp with z|⟨p,x,z1,z2,z3⟩
   ·have g0:¬0<=w.par:=by lia
    rw[if_neg g0]at hT';subst hT';simp?[E,gP,gE,g0]
   ·have g0:0<=w.par:=by lia
    have pt:w.par.toNat=p:=by lia
    have pl:p<T.length:=(TC z2).1;rw[if_pos g0,pt]at hT';have hix:oz T.length w.par=some p:=by unfold oz;rw[if_pos g0,if_pos ↥0,pt]
    have i1:oz 3 1=some 1:=rfl;have i2:oz 3 2=some 2:=rfl;rcases z3 with⟨s0,s1⟩|⟨s0,s1⟩;·have sl:=Dy (n:=T.length) z2;rw[s0]at hT';rw[hT']at sl;simp?[E,gP,gE,g0,i7,cX,wZ,Dc,nC,Dd,hix,i1,i2,z2,s0,C8,<-sl]
    ·have sl:=Dz (n:=T.length) z2;rw[s0]at hT';rw[hT']at sl;simp?[E,gP,gE,g0,i7,cX,wZ,Dc,nC,Dd,hix,i1,i2,z2,s0,C8,<-sl]
  have wl1:ws.length<1000000:=by lia
  have wl2:ws.length+1<1000000:=by lia
  have tl:T.length<1000000:=by lia
  refine(eg hP).trans ((eg (e1:=E T' (ws++[⟨L2.nxt W w.st k true,T.length,0⟩]) (some (.d (.int k)))) ?_).trans ((eg (e1:=E T' (ws++[⟨L2.nxt W w.st k true,T.length,0⟩,⟨L2.nxt W w.st k false,T.length,1⟩]) (some (.d (.int k)))) ?_).trans ?_));·simp?[E,gA,gE,b1,wl1,lT',i7,cX,nxt,Hl]
  ·simp?[E,gA,gE,b2,wl2,lT',i7,cX,nxt,Hl]
  ·simp?[E,gE,lT',tl,AB,cX,C8]
def HQ(i:Nat)(e:En):Nat:=match cX e i with|some x=>x.length|none=>0
def LY:TN->TN|.list xs=>.tuple xs|d=>d
inductive GI (W:aA) (most:Int):En->Prop|mk{ds T S ws v5 v6 v7 v8 v9 v10}(hd:jR ds) (hG:xr W T S ws) (hT:(T.length:Int)<=most) (hws:ws.length<=T.length+1) (hU:AJ T ws):GI W most (gE ds W most T ws v5 v6 v7 v8 v9 v10)
theorem Jh{W:aA}(ok:W.Ok){ds:List Int}{most:Int}(hd:jR ds)(m0:0<=most)(m1:most<=400):∃ds' T S,pJ [.l (ds.map .int),.d (ax W),.d (.int most)]=some (.d (.tuple (T.map bg)),[.l (ds'.map .int),.d (ax W),.d (.int most)])/\jR ds'/\be W T S/\(T.length:Int)<=most/\AJ T []:=by
 have q4:∀(ws:List Wt) (e:En),e[4]?=some (some (.l (ws.map Hl)))->bR true e (.s 4) (.l [])=some (.d (.bool (!(ws.map Hl).isEmpty))):=λws e he=>by have:=pC (neg:=true) he ((Sh.list (n:=8) λd hd=>by obtain⟨k,_,rfl⟩:=TH hd;exact Sh.wt).ok ⋯);simpa using this
 have tst:∀ds T ws v5 v6 v7 v8 v9 v10,kS (gE ds W most T ws v5 v6 v7 v8 v9 v10)=some (!(ws.map Hl).isEmpty,gE ds W most T ws v5 v6 v7 v8 v9 v10):=λds T ws v5 v6 v7 v8 v9 v10=>by have:=q4 ws (gE ds W most T ws v5 v6 v7 v8 v9 v10) rfl;unfold gE at this⊢;simp?[kS,this]
 obtain⟨e0,e',hw,hI,hf⟩:=fg (ft:=kS) (f:=kM) (GI W most) (λe=>gZ 4 e+2*(most.toNat-HQ 3 e)) (λe hI=>by obtain⟨hd1,hG,hT,hws,hU⟩:=hI;rename_i d1 T S ws v5 v6 v7 v8 v9 v10;cases ws with|nil=>exact .inl ⟨_,tst _ _ _ _ _ _ _ _ _,trivial⟩|cons w ws=>
  obtain⟨e9,hb,⟨hd2,hG2,hU2,hc⟩⟩:=LX ok (most:=most) (v5:=v5) (v6:=v6) (v7:=v7) (v8:=v8) (v9:=v9) (v10:=v10) hd1 hG hU ↥0 (by simp at hws;lia);simp only[Vc]at hws;refine .inr ⟨_,_,tst _ _ _ _ _ _ _ _ _,hb,⟨hd2,hG2,?_,?_,hU2⟩,?_⟩;·rcases hc with hc|hc<;>lia
  ·rcases hc with hc|hc<;>lia
  ·have l1:∀ds T ws v5 v6 v7 v8 v9 v10,gZ 4 (gE ds W most T ws v5 v6 v7 v8 v9 v10)=ws.length:=λds T ws v5 v6 v7 v8 v9 v10=>by simp[gE,gZ]
   have l2:∀ds T ws v5 v6 v7 v8 v9 v10,HQ 3 (gE ds W most T ws v5 v6 v7 v8 v9 v10)=T.length:=λds T ws v5 v6 v7 v8 v9 v10=>by simp[gE,HQ,cX]
   simp only[l1,l2,Vc];rcases hc with hc|hc<;>lia) (2^4200) (gE ds W most [] [⟨([],[]),-1,0⟩] none none none none none none) (.mk (S:=λ_=>([],[])) hd ⟨λi x h=>(by simp at h),λw hw=>(by simp at hw;subst hw;exact⟨qp.first W,.inl rfl⟩),λw hw=>(by simp at hw;subst hw;exact .inl rfl)⟩ m0 ↥1 AJ.first) (lK (m:=20) (by simp[gE,gZ,HQ,cX];lia) ⋯);obtain⟨hd1,hG,hT,hws,hU⟩:=hI;rename_i d1 T S ws v5 v6 v7 v8 v9 v10;rw[tst]at hf;have hw0:ws=[]:=by cases ws with|nil=>rfl|cons a r=>simp at hf
 subst hw0;simp at hf;subst hf;refine⟨d1,T,S,?_,hd1,hG.tr,hT,hU⟩;obtain⟨t',hc⟩:=bI (cs:=[]) (ft:=aX) (fe:=m6) (b:=λ_=>true) (y:=LY) ((T.map C8).map PyData.list) none [] (λx hx=>rfl) (λx hx _=>by obtain⟨xs,_,rfl⟩:=TH hx;simp?[m6,LY]) ↥7;have hv:=dg (cp:=[]) (nT:=1) (fi:=wJ) (g:=af 0) (ft:=aX) (fe:=m6) (e:=gE d1 W most T [] v5 v6 v7 v8 v9 v10) (e1:=(gE d1 W most T [] v5 v6 v7 v8 v9 v10).set 3 (some (.d (.list ((T.map C8).map .list))))) (cs:=[]) (t:=[none]) (t':=[t']) rfl rfl rfl hc;have hl:([]++(((T.map C8).map PyData.list).filter λ_=>true).map LY)=T.map bg:=by rw[Ux,VU.mpr ↥4,UJ,UJ];exact XO λx _=>rfl
 rw[hl]at hv;have hw':eZ (2^4200) kS kM (gE ds W most [] [⟨([],[]),-1,0⟩] none none none none none none)=some (.nx (gE d1 W most T [] v5 v6 v7 v8 v9 v10)):=hw;unfold gE at hv hw';simp only[Uo,Uv,Hl,qu]at hw' hv;simp only[Yz,YA]at hv;simp?[pJ,BL,Gk,hw',hv]
def rE(ds:List Int)(T:List Nd)(ws order:List Int)(v4 v5 v6:Option Sv):En:=[some (.l (ds.map .int)),some (.d (.tuple (T.map bg))),some (.l (ws.map .int)),some (.l (order.map .int)),v4,v5,v6]
theorem Ji{W:aA}(ok:W.Ok){ds:List Int}{T:List Nd}{S:Nat->Std}{ws order:List Int}(hd:jR ds)(h:be W T S)(hw:∀w∈ws,0<=w/\w<(T.length:Int))(ho:∀w∈order,0<=w/\w<(T.length:Int))(h0:ws≠[])(hb:order.length+gv S ws<=65535):∃ds' ws' w,du (rE ds T ws order none none none)=some (.nx (rE ds' T ws' (order++[w]) none none none))/\jR ds'/\(∀w∈ws',0<=w/\w<(T.length:Int))/\(0<=w/\w<(T.length:Int))/\gv S ws'+1<=gv S ws/\∃k,ws[k]?=some w/\ws'=ws.eraseIdx k++vz (aS T w):=by
 obtain⟨n,d1,t1,-,-,hd1⟩:=kz hd;have hlen:0<ws.length:=List.length_pos_iff.mpr h0;have hl2:=wG ok h hw;have gx:∀e:En,bx e (.d (.int n)) (.d (.int ws.length))=some (.d (.int (n%ws.length))):=λe=>a' ↥0;have x0:0<=n%(ws.length:Int):=Yb _ ↥0;have x1:n%(ws.length:Int)<ws.length:=Yc _ ↥0;generalize n%(ws.length:Int)=j at gx x0 x1;have hj:j.toNat<ws.length:=by lia
 have hw0:ws[j.toNat]?=some ws[j.toNat]:=Um hj;have hwm:ws[j.toNat]∈ws:=Xd _;have hpop:=wH (S:=S) hj;generalize ws[j.toNat]=w at hw0 hwm hpop;obtain⟨w0,w1⟩:=hw w hwm;have o:=h _ _ (dP w0 w1);have hh:=o.hang ok;have j9:j<1000000000:=by lia
 have ol:order.length<1000000:=by lia
 let E:En:=rE d1 T (ws.eraseIdx j.toNat) (order++[w]) none none none;obtain⟨t',hf⟩:=bI (cs:=[]) (ft:=fZ) (fe:=gh) (b:=Bj λl=>l !=-1) (y:=id) [PyData.int (aS T w).yes,.int (aS T w).no] none [] (λx hx=>by simp only[Uy,UK,or_false]at hx;rcases hx with rfl|rfl<;>simp?[fZ,Bj,bne]) (λx hx _=>by simp?[gh]) ↥1;have hl:([]++([PyData.int (aS T w).yes,.int (aS T w).no].filter (Bj λl=>l !=-1)).map id)=(vz (aS T w)).map .int:=by rw[Ux,List.map_id,show[PyData.int (aS T w).yes,.int (aS T w).no]=[(aS T w).yes,(aS T w).no].map PyData.int from rfl,Yv];rfl
 rw[hl]at hf;have hi:jB E=some ([PyData.int (aS T w).yes,.int (aS T w).no],[],E):=by refine lF ?_;have a1:atI (order.map PyData.int++[PyData.int w]) (-1)=some (.int w):=CK;simp?[E,rE,a1,xC w0 w1,bg]
 have hv:=dg (cp:=[]) (nT:=1) (fi:=jB) (g:=af 0) (ft:=fZ) (fe:=gh) (e:=E) (cs:=[]) (t:=[none]) (t':=[t']) hi rfl rfl hf;have ln:(ws.eraseIdx j.toNat).length+(vz (aS T w)).length<=1000000:=by have:(vz (aS T w)).length<=2:=List.length_filter_le _ _;rw[List.length_eraseIdx_of_lt hj];lia
 refine⟨d1,ws.eraseIdx j.toNat++vz (aS T w),w,?_,hd1,λv hv=>?_,⟨w0,w1⟩,?_,j.toNat,hw0,rfl⟩;·simp only[E,rE,Wq,Uo,Uv]at hv;simp only[rE,du,Wq,Uo,Uv];simp?[t1,gx,x0,j9,hw0,wA,ol,hv,Jp,lN,ln]
 ·rcases TF hv with hv|hv;·exact hw v (List.mem_of_mem_eraseIdx hv)
  ·exact KY o v hv
 ·rw[C1];lia
inductive RI (T:List Nd) (S:Nat->Std) (w0:List Int):En->Prop|mk{ds ws order}(hd:jR ds) (hws:∀w∈ws,0<=w/\w<(T.length:Int)) (ho:∀w∈order,0<=w/\w<(T.length:Int)) (hb:order.length+gv S ws<=65535) (how:vd T ws order) (hru:G4 T w0 ws order):RI T S w0 (rE ds T ws order none none none)
inductive RJ (ds:List Int) (T:List Nd) (order:List Int) (i:Nat):En->Prop|mk{nums v5 v6}(hn:lQ order T.length nums) (hg:l_ order nums i):RJ ds T order i (rE ds T [] order (some (.l (nums.map .int))) v5 v6)
theorem qm{W:aA}(ok:W.Ok){ds:List Int}{T:List Nd}{S:Nat->Std}(hd:jR ds)(h:be W T S)(hT:T.length<=65535)(hU:AJ T []):∃ds' T' S',cD [.l (ds.map .int),.d (.tuple (T.map bg))]=some (.d (.tuple (T'.map bg)),[.l (ds'.map .int),.d (.tuple (T.map bg))])/\jR ds'/\be W T' S'/\T'.length<=65535/\fQ T'/\en T'/\∀(a:List Bool) (f:Nat),rn T' a f (rt T')=rn T a f (rt T):=by
 have q2:∀(ws:List Int) (e:En),e[2]?=some (some (.l (ws.map .int)))->bR true e (.s 2) (.l [])=some (.d (.bool (!(ws.map PyData.int).isEmpty))):=λws e he=>by have:=pC (neg:=true) he (mS _).1;simpa using this
 have tst:∀ds ws order,dA (rE ds T ws order none none none)=some (!(ws.map PyData.int).isEmpty,rE ds T ws order none none none):=λds ws order=>by have:=q2 ws (rE ds T ws order none none none) rfl;unfold rE at this⊢;simp?[dA,this]
 let w0:List Int:=if T.length=0 then[]else[0];have hw00:w0=[]\/w0=[0]:=by
  simp only[w0];split;·exact .inl rfl
  ·exact .inr rfl
 have hw0:∀w∈w0,0<=w/\w<(T.length:Int):=λw hw=>by
  simp only[w0]at hw;split at hw;·cases hw
  ·simp at hw;lia
 have hb0:gv S w0<=65535:=by
  simp only[w0];split;·simp[gv]
  ·have:2^(16-(S (0:Int).toNat).1.length)<=2^16:=XH ⋯ ↥0;simp[gv,hang]at this⊢;lia
 obtain⟨e0,e',hw,hI,hf⟩:=fg (ft:=dA) (f:=du) (RI T S w0) (λe=>65535-gZ 3 e) (λe hI=>by
  obtain⟨hd1,hws,ho,hbd,how,hru⟩:=hI;rename_i d1 ws order;by_cases c:ws=[];·subst c;exact .inl ⟨_,tst _ _ _,trivial⟩
  ·obtain⟨d2,ws',w,hb,hd2,hws',hw',hh,kk,hk1,hk2⟩:=Ji ok hd1 h hws ho c hbd;have hx1:∀v∈ws,v=w\/v∈ws':=λv hv=>(C' hk1 hv).imp id λq=>by rw[hk2];exact Xy _ q
   have hx2:∀l∈vz (aS T w),l∈ws':=λl hl=>by rw[hk2];exact UR _ hl
   have hru2:G4 T w0 ws' (order++[w]):=by rw[hk2];exact hru.turn hw00 hU.unq hU.rng (λv hv=>(TF hv).elim (ho v) (hws v)) hk1
   have hl2:=wG ok h hws;refine .inr ⟨_,_,(by rw[tst];simp[c]),hb,.mk hd2 hws' (λv hv=>?_) ↥7 (how.turn hx1 hx2) hru2,?_⟩
   ·rcases TF hv with hv|hv;·exact ho v hv
    ·simp at hv;rw[hv];exact hw'
   ·have l1:∀ds ws order,gZ 3 (rE ds T ws order none none none)=order.length:=λds ws order=>by simp[rE,gZ]
    simp only[l1,VO,Vc,List.length_nil];lia) (2^4200) (rE ds T w0 [] none none none) (.mk hd hw0 (λw hw=>(by cases hw)) (by simpa using hb0) vd.first (G4.first hw00)) (lK (m:=20) (by simp[rE,gZ]) ⋯);obtain⟨hd1,hws,ho,hbd,how,hru⟩:=hI;rename_i d1 ws order;rw[tst]at hf;have hw1:ws=[]:=by cases ws with|nil=>rfl|cons a r=>simp at hf
 subst hw1;simp at hf;subst hf;obtain⟨e2,h1,hJ⟩:=cB (own:=[(3,order.map PyData.int)]) (g:=aO (am (af 5) (am (af 6) aN))) (f:=fW) (RJ d1 T order) (jW 0 (order.map .int)) 0 (rE d1 T [] order (some (.l ((Ug (T.length+1) (-1:Int)).map .int))) none none) (λi x e hx hJ=>by
  obtain⟨hn,hng⟩:=hJ;rename_i nums v5 v6;rw[m7,Ut,Option.map_map]at hx;obtain⟨w,hw2,rfl⟩:=TB hx;obtain⟨a0,a1⟩:=ho w (TK hw2);have hix:oz nums.length w=some w.toNat:=by unfold oz;rw[if_pos a0,if_pos (by rw[hn.len];lia)]
  refine⟨rE d1 T [] order (some (.l (nums.map .int))) (some (.d (.int (i:Int)))) (some (.d (.int w))),rE d1 T [] order (some (.l ((nums.set w.toNat (i:Int)).map .int))) (some (.d (.int (i:Int)))) (some (.d (.int w))),?_,?_,?_,.mk (hn.set hw2 a0 a1) (by rw[Vz]at hng⊢;exact hng.set hw2 (by rw[hn.len];lia))⟩;·simp?[rE]
  ·simp?[rE,fW,vO,lN,hix,List.map_set]
  ·intro p hp;simp at hp;subst hp;rfl) (.mk lQ.first l_.first);obtain⟨hn,hng⟩:=hJ;rename_i nums v5 v6;obtain⟨t',hc⟩:=bI (cs:=[some (.l (nums.map PyData.int)),some (.d (.tuple (T.map bg)))]) (ft:=aX) (fe:=gf) (b:=λ_=>true) (y:=Od λw=>bg (renum T nums w)) (order.map PyData.int) none [] (λx hx=>rfl) (λx hx _=>by obtain⟨w,hw2,rfl⟩:=TH hx;obtain⟨a0,a1⟩:=ho w hw2;have o:=h _ _ (dP a0 a1);have y:=o.yes.rng;have n:=o.no.rng;have ny:atI (nums.map PyData.int) (aS T w).yes=some (.int (nm nums (aS T w).yes)):=JU (by rw[hn.len];lia) (by rw[hn.len];lia);have nn:atI (nums.map PyData.int) (aS T w).no=some (.int (nm nums (aS T w).no)):=JU (by rw[hn.len];lia) (by rw[hn.len];lia);have nd:=xC a0 a1;simp?[gf,nd,ny,nn,Od,bg,renum]) ↥7;have hv:=DO (cp:=[(4,"_law_numbers"),(1,"_law_tree_here")]) (nT:=1) (fi:=mB) (g:=af 2) (ft:=aX) (fe:=gf) (e:=rE d1 T [] order (some (.l (nums.map .int))) v5 v6) (cs:=[some (.l (nums.map PyData.int)),some (.d (.tuple (T.map bg)))]) (t:=[none]) (t':=[t']) (own:=[(3,order.map PyData.int)]) rfl rfl rfl rfl hc;have hl:([]++((order.map PyData.int).filter λ_=>true).map (Od λw=>bg (renum T nums w)))=(order.map (renum T nums)).map bg:=by rw[Ux,VU.mpr ↥4,UJ,UJ];exact XO λx _=>rfl
 rw[hl]at hv;have hng':l_ order nums order.length:=by rw[Vz,m8,Uq]at hng;exact hng
 refine⟨d1,order.map (renum T nums),_,?_,hd1,h.renum ho hn,by rw[Uq];lia,Dm h ho hn hng' how,Bz h hU.unq ho hn hng' how hru,Gf h ho hn hng' how hru (λz=>by
  simp only[w0]at z;split at z;·assumption
  ·cases z)⟩;have hw':eZ (2^4200) dA du (rE ds T w0 [] none none none)=some (.nx (rE d1 T [] order none none none)):=hw;have hfor:∀Wl:List Nat,3∉Wl->cH Wl mC (aO (am (af 5) (am (af 6) aN))) fW (rE d1 T [] order (some (.l ((Ug (T.length+1) (-1:Int)).map .int))) none none)=some (.nx (rE d1 T [] order (some (.l (nums.map .int))) v5 v6)):=λWl hWl=>by rw[Gj (own:=[(3,order.map PyData.int)]) (items:=jW 0 (order.map .int)) (e1:=rE d1 T [] order (some (.l ((Ug (T.length+1) (-1:Int)).map .int))) none none) rfl (by simp[hWl])];exact h1
 have hw0':cutD [.int 0] none (some (T.length:Int))=w0.map .int:=by rw[Ml];simp only[w0];split<;>rfl
 have gr:∀e:En,cL e (.l [.int (-1)]) (.d (.int ((T.length:Int)+1)))=some (.l (Ug (T.length+1) (.int (-1)))):=λe=>by rw[Mp ↥0 ↥0];congr 3
 have hfor':=hfor [5,6] ⋯;unfold rE at hv hw' hfor';simp only[List.map_replicate,Uv,Uo,Wm]at hfor' hw' hv;simp?[cD,o6,Mq,hw0',hw',gr,hfor',hv]
theorem LV{d:TN}{n dep:Nat}(hz:Sz n dep d)(h1:n<=16777216)(h2:dep<=60):mJ [.d d,.d d]=some (.d (.bool true),[.d d,.d d]):=by have r:∀e,g1 rW e [.d d]=some (.d (.str d.shown)):=λe=>Hv (hz.ok h1 h2);have q:∀e,bR false e (.d (.str d.shown)) (.d (.str d.shown))=some (.d (.bool true)):=λe=>Hs hz.so;simp?[mJ,Eb,r,q]
theorem LW{W:aA}(ok:W.Ok){ds:List Int}(great:Bool)(hd:jR ds):∃ds' T S,qK [.l (ds.map .int),.d (ax W),.d (.bool great)]=some (.d (.tuple (T.map bg)),[.l (ds'.map .int),.d (ax W),.d (.bool great)])/\jR ds'/\be W T S/\T.length<=65535/\fQ T/\en T:=by
 obtain⟨n1,d1,t1,-,-,hd1⟩:=kz hd;obtain⟨n2,d2,t2,-,-,hd2⟩:=kz hd1;obtain⟨n3,d3,t3,-,-,hd3⟩:=kz hd2;have gi:∀e:En,g1 qC e [.d (.bool great)]=some (.d (.int (if great=true then 1 else 0))):=λe=>rfl;have gm:∀e:En,cL e (.d (.int 260)) (.d (.int (if great=true then 1 else 0)))=some (.d (.int (260*(if great=true then 1 else 0)))):=λe=>cC (Be ⋯ ⋯);have hg:(0:Int)<=260*(if great=true then 1 else 0)/\(260:Int)*(if great=true then 1 else 0)<=260:=by split<;>lia
 generalize (260:Int)*(if great=true then 1 else 0)=g at gm hg;generalize (if great=true then 1 else 0:Int)=one at gm gi;obtain⟨z,hz,ha⟩:=og (xs:=[PyData.int (1+n1%8),.int (1+n2%40),.int (40+g)]) (i:=n3%3) ↥0 ↥7;obtain⟨most,rfl,hm0,hm1⟩:∃r,z=.int r/\0<=r/\r<=400:=by simp only[Uy,UK,or_false]at hz;rcases hz with rfl|rfl|rfl<;>exact⟨_,rfl,by lia,by lia⟩
 obtain⟨d4,T,S,t4,hd4,hT,hl,hU⟩:=Jh ok hd3 hm0 hm1;obtain⟨d5,T',S',t5,hd5,hT',hl',hor,htr,_⟩:=qm ok hd4 hT ↥0 hU;refine⟨d5,T',S',?_,hd5,hT',hl',hor,htr⟩;simp?[qK,Ed,t1,t2,t3,a',gi,gm,ha,t4,t5]
def KA:TN->Bool|.int _=>true|.bool _=>true|_=>false
def Kz:TN->Bool|.bool _=>true|_=>false
def KC:TN->Bool|.tuple _=>true|_=>false
theorem Mo{e:En}{d:TN}:xQ "int" e (.d d)=some (.d (.bool (KA d))):=by cases d<;>rfl
theorem NZ{e:En}{d:TN}:xQ "bool" e (.d d)=some (.d (.bool (Kz d))):=by cases d<;>rfl
theorem Hw{e:En}{d:TN}:xQ "tuple" e (.d d)=some (.d (.bool (KC d))):=by cases d<;>rfl
theorem Hz{d:TN}(h:KC d=true):∃ds,d=.tuple ds:=by cases d<;>first|exact⟨_,rfl⟩|cases h
theorem KB(d:TN):JK d=(KA d&&!Kz d):=by cases d<;>rfl
theorem GJ(d:TN):fJ [.d d]=some (.d (.bool (JK d)),[.d d]):=by rw[KB];have g1:=λe=>Mo (e:=e) (d:=d);have g2:=λe=>NZ (e:=e) (d:=d);generalize KA d=a at*;generalize Kz d=b at*;cases a<;>simp?[fJ,rq,g1,g2]
theorem qX(a b:Int)(hb:Bt 4000 b):cP [.d (.int a),.d (.int b)]=some (.d (.int (Uk a b)),[.d (.int a),.d (.int b)]):=by
 have tst:∀x y:Int,cq [some (.d (.int x)),some (.d (.int y))]=some (!(y==0),[some (.d (.int x)),some (.d (.int y))]):=λx y=>by simp?[cq]
 obtain⟨e0,e',h1,⟨x,y,he,hg,hy⟩,h3⟩:=fg (ft:=cq) (f:=cV) (λe=>∃x y,e=[some (.d (.int x)),some (.d (.int y))]/\Uk x y=Uk a b/\Bt 4000 y) (wU 1) (λe⟨x,y,he,hg,hy⟩=>by
  subst he;rw[tst];by_cases c:y=0;·subst c;exact .inl ⟨_,rfl,trivial⟩
  ·refine .inr ⟨_,[some (.d (.int y)),some (.d (.int (x.fmod y)))],by rw[beq_false_of_ne c];rfl,by simp?[cV,EF c],⟨y,x.fmod y,rfl,by rw[zy,hg],?_⟩,?_⟩;·have:=jY x c;exact Bt.of_le hy ↥0
   ·have:=jY x c;simpa[wU]using this) (2^4200) _ ⟨a,b,rfl,rfl,hb⟩ (lK (m:=4000) (by simpa[wU,Bt]using hb) ⋯);subst he;rw[tst]at h3;have h4:=Prod.mk.inj (UH h3);have hy0:y=0:=by simpa using h4.1
 subst hy0;have h5:=h4.2;subst h5;have hs:eZ (2^4200) cq cV [some (.d (.int a)),some (.d (.int b))]=some (.nx [some (.d (.int x)),some (.d (.int 0))]):=h1;have hg':(x.natAbs:Int)=(Uk a b:Int):=by rw[<-hg];simp
 simp only[cP,kO,et,mK,aC,kD,a_,dm,a8,dr,ky,sE,vL,aI,ay,si,ac,vC,dq,ah,aa,bH,aL,bA,l7,yS,l8,vU,iU,AC,jQ,xo,g_,gG,cS,bG,zL,gB,jx,ox,cW,bU,vh,yP,aO,am,af,aN,cK,aT,bC,yl,fm,gp,dH,jZ,j7,j5,j3,j2,iB,iA,iC,fF,iz,rT,gu,ms,rV,mx,j6,mv,mw,iE,iD,fH,iF,nG,md,cU,me,mf,rD,fD,fx,gq,j4,Ug,-Uv,-Uo,-Ux,-VQ,-Ul,-VB,-getElem?_pos,-Vs,rO,rM,rH,rG,rK,rL,rJ,rP];simp?[hs,hg']
theorem mW(t b:Int)(hb:0<b)(h:Bt 4000 b):dM [.d (.int t),.d (.int b)]=some (.d (dF (lowM t b)),[.d (.int t),.d (.int b)]):=by
 have g0:=xR (t:=t) (b:=b) ↥0;have g1:(Uk t b:Int)≠0:=by lia
 have g8:Bt 8000 (Uk t b:Int):=(EG (t:=t) ↥0 h).mono ⋯;have e:lowM t b=(t.fdiv (Uk t b:Int),b.fdiv (Uk t b:Int)):=by unfold lowM;rw[if_neg ↥0]
 have nb:¬b<0:=by lia
 rw[e];simp?[dM,y6,qX t b h,BY g1 g8,nb,dF]
theorem ka{a b:Fr}{n:Nat}(a2:0<a.2)(b2:0<b.2)(ha1:Bt n a.1)(ha:Bt n a.2)(hb1:Bt n b.1)(hb:Bt n b.2)(hn:n<=1900):cF [.d (dF a),.d (dF b)]=some (.d (dF (tm a b)),[.d (dF a),.d (dF b)]):=by have g1:∀e:En,cL e (.d (.int a.1)) (.d (.int b.1))=some (.d (.int (a.1*b.1))):=λe=>cC (ko (ha1.mono ↥0) (hb1.mono ↥0));have g2:∀e:En,cL e (.d (.int a.2)) (.d (.int b.2))=some (.d (.int (a.2*b.2))):=λe=>cC (ko (ha.mono ↥0) (hb.mono ↥0));have tl:=mW (a.1*b.1) (a.2*b.2) (UO a2 b2) ((ha.mul hb).mono ↥0);unfold tm;unfold dF at*;simp?[cF,BP,g1,g2,tl]
theorem tu{a b:Fr}{n:Nat}(a2:0<a.2)(b2:0<b.2)(ha1:Bt n a.1)(ha:Bt n a.2)(hb1:Bt n b.1)(hb:Bt n b.2)(hn:n<=1900):gy [.d (dF a),.d (dF b)]=some (.d (dF (tm a b)),[.d (dF a),.d (dF b)]):=by have g1:∀e:En,cL e (.d (.int a.1)) (.d (.int b.1))=some (.d (.int (a.1*b.1))):=λe=>cC (ko (ha1.mono ↥0) (hb1.mono ↥0));have g2:∀e:En,cL e (.d (.int a.2)) (.d (.int b.2))=some (.d (.int (a.2*b.2))):=λe=>cC (ko (ha.mono ↥0) (hb.mono ↥0));have tl:=CA (a.1*b.1) (a.2*b.2) (UO a2 b2) ((ha.mul hb).mono ↥0);unfold tm;unfold dF at*;simp?[gy,BN,g1,g2,tl]
theorem qY{a b:Fr}{n:Nat}(a2:0<a.2)(b2:0<b.2)(ha1:Bt n a.1)(ha:Bt n a.2)(hb1:Bt n b.1)(hb:Bt n b.2)(hn:n<=1900):i3 [.d (dF a),.d (dF b)]=some (.d (dF (pl a b)),[.d (dF a),.d (dF b)]):=by have g1:∀e:En,cL e (.d (.int a.1)) (.d (.int b.2))=some (.d (.int (a.1*b.2))):=λe=>cC (ko (ha1.mono ↥0) (hb.mono ↥0));have g3:∀e:En,cL e (.d (.int b.1)) (.d (.int a.2))=some (.d (.int (b.1*a.2))):=λe=>cC (ko (hb1.mono ↥0) (ha.mono ↥0));have g2:∀e:En,cL e (.d (.int a.2)) (.d (.int b.2))=some (.d (.int (a.2*b.2))):=λe=>cC (ko (ha.mono ↥0) (hb.mono ↥0));have tl:=mW (a.1*b.2+b.1*a.2) (a.2*b.2) (UO a2 b2) ((ha.mul hb).mono ↥0);unfold pl;unfold dF at*;simp?[i3,Ee,g1,g2,g3,tl]
theorem GG{a b:Fr}{n:Nat}(a2:0<a.2)(b2:0<b.2)(ha1:Bt n a.1)(ha:Bt n a.2)(hb1:Bt n b.1)(hb:Bt n b.2)(hn:n<=1900):oD [.d (dF a),.d (dF b)]=some (.d (dF (pl a b)),[.d (dF a),.d (dF b)]):=by have g1:∀e:En,cL e (.d (.int a.1)) (.d (.int b.2))=some (.d (.int (a.1*b.2))):=λe=>cC (ko (ha1.mono ↥0) (hb.mono ↥0));have g3:∀e:En,cL e (.d (.int b.1)) (.d (.int a.2))=some (.d (.int (b.1*a.2))):=λe=>cC (ko (hb1.mono ↥0) (ha.mono ↥0));have g2:∀e:En,cL e (.d (.int a.2)) (.d (.int b.2))=some (.d (.int (a.2*b.2))):=λe=>cC (ko (ha.mono ↥0) (hb.mono ↥0));have tl:=CA (a.1*b.2+b.1*a.2) (a.2*b.2) (UO a2 b2) ((ha.mul hb).mono ↥0);unfold pl;unfold dF at*;simp?[oD,D',g1,g2,g3,tl]
theorem oS{W:aA}(ok:W.Ok){k:Int}(hk:kc W k):cv [.d (.tuple [.int (W.tie k).top,.int (W.tie k).bot])]=some (.d (dF (ch W k false)),[.d (.tuple [.int (W.tie k).top,.int (W.tie k).bot])]):=by have o:=hk.ok ok;have b0:=o.b0;have b1:=o.b1;have tl:=mW ((W.tie k).bot-(W.tie k).top) (W.tie k).bot ↥0 (Bt.mono (m:=7) (by unfold Bt;lia) ⋯);rw[zH ↥0 o.cop]at tl;simp?[cv,oh,tl,ch]
theorem xl{W:aA}(ok:W.Ok){x:Nd}(hk:kc W x.tie):ig [.d (ax W),.d (bg x)]=some (.l (lq W x),[.d (ax W),.d (bg x)]):=by
 let E:En:=[some (.d (ax W)),some (.d (bg x)),some (.d (.int x.tie)),some (.d (.int x.yes)),some (.d (.int x.no)),some (.d (.tuple [.int (W.tie x.tie).top,.int (W.tie x.tie).bot]))];have tl:=oS ok hk;have hi:mG E=some ([lm x.yes (ch W x.tie true),lm x.no (ch W x.tie false)],[],E):=lF (by simp?[E,tl,lm,xM]);have hc:∃t',bT (aO (am (af 0) (am (af 1) aN))) dC dG [lm x.yes (ch W x.tie true),lm x.no (ch W x.tie false)] [none,none] []=some (lq W x,[]++t'):=by
  by_cases c1:x.yes=-1
  ·by_cases c2:x.no=-1;·exact⟨_,by simp?[bT,lm,lq,c1,c2,dC,dG];rfl⟩
   ·exact⟨_,by simp?[bT,lm,lq,c1,c2,dC,dG];rfl⟩
  ·by_cases c2:x.no=-1;·exact⟨_,by simp?[bT,lm,lq,c1,c2,dC,dG];rfl⟩
   ·exact⟨_,by simp?[bT,lm,lq,c1,c2,dC,dG];rfl⟩
 obtain⟨t',hc⟩:=hc;have hv:=dg (cp:=[]) (nT:=2) (fi:=mG) (g:=aO (am (af 0) (am (af 1) aN))) (ft:=dC) (fe:=dG) (e:=E) (cs:=[]) (t:=[none,none]) (t':=t') hi rfl rfl hc;have gw:∀e,bF e (.d (ax W)) (.d (.int 1))=some (.d (.tuple (W.ties.map bi))):=λe=>by rw[cA,gu,cU];rfl
 have ha:=fU hk;simp only[E]at hv;unfold bg bi at*;simp?[ig,wc,gw,ha,hv]
def nE(W:aA)(T:List Nd)(rs:List Fr)(v3 v4 v5 v6:Option Sv):En:=[some (.d (ax W)),some (.d (.tuple (T.map bg))),some (.l (rs.map dF)),v3,v4,v5,v6]
theorem GH{W:aA}{T:List Nd}{rs:List Fr}{i:Nat}{k:Int}{b:Bool}{l:Int}{v4:Option Sv}(hi:i<rs.length)(tt:cF [.d (dF (rs.getD i (1,1))),.d (dF (ch W k b))]=some (.d (dF (tm (rs.getD i (1,1)) (ch W k b))),[.d (dF (rs.getD i (1,1))),.d (dF (ch W k b))]))(h0:l≠-1)(hl:-1<=l/\l<(rs.length:Int)):jt (nE W T rs (some (.d (.int i))) v4 (some (.d (.int l))) (some (.d (dF (ch W k b)))))=some (.nx (nE W T (rstp W rs i k b l) (some (.d (.int i))) v4 (some (.d (.int l))) (some (.d (dF (ch W k b)))))):=by
 have ha:=AN (z:=(1,1)) hi;have hix:oz rs.length l=some l.toNat:=by unfold oz;rw[if_pos ↥0,if_pos hl.2]
 unfold rstp;rw[if_neg h0];generalize rs.getD i (1,1)=r at tt ha;generalize ch W k b=c at tt;simp?[nE,jt,ha,tt,vO,lN,hix,List.map_set]
theorem qk{W:aA}(ok:W.Ok){T:List Nd}{S:Nat->Std}(h:be W T S)(hT:T.length<=65535):cE [.d (ax W),.d (.tuple (T.map bg))]=some (.d (.tuple ((aY W T T.length).map dF)),[.d (ax W),.d (.tuple (T.map bg))]):=by
 obtain⟨e2,h1,⟨v3,v4,v5,v6,he⟩⟩:=cB (own:=[]) (g:=aO (am (af 3) (am (af 4) aN))) (f:=dz) (λi e=>∃v3 v4 v5 v6,e=nE W T (aY W T i) v3 v4 v5 v6) (jW 0 (T.map bg)) 0 (nE W T (aY W T 0) none none none none) (λi x e hx⟨v3,v4,v5,v6,he⟩=>by
  subst he;obtain⟨y,hy,rfl⟩:=Ez hx;have hi:i<T.length:=(TC hy).1;have o:=h i y hy;have s0:=eV.all ok h i;have s1:=s0.stp ok hi o.tie o.yes;rw[Vz,yC hy];generalize aY W T i=rs at s0 s1;have ba:=jw ok;have bb:Bt 113 (W.tie y.tie).bot:=by have ot:=o.tie.ok ok;have:=ot.b0;have:=ot.b1;exact Bt.mono (m:=7) (by unfold Bt;lia) ⋯
  have b0:0<(W.tie y.tie).bot:=by have:=(o.tie.ok ok).b0;lia
  have tt:∀(rs:List Fr),eV W S T.length rs->∀b,cF [.d (dF (rs.getD i (1,1))),.d (dF (ch W y.tie b))]=some (.d (dF (tm (rs.getD i (1,1)) (ch W y.tie b))),[.d (dF (rs.getD i (1,1))),.d (dF (ch W y.tie b))]):=λrs s b=>by have r:=s.one ok h hi;have c:=wn ok o.tie b;exact ka r.pos c.pos (r.bt ba.2 ba.1).1 (r.bt ba.2 ba.1).2 (c.bt bb b0).1 (c.bt bb b0).2 ⋯
  have u1:y.yes≠-1->_:=λz=>GH (W:=W) (T:=T) (k:=y.tie) (b:=true) (l:=y.yes) (v4:=some (.d (bg y))) (by rw[s0.len];exact hi) (tt rs s0 true) z (by rw[s0.len];exact o.yes.rng);have u2:y.no≠-1->_:=λz=>GH (W:=W) (T:=T) (k:=y.tie) (b:=false) (l:=y.no) (v4:=some (.d (bg y))) (by rw[s1.len];exact hi) (tt _ s1 false) z (by rw[s1.len];exact o.no.rng);have tw:=xl ok o.tie;have go:∃u5 u6,dz (nE W T rs (some (.d (.int i))) (some (.d (bg y))) v5 v6)=some (.nx (nE W T (vN W rs i y) (some (.d (.int i))) (some (.d (bg y))) u5 u6)):=by
   unfold dz;rw[cx (items:=lq W y) (e1:=nE W T rs (some (.d (.int i))) (some (.d (bg y))) v5 v6) (show mD (nE W T rs (some (.d (.int i))) (some (.d (bg y))) v5 v6)=_ from tY (by simp?[nE,tw]))];unfold vN lq;by_cases c1:y.yes=-1
   ·by_cases c2:y.no=-1;·rw[c1,c2,pW,pW];exact⟨_,_,rfl⟩
    ·have u:=u2 c2;rw[c1,pW]at u;rw[c1,pW];simp only[if_neg c2,if_true,Ux,lm];unfold nE at u⊢;refine⟨some (.d (.int y.no)),some (.d (dF (ch W y.tie false))),?_⟩;simp only[iX,aO,am,af,aN,Yz,YA,Ul,u,if_pos aV]
   ·have v:=u1 c1;by_cases c2:y.no=-1;·rw[c2,pW];simp only[if_neg c1,if_true,Vs,lm];unfold nE at v⊢;refine⟨some (.d (.int y.yes)),some (.d (dF (ch W y.tie true))),?_⟩;simp only[iX,aO,am,af,aN,Yz,YA,Ul,v,if_pos aV]
    ·have u:=u2 c2;simp only[if_neg c1,if_neg c2,VQ,Ux,lm];unfold nE at u v⊢;refine⟨some (.d (.int y.no)),some (.d (dF (ch W y.tie false))),?_⟩;simp only[iX,aO,am,af,aN,Yz,YA,Ul,u,v,if_pos aV]
  obtain⟨u5,u6,go⟩:=go;exact⟨nE W T rs (some (.d (.int i))) (some (.d (bg y))) v5 v6,_,by simp?[nE],go,aV,_,_,_,_,rfl⟩) ⟨none,none,none,none,rfl⟩;subst he;rw[Vz,m8,Uq]at h1;have hfor:∀Wl,cH Wl mE (aO (am (af 3) (am (af 4) aN))) dz (nE W T (aY W T 0) none none none none)=some (.nx (nE W T (aY W T T.length) v3 v4 v5 v6)):=λWl=>by rw[cx (items:=jW 0 (T.map bg)) (e1:=nE W T (aY W T 0) none none none none) rfl];exact h1
 obtain⟨t',hc⟩:=bI (cs:=[]) (ft:=aX) (fe:=jy) (b:=λ_=>true) (y:=λ_=>dF (1,1)) (T.map bg) none [] (λx hx=>rfl) (λx hx _=>rfl) ↥7;have hv:=dg (cp:=[]) (nT:=1) (fi:=mF) (g:=af 0) (ft:=aX) (fe:=jy) (e:=[some (.d (ax W)),some (.d (.tuple (T.map bg))),none,none,none,none,none]) (cs:=[]) (t:=[none]) (t':=[t']) rfl rfl rfl hc;have hl:([]++((T.map bg).filter λ_=>true).map λ_=>dF (1,1))=(aY W T 0).map dF:=by rw[Ux,VU.mpr ↥4,UJ];exact XT (by simp[aY]) λj h1 h2=>by simp[aY]
 rw[hl]at hv;unfold nE at hfor;simp?[cE,pd,hv,hfor]
def hE(W:aA)(T:List Nd)(ss:List Fr)(v3 v4:Option Sv):En:=[some (.d (ax W)),some (.d (.tuple (T.map bg))),some (.l (ss.map dF)),v3,v4]
theorem Ej{W:aA}(ok:W.Ok){i:Nat}(hi:i<=65535){f:Fr}(h:l9 (eD W) i f):Bt 129 f.1/\Bt 129 f.2:=by have b:=jw ok;obtain⟨b1,b2⟩:=h.bt b.2 b.1 (m:=16) (by unfold Bt;lia);exact⟨b1,b2.mono ⋯⟩
theorem mU{W:aA}(ok:W.Ok){T:List Nd}{S:Nat->Std}(h:be W T S)(hT:T.length<=65535):bO [.d (ax W),.d (.tuple (T.map bg))]=some (.d (.tuple ((lr W T (aY W T T.length) T.length).map dF)),[.d (ax W),.d (.tuple (T.map bg))]):=by
 have tr:=qk ok h hT;have hr:=eV.all ok h T.length;have ba:=jw ok;generalize aY W T T.length=rs at tr hr;obtain⟨e2,h1,⟨v3,v4,he⟩⟩:=cB (own:=[]) (g:=aO (am (af 3) (am (af 4) aN))) (f:=dY) (λi e=>∃v3 v4,e=hE W T (lr W T rs i) v3 v4) (cI (T.map bg) (rs.map dF)) 0 (hE W T (lr W T rs 0) none none) (λi x e hx⟨v3,v4,he⟩=>by
  subst he;obtain⟨d1,d2,g1,g2,rfl⟩:=mZ hx;rw[Ut]at g1 g2;obtain⟨y,hy,rfl⟩:=TB g1;obtain⟨r,hr2,rfl⟩:=TB g2;have hi:i<T.length:=(TC hy).1;have o:=h i y hy;have e0:rs.getD i (1,1)=r:=by simp[hr2]
  have ro:=hr.one ok h hi;rw[e0]at ro;have s0:=xt.all ok h hr i;rw[Vz,Bp hy,e0];generalize lr W T rs i=ss at s0;have k0:=o.tie.1;have k1:y.tie<(ss.length:Int):=by rw[s0.len];exact o.tie.2
  have ha:=oZ (z:=(0,1)) k0 k1;have hil:y.tie.toNat<ss.length:=by lia
  have e1:ss[y.tie.toNat]?=some (ss.getD y.tie.toNat (0,1)):=by simp[hil]
  have so:=s0.at' _ _ e1;have b1:=Ej ok ↥0 so;have b2:=ro.bt ba.2 ba.1;have tp:=qY so.pos ro.pos b1.1 b1.2 (b2.1.mono ⋯) (b2.2.mono ⋯) ⋯;have hix:oz ss.length y.tie=some y.tie.toNat:=by unfold oz;rw[if_pos k0,if_pos k1]
  refine⟨hE W T ss (some (.d (bg y))) (some (.d (dF r))),hE W T (J7 ss y.tie r) (some (.d (bg y))) (some (.d (dF r))),by simp?[hE],?_,aV,_,_,rfl⟩;unfold J7;generalize ss.getD y.tie.toNat (0,1)=s at tp ha;simp?[hE,dY,bg,ha,tp,vO,lN,hix,List.map_set]) ⟨none,none,rfl⟩;subst he;rw[Vz,iV,Uq,Uq,hr.len,Nat.min_self]at h1;have hfor:∀Wl,cH Wl ia (aO (am (af 3) (am (af 4) aN))) dY (hE W T (lr W T rs 0) none none)=some (.nx (hE W T (lr W T rs T.length) v3 v4)):=λWl=>by rw[cx (items:=cI (T.map bg) (rs.map dF)) (e1:=hE W T (lr W T rs 0) none none) (by simp?[hE,ia,nH,tr])];exact h1
 obtain⟨t',hc⟩:=bI (cs:=[]) (ft:=aX) (fe:=h_) (b:=λ_=>true) (y:=λ_=>dF (0,1)) (W.ties.map bi) none [] (λx hx=>rfl) (λx hx _=>rfl) (by have:=ok.len;simp;lia);have gw:∀e,bF e (.d (ax W)) (.d (.int 1))=some (.d (.tuple (W.ties.map bi))):=λe=>by rw[cA,gu,cU];rfl
 have hv:=dg (cp:=[]) (nT:=1) (fi:=ib) (g:=af 0) (ft:=aX) (fe:=h_) (e:=[some (.d (ax W)),some (.d (.tuple (T.map bg))),none,none,none]) (cs:=[]) (t:=[none]) (t':=[t']) (show ib _=_ from lF (by simp?[gw];rfl)) rfl rfl hc;have hl:([]++((W.ties.map bi).filter λ_=>true).map λ_=>dF (0,1))=(lr W T rs 0).map dF:=by rw[Ux,VU.mpr ↥4,UJ];exact XT (by simp[lr]) λj h1 h2=>by simp[lr]
 rw[hl]at hv;unfold hE at hfor;simp?[bO,mj,hv,hfor]
theorem Ar{W:aA}(ok:W.Ok){k:Int}{as:List Int}{y n:Fr}(h:sj W k as y n):dJ [.d (bi (W.tie k)),.d (dF y),.d (dF n)]=some (.d (dF (aw W k y n)),[.d (bi (W.tie k)),.d (dF y),.d (dF n)]):=by
 have i1:=AF (l:=as.length+1);have ot:=h.inw.ok ok;have bt0:Bt 140 (W.tie k).bot:=by have:=ot.b0;have:=ot.b1;exact Bt.mono (m:=7) (by unfold Bt;lia) ⋯
 have bp0:0<(W.tie k).bot:=by have:=ot.b0;lia
 have w:=h.w ok;have t1:=h.t1 ok;have t2:=h.t2 ok;have t3:=h.t3 ok;have c1:=wn ok h.inw true;have c2:=wn ok h.inw false;have bw:=w.b ok ↥0 ↥0;have by':=h.y.b ok ↥0 ↥0;have bn:=h.n.b ok ↥0 ↥0;have b1:=t1.b ok ↥0 ↥0;have b2:=t2.b ok ↥0 ↥0;have b3:=t3.b ok ↥0 ↥0;have p1:=qY (a:=((W.tie k).worth,1)) (b:=y) w.pos h.y.pos bw.1 bw.2 by'.1 by'.2 ⋯;rw[show dF ((W.tie k).worth,1)=.tuple [.int (W.tie k).worth,.int 1]from rfl]at p1;have p2:=ka (a:=ch W k true) (b:=pl ((W.tie k).worth,1) y) c1.pos t1.pos (c1.bt bt0 bp0).1 (c1.bt bt0 bp0).2 b1.1 b1.2 ⋯;rw[xM]at p2;have ol:=oS ok h.inw;have p3:=ka (a:=ch W k false) (b:=n) c2.pos h.n.pos (c2.bt bt0 bp0).1 (c2.bt bt0 bp0).2 bn.1 bn.2 ⋯;have p4:i3 [.d (dF (tm (ch W k true) (pl ((W.tie k).worth,1) y))),.d (dF (tm (ch W k false) n))]=some (.d (dF (aw W k y n)),[.d (dF (tm (ch W k true) (pl ((W.tie k).worth,1) y))),.d (dF (tm (ch W k false) n))]):=qY t2.pos t3.pos b2.1 b2.2 b3.1 b3.2 ⋯;generalize dF (aw W k y n)=A at p4⊢;generalize dF (tm (ch W k true) (pl ((W.tie k).worth,1) y))=B at p2 p4;generalize dF (tm (ch W k false) n)=C at p3 p4;generalize dF (pl ((W.tie k).worth,1) y)=D at p1 p2;simp?[dJ,mi,bi,p1,p2,ol,p3,p4]
theorem qj{ws:List Fr}{l:Int}(h0:-1<=l)(h1:l<(ws.length:Int)):bL [.l (ws.map dF),.d (.int l)]=some (.d (dF (lk ws l)),[.l (ws.map dF),.d (.int l)]):=by
 by_cases c:l=-1;·subst c;have:dF (lk ws (-1))=.tuple [.int 0,.int 1]:=rfl;rw[this];simp?[bL,fY,vU]
 ·have:=BJ c h0 h1;simp?[bL,fY,vU,c,this]
theorem yL{W:aA}(ok:W.Ok){S:Nat->Std}{T:List Nd}{ws:List Fr}{i:Nat}{x:Nd}(h:be W T S)(hs:n_ W S T.length ws)(hx:T[i]?=some x):cc [.d (ax W),.d (bg x),.l (ws.map dF)]=some (.d (dF (aw W x.tie (lk ws x.yes) (lk ws x.no))),[.d (ax W),.d (bg x),.l (ws.map dF)]):=by
 have o:=h i x hx;have gw:∀e,bF e (.d (ax W)) (.d (.int 1))=some (.d (.tuple (W.ties.map bi))):=λe=>by rw[cA,gu,cU];rfl
 have ha:=fU o.tie;have l1:=qj (ws:=ws) (l:=x.yes) o.yes.rng.1 (by rw[hs.len];exact o.yes.rng.2);have l2:=qj (ws:=ws) (l:=x.no) o.no.rng.1 (by rw[hs.len];exact o.no.rng.2);have ta:=Ar ok (Jz ok h hs hx);generalize dF (aw W x.tie (lk ws x.yes) (lk ws x.no))=A at ta⊢;simp?[cc,lx,bg,gw,ha,l1,l2,ta]
def oW(W:aA)(T:List Nd)(ws:List Fr)(v3:Option Sv):En:=[some (.d (ax W)),some (.d (.tuple (T.map bg))),some (.l (ws.map dF)),v3]
theorem mX{W:aA}(ok:W.Ok){T:List Nd}{S:Nat->Std}(h:be W T S)(hT:T.length<=65535):cm [.d (ax W),.d (.tuple (T.map bg))]=some (.d (.tuple ((eA W T T.length).map dF)),[.d (ax W),.d (.tuple (T.map bg))]):=by
 obtain⟨e2,h1,⟨v3,he⟩⟩:=cB (own:=[]) (g:=af 3) (f:=ik) (λm e=>∃v3,e=oW W T (eA W T m) v3) (pz ((T.length:Int)-1) T.length) 0 (oW W T (eA W T 0) none) (λm x e hx⟨v3,he⟩=>by
  subst he;obtain⟨rfl,hm⟩:=CV hx;have hy:T[T.length-1-m]?=some (T[T.length-1-m]'↥0):=Um ↥0;generalize T[T.length-1-m]'↥0=y at hy;rw[Vz,GV hy];rw[show((T.length:Int)-1-(m:Int))=((T.length-1-m:Nat):Int) by lia];have hi:T.length-1-m<T.length:=by lia
  generalize T.length-1-m=i at hy hi;have s0:=n_.all ok h m;generalize eA W T m=ws at s0;have tn:=yL ok h s0 hy;have ha:=Hd hy;have hix:oz ws.length (i:Int)=some i:=by unfold oz;rw[if_pos ↥0,if_pos (by rw[s0.len];lia)];simp
  refine⟨oW W T ws (some (.d (.int (i:Int)))),oW W T (wd1 W ws i y) (some (.d (.int (i:Int)))),rfl,?_,aV,_,rfl⟩;unfold wd1;generalize aw W y.tie (lk ws y.yes) (lk ws y.no)=A at tn;simp?[oW,ik,ha,tn,vO,lN,hix,List.map_set]) ⟨none,rfl⟩;subst he;rw[Vz,CW]at h1;have hfor:∀Wl,cH Wl km (af 3) ik (oW W T (eA W T 0) none)=some (.nx (oW W T (eA W T T.length) v3)):=λWl=>by
  rw[cx (items:=pz ((T.length:Int)-1) T.length) (e1:=oW W T (eA W T 0) none) (by
   have z:(T.length:Int)<=100000:=by lia
   simp?[oW,km,B3,z])];exact h1
 obtain⟨t',hc⟩:=bI (cs:=[]) (ft:=aX) (fe:=kg) (b:=λ_=>true) (y:=λ_=>dF (0,1)) (T.map bg) none [] (λx hx=>rfl) (λx hx _=>rfl) ↥7;have hv:=dg (cp:=[]) (nT:=1) (fi:=nI) (g:=af 0) (ft:=aX) (fe:=kg) (e:=[some (.d (ax W)),some (.d (.tuple (T.map bg))),none,none]) (cs:=[]) (t:=[none]) (t':=[t']) rfl rfl rfl hc;have hl:([]++((T.map bg).filter λ_=>true).map λ_=>dF (0,1))=(eA W T 0).map dF:=by rw[Ux,VU.mpr ↥4,UJ];exact XT (by simp[eA]) λj h1 h2=>by simp[eA]
 rw[hl]at hv;unfold oW at hfor;simp?[cm,rA,hv,hfor]
theorem uW{W:aA}(ok:W.Ok){T:List Nd}{S:Nat->Std}(h:be W T S)(hT:T.length<=65535):cw [.d (ax W),.d (.tuple (T.map bg))]=some (.d (dF ((eA W T T.length++[(0,1)]).getD 0 (0,1))),[.d (ax W),.d (.tuple (T.map bg))]):=by
 have tw:=mX ok h hT;have ln:=(n_.all ok h T.length).len;generalize eA W T T.length=ws at tw ln;by_cases c:T.length=0;·have:ws=[]:=Yl.mp ↥0;subst this;have e:dF (([]++[((0:Int),(1:Int))]).getD 0 (0,1))=.tuple [.int 0,.int 1]:=rfl;rw[e];simp?[cw,oj,vU,c]
 ·have c2:0<T.length:=by lia
  have ha:=AN (rs:=ws) (i:=0) (z:=(0,1)) ↥0;have e:(ws++[((0:Int),(1:Int))]).getD 0 (0,1)=ws.getD 0 (0,1):=by
   have:0<ws.length:=by lia
   simp[this]
  rw[e];generalize ws.getD 0 (0,1)=A at ha;simp only[Int.ofNat_zero,Int.natCast_zero]at ha;simp?[cw,oj,vU,c2,tw,ha]
theorem Aw{n:Int}{t:kd}(o:t.Ok n):cv [.d (.tuple [.int t.top,.int t.bot])]=some (.d (dF (qo t false)),[.d (.tuple [.int t.top,.int t.bot])]):=by have b0:=o.b0;have b1:=o.b1;have tl:=mW (t.bot-t.top) t.bot ↥0 (Bt.mono (m:=7) (by unfold Bt;lia) ⋯);rw[zH ↥0 o.cop]at tl;simp?[cv,oh,tl,qo]
theorem Jd{t:kd}:uh [.d (.tuple [.int t.top,.int t.bot])]=some (.d (dF (qo t false)),[.d (.tuple [.int t.top,.int t.bot])]):=by simp?[uh,Ea,qo,dF]
theorem wo{n:Int}{c0 a0:Option Sv}:∀(ts:List kd) (bs:List Bool) (M:Int) (k:Nat) (a:Fr) (v3 v4:Option Sv),(∀t∈ts,t.Ok n)->bs.length=ts.length->0<M->Bt k M->k+7*ts.length<=120->u_ M a->∃w3 w4,iX [] (aO (am (af 3) (am (af 4) aN))) di (cI (ts.map λt=>.tuple [.int t.top,.int t.bot]) (bs.map .bool)) [c0,a0,some (.d (dF a)),v3,v4]=some (.nx [c0,a0,some (.d (dF (oX a ts bs))),w3,w4])
 |[],[],M,k,a,v3,v4,_,_,_,_,_,_=>⟨v3,v4,rfl⟩|[],_::_,_,_,_,_,_,_,hl,_,_,_,_=>by simp at hl|_::_,[],_,_,_,_,_,_,hl,_,_,_,_=>by simp at hl|t::ts,b::bs,M,k,a,v3,v4,ho,hl,hM,hb,hk,h=>by
  have o:=ho t ↥1;have b0:=o.b0;have b1:=o.b1;have rc:=tO o b;simp only[Vc]at hk;obtain⟨c1,c2⟩:=h.bt hb hM;obtain⟨c3,c4⟩:=rc.bt (n:=7) (by unfold Bt;lia) ↥0;have tt:=ka (a:=a) (b:=qo t b) (n:=300) h.pos rc.pos (c1.mono ↥0) (c2.mono ↥0) (c3.mono ↥0) (c4.mono ↥0) ↥0;have to:=Aw o;obtain⟨w3,w4,ih⟩:=wo (c0:=c0) (a0:=a0) ts bs (M*t.bot) (k+7) (tm a (qo t b)) (some (.d (.tuple [.int t.top,.int t.bot]))) (some (.d (.bool b))) (λx hx=>ho x (by simp[hx])) (by simpa using hl) (UO hM ↥0) (hb.mul (show Bt 7 t.bot by unfold Bt;lia)) ↥0 (h.tm rc);refine⟨w3,w4,?_⟩;have hg:aO (am (af 3) (am (af 4) aN)) (.tuple [.tuple [.int t.top,.int t.bot],.bool b]) [c0,a0,some (.d (dF a)),v3,v4]=some [c0,a0,some (.d (dF a)),some (.d (.tuple [.int t.top,.int t.bot])),some (.d (.bool b))]:=rfl;have hbd:di [c0,a0,some (.d (dF a)),some (.d (.tuple [.int t.top,.int t.bot])),some (.d (.bool b))]=some (.nx [c0,a0,some (.d (dF (tm a (qo t b)))),some (.d (.tuple [.int t.top,.int t.bot])),some (.d (.bool b))]):=by cases b with|true=>have e:dF (qo t true)=.tuple [.int t.top,.int t.bot]:=rfl;rw[e]at tt;simp?[di,tt]|false=>simp?[di,to,tt]
  simp only[Uo,cI,iX,hg,Ul,hbd];rw[if_pos aV];exact ih
theorem yu:u_ 1 ((1,1):Fr):=⟨by decide,by decide,by decide,Xx _⟩
theorem Av{W:aA}(ok:W.Ok){bs:List Bool}(hl:bs.length=W.ties.length):iK [.d (ax W),.d (.tuple (bs.map .bool))]=some (.d (dF (oX (1,1) W.ties bs)),[.d (ax W),.d (.tuple (bs.map .bool))]):=by
 have wl:=ok.len;have g1':∀e,bF e (.d (ax W)) (.d (.int 1))=some (.d (.tuple (W.ties.map bi))):=λe=>by rw[cA,gu,cU];rfl
 have hc:∀e:En,e[0]?=some (some (.d (ax W)))->bD [] 1 kj (af 0) aX io e=some (.l (W.ties.map λt=>.tuple [.int t.top,.int t.bot]),e):=λe he=>by have hi:kj e=some (W.ties.map bi,[],e):=lF (by simp[ay,ac,he,vC,g1']);obtain⟨t',h3⟩:=bI (cs:=[]) (ft:=aX) (fe:=io) (b:=λ_=>true) (y:=λd=>match d with|.tuple [_,_,c,_]=>c|_=>.none) (W.ties.map bi) none [] ↥4 (λx hx _=>by obtain⟨t,ht,rfl⟩:=TH hx;simp?[io,bi]) ↥7;rw[VU.mpr ↥4,UJ]at h3;exact ni hi h3
 obtain⟨w3,w4,hf⟩:=wo (c0:=some (.d (.list (W.ties.map λt=>.tuple [.int t.top,.int t.bot])))) (a0:=some (.d (.tuple (bs.map .bool)))) W.ties bs 1 1 (1,1) none none (λt ht=>ok.ties t ht) hl ⋯ (by unfold Bt;decide) ↥0 yu;have hs:∀Wl,cH Wl ki (aO (am (af 3) (am (af 4) aN))) di [some (.d (.list (W.ties.map λt=>.tuple [.int t.top,.int t.bot]))),some (.d (.tuple (bs.map .bool))),some (.d (.tuple [.int 1,.int 1])),none,none]=some (.nx [some (.d (.list (W.ties.map λt=>.tuple [.int t.top,.int t.bot]))),some (.d (.tuple (bs.map .bool))),some (.d (dF (oX (1,1) W.ties bs))),w3,w4]):=λWl=>by rw[cx (show ki _=some (cI (W.ties.map λt=>.tuple [.int t.top,.int t.bot]) (bs.map .bool),[],[some (.d (.list (W.ties.map λt=>.tuple [.int t.top,.int t.bot]))),some (.d (.tuple (bs.map .bool))),some (.d (.tuple [.int 1,.int 1])),none,none]) from rfl)];exact hf
 have hb:iJ [.d (.list (W.ties.map λt=>.tuple [.int t.top,.int t.bot])),.d (.tuple (bs.map .bool))]=some (.d (dF (oX (1,1) W.ties bs)),[.d (.list (W.ties.map λt=>.tuple [.int t.top,.int t.bot])),.d (.tuple (bs.map .bool))]):=by generalize dF (oX (1,1) W.ties bs)=q at hs⊢;generalize W.ties.map (λt=>PyData.tuple [.int t.top,.int t.bot])=L at hs⊢;simp?[iJ,rj,hs]
 have hc':=hc [some (.d (ax W)),some (.d (.tuple (bs.map .bool)))] rfl;generalize dF (oX (1,1) W.ties bs)=q at hb⊢;generalize W.ties.map (λt=>PyData.tuple [.int t.top,.int t.bot])=L at hb hc';simp?[iK,rk,hc',hb]
theorem nJ{n:Int}{c0 a0:Option Sv}:∀(ts:List kd) (bs:List Bool) (M:Int) (k:Nat) (a:Fr) (v3 v4:Option Sv),(∀t∈ts,t.Ok n)->bs.length=ts.length->0<M->Bt k M->k+7*ts.length<=120->u_ M a->∃w3 w4,iX [] (aO (am (af 3) (am (af 4) aN))) dh (cI (ts.map bi) (bs.map .bool)) [c0,a0,some (.d (dF a)),v3,v4]=some (.nx [c0,a0,some (.d (dF (oX a ts bs))),w3,w4])
 |[],[],M,k,a,v3,v4,_,_,_,_,_,_=>⟨v3,v4,rfl⟩|[],_::_,_,_,_,_,_,_,hl,_,_,_,_=>by simp at hl|_::_,[],_,_,_,_,_,_,hl,_,_,_,_=>by simp at hl|t::ts,b::bs,M,k,a,v3,v4,ho,hl,hM,hb,hk,h=>by
  have o:=ho t ↥1;have b0:=o.b0;have b1:=o.b1;have rc:=tO o b;simp only[Vc]at hk;obtain⟨c1,c2⟩:=h.bt hb hM;obtain⟨c3,c4⟩:=rc.bt (n:=7) (by unfold Bt;lia) ↥0;have tt:=tu (a:=a) (b:=qo t b) (n:=300) h.pos rc.pos (c1.mono ↥0) (c2.mono ↥0) (c3.mono ↥0) (c4.mono ↥0) ↥0;have to:=Jd (t:=t);obtain⟨w3,w4,ih⟩:=nJ (c0:=c0) (a0:=a0) ts bs (M*t.bot) (k+7) (tm a (qo t b)) (some (.d (bi t))) (some (.d (.bool b))) (λx hx=>ho x (by simp[hx])) (by simpa using hl) (UO hM ↥0) (hb.mul (show Bt 7 t.bot by unfold Bt;lia)) ↥0 (h.tm rc);refine⟨w3,w4,?_⟩;have hg:aO (am (af 3) (am (af 4) aN)) (.tuple [bi t,.bool b]) [c0,a0,some (.d (dF a)),v3,v4]=some [c0,a0,some (.d (dF a)),some (.d (bi t)),some (.d (.bool b))]:=rfl;have hbd:dh [c0,a0,some (.d (dF a)),some (.d (bi t)),some (.d (.bool b))]=some (.nx [c0,a0,some (.d (dF (tm a (qo t b)))),some (.d (bi t)),some (.d (.bool b))]):=by cases b with|true=>have e:dF (qo t true)=.tuple [.int t.top,.int t.bot]:=rfl;have gi:∀e:En,g1 qC e [.d (.bool true)]=some (.d (.int 1)):=λe=>rfl;rw[e]at tt;simp?[dh,to,tt,gi,bi]|false=>have gi:∀e:En,g1 qC e [.d (.bool false)]=some (.d (.int 0)):=λe=>rfl;simp?[dh,to,tt,gi,bi]
  simp only[Uo,cI,iX,hg,Ul,hbd];rw[if_pos aV];exact ih
theorem Aq{W:aA}(ok:W.Ok){bs:List Bool}(hl:bs.length=W.ties.length):iI [.d (ax W),.d (.tuple (bs.map .bool))]=some (.d (dF (oX (1,1) W.ties bs)),[.d (ax W),.d (.tuple (bs.map .bool))]):=by
 have wl:=ok.len;have g1':∀e,bF e (.d (ax W)) (.d (.int 1))=some (.d (.tuple (W.ties.map bi))):=λe=>by rw[cA,gu,cU];rfl
 obtain⟨w3,w4,hf⟩:=nJ (c0:=some (.d (ax W))) (a0:=some (.d (.tuple (bs.map .bool)))) W.ties bs 1 1 (1,1) none none (λt ht=>ok.ties t ht) hl ⋯ (by unfold Bt;decide) ↥0 yu;have hs:∀Wl,cH Wl kh (aO (am (af 3) (am (af 4) aN))) dh [some (.d (ax W)),some (.d (.tuple (bs.map .bool))),some (.d (.tuple [.int 1,.int 1])),none,none]=some (.nx [some (.d (ax W)),some (.d (.tuple (bs.map .bool))),some (.d (dF (oX (1,1) W.ties bs))),w3,w4]):=λWl=>by rw[cx (items:=cI (W.ties.map bi) (bs.map .bool)) (e1:=[some (.d (ax W)),some (.d (.tuple (bs.map .bool))),some (.d (.tuple [.int 1,.int 1])),none,none]) (by simp?[kh,nH,g1'])];exact hf
 generalize dF (oX (1,1) W.ties bs)=q at hs⊢;simp?[iI,rh,hs]
def dB(bs:List Bool):TN:=.tuple (bs.map .bool)
theorem FH{n:Nat}(h:n<=10):2^n<=1024:=UN (XH ⋯ h) ⋯
theorem xP{e:En}{bs:List Bool}{b:Bool}(h:bs.length<=1000):cy e (.d (dB bs)) (.d (.tuple [.bool b]))=some (.d (dB (bs++[b]))):=by unfold dB;rw[qz ↥7];simp
theorem vS{n:Nat}(hn:n<=10):eH [.d (.int (n:Int))]=some (.l ((bW n).map dB),[.d (.int (n:Int))]):=by
 have step:∀(k:Nat) (v0 v2:Option Sv),k<=9->dc [v0,some (.l ((bW k).map dB)),v2]=some (.nx [v0,some (.l ((bW (k+1)).map dB)),v2]):=by
  intro k v0 v2 hk;obtain⟨pl,pr⟩:=qR k;have key:∀(rs:List (List Bool)) (t:En) (acc:List TN),t.length=2->(∀r∈rs,r.length<=1000)->acc.length+2*rs.length<=1000000->∃t',iW (af 0) aX eT (af 1) aX de (rs.map dB) t acc=some (acc++(rs.flatMap λr=>[r++[true],r++[false]]).map dB,t'):=by intro rs;induction rs with|nil=>intro t acc _ _ _;exact⟨t,by simp[iW]⟩|cons r rs ih=>
   intro t acc ht hr hl;obtain⟨a1,a2,rfl⟩:∃a1 a2,t=[a1,a2]:=by match t,ht with|[a1,a2],_=>exact⟨a1,a2,rfl⟩
   have hrl:=hr r ↥1;have gT:∀e,cy e (.d (dB r)) (.d (.tuple [.bool true]))=some (.d (dB (r++[true]))):=λe=>xP hrl;have gF:∀e,cy e (.d (dB r)) (.d (.tuple [.bool false]))=some (.d (dB (r++[false]))):=λe=>xP hrl;simp only[Vc]at hl;have l1:acc.length<1000000:=by lia
   have l2:acc.length+1<1000000:=by lia
   obtain⟨t',h⟩:=ih [some (.d (dB r)),some (.d (.bool false))] (acc++[dB (r++[true]),dB (r++[false])]) rfl (λx hx=>hr x (by simp[hx])) ↥7;refine⟨t',?_⟩;have hi:eT [some (.d (dB r)),a2]=some ([.bool true,.bool false],[],[some (.d (dB r)),a2]):=rfl;have hc:bT (af 1) aX de [.bool true,.bool false] [some (.d (dB r)),a2] acc=some (acc++[dB (r++[true]),dB (r++[false])],[some (.d (dB r)),some (.d (.bool false))]):=by simp?[bT,aX,de,gT,gF,l1,l2]
   have hg:af 0 (dB r) [a1,a2]=some [some (.d (dB r)),a2]:=rfl;simp only[Uo,iW,hg,Ul,aX,if_true,hi,hc];rw[h];simp
  obtain⟨t',h3⟩:=key (bW k) [none,none] [] rfl (λr hr=>by have:=pr r hr;lia) (by have:=FH (n:=k) ↥0;simp;lia);have hi:iZ [v0,some (.l ((bW k).map dB)),v2]=some ((bW k).map dB,[(1,(bW k).map dB)],[v0,some (.l ((bW k).map dB)),v2]):=rfl;have hv:kB [] 2 iZ (af 0) aX eT (af 1) aX de [v0,some (.l ((bW k).map dB)),v2]=some (.l ((bW (k+1)).map dB),[v0,some (.l ((bW k).map dB)),v2]):=by unfold kB;rw[hi];simp only[Ul];rw[if_pos ↥1,show oV [] 2 [v0,some (.l ((bW k).map dB)),v2]=[none,none]from rfl,h3];simp only[Ul];rw[if_pos (by simp[jv])];congr 2;refine VT λi=>?_;rw[bX];match h:([v0,some (.l ((bW k).map dB)),v2]:En)[i]? with|none=>rfl|some none=>rfl|some (some (.d x))=>rfl|some (some (.n x))=>rfl|some (some (.l x))=>rfl
  generalize (bW k).map dB=A at hv;generalize (bW (k+1)).map dB=B at hv⊢;simp?[dc,hv]
 obtain⟨e',h1,⟨v2,rfl⟩⟩:=cB (own:=[]) (g:=af 2) (f:=dc) (λi e=>∃v2,e=[some (.d (.int (n:Int))),some (.l ((bW i).map dB)),v2]) (bP 0 n) 0 [some (.d (.int (n:Int))),some (.l ((bW 0).map dB)),none] (λi x e hx⟨v2,he⟩=>by subst he;obtain⟨rfl,hi⟩:=dS hx;rw[Vz];exact⟨_,_,rfl,step i _ _ ↥0,aV,_,rfl⟩) ⟨none,rfl⟩;rw[ij,Vz]at h1;have hs:∀Wl,cH Wl i0 (af 2) dc [some (.d (.int (n:Int))),some (.l [.tuple []]),none]=some (.nx [some (.d (.int (n:Int))),some (.l ((bW n).map dB)),v2]):=λWl=>by have:=eY (fs:=aa (ac 0) ah) (e:=[some (.d (.int (n:Int))),some (.l [.tuple []]),none]) (e1:=[some (.d (.int (n:Int))),some (.l [.tuple []]),none]) (n:=(n:Int)) rfl ↥0 ↥0;rw[VP]at this;rw[cx (show i0 _=_ from this)];exact h1
 generalize (bW n).map dB=A at hs⊢;simp?[eH,nF,hs]
theorem vQ{n:Nat}(hn:n<=10):eF [.d (.int (n:Int))]=some (.l ((aQ n).map dB),[.d (.int (n:Int))]):=by
 have step:∀(k:Nat) (v0 v2:Option Sv),k<=9->c_ [v0,some (.l ((aQ k).map dB)),v2]=some (.nx [v0,some (.l ((aQ (k+1)).map dB)),v2]):=by
  intro k v0 v2 hk;obtain⟨pl,pr⟩:=fM k;have pw:=FH (n:=k) ↥0;have one:∀(fe:FE) (b:Bool),(∀r:List Bool,r.length<=1000->fe [some (.d (dB r))]=some (.d (dB (r++[b])),[some (.d (dB r))]))->∃t',bT (af 0) aX fe ((aQ k).map dB) [none] []=some (((aQ k).map (·++[b])).map dB,t'):=λfe b hfe=>by
   obtain⟨t',h3⟩:=bI (cs:=[]) (ft:=aX) (fe:=fe) (b:=λ_=>true) (y:=λd=>match d with|.tuple ds=>.tuple (ds++[.bool b])|_=>.none) ((aQ k).map dB) none [] ↥4 (λx hx _=>by obtain⟨r,hr,rfl⟩:=TH hx;have:=hfe r (by have:=pr r hr;lia);rw[Ux,this];simp[dB]) ↥7;refine⟨[]++[t'],?_⟩;rw[VU.mpr ↥4,UJ,Ux]at h3;rw[UJ];have e:XX (λd:TN=>match d with|.tuple ds=>PyData.tuple (ds++[.bool b])|_=>.none) dB=XX dB (·++[b]):=by funext r;simp[dB]
   rw[e]at h3;exact h3
  obtain⟨t1,h1⟩:=one eO true (λr hr=>by simp?[eO,xP hr]);obtain⟨t2,h2⟩:=one eP false (λr hr=>by simp?[eP,xP hr]);have hv1:bD [] 1 lT (af 0) aX eO [v0,some (.l ((aQ k).map dB)),v2]=some (.l (((aQ k).map (·++[true])).map dB),[v0,some (.l ((aQ k).map dB)),v2]):=ni (own:=[(1,(aQ k).map dB)]) rfl h1;have hv2:bD [] 1 lU (af 0) aX eP [v0,some (.l ((aQ k).map dB)),v2]=some (.l (((aQ k).map (·++[false])).map dB),[v0,some (.l ((aQ k).map dB)),v2]):=ni (own:=[(1,(aQ k).map dB)]) rfl h2;have ga:∀e,cy e (.l (((aQ k).map (·++[true])).map dB)) (.l (((aQ k).map (·++[false])).map dB))=some (.l ((aQ (k+1)).map dB)):=λe=>by rw[Hr ↥7];simp[aQ]
  generalize ((aQ k).map (·++[true])).map dB=A at hv1 ga;generalize ((aQ k).map (·++[false])).map dB=B at hv2 ga;generalize (aQ (k+1)).map dB=C at ga⊢;generalize (aQ k).map dB=D at hv1 hv2;simp?[c_,hv1,hv2,ga]
 obtain⟨e',h1,⟨v2,rfl⟩⟩:=cB (own:=[]) (g:=af 2) (f:=c_) (λi e=>∃v2,e=[some (.d (.int (n:Int))),some (.l ((aQ i).map dB)),v2]) (bP 0 n) 0 [some (.d (.int (n:Int))),some (.l ((aQ 0).map dB)),none] (λi x e hx⟨v2,he⟩=>by subst he;obtain⟨rfl,hi⟩:=dS hx;rw[Vz];exact⟨_,_,rfl,step i _ _ ↥0,aV,_,rfl⟩) ⟨none,rfl⟩;rw[ij,Vz]at h1;have hs:∀Wl,cH Wl iY (af 2) c_ [some (.d (.int (n:Int))),some (.l [.tuple []]),none]=some (.nx [some (.d (.int (n:Int))),some (.l ((aQ n).map dB)),v2]):=λWl=>by have:=eY (fs:=aa (ac 0) ah) (e:=[some (.d (.int (n:Int))),some (.l [.tuple []]),none]) (e1:=[some (.d (.int (n:Int))),some (.l [.tuple []]),none]) (n:=(n:Int)) rfl ↥0 ↥0;rw[VP]at this;rw[cx (show iY _=_ from this)];exact h1
 generalize (aQ n).map dB=A at hs⊢;simp?[eF,nD,hs]
def uE(T:List Nd)(ans:List Bool)(r:List (Int×Bool))(a:Int)(v4 v5 v6:Option Sv):En:=[some (.d (.tuple (T.map bg))),some (.d (.tuple (ans.map .bool))),some (.l (r.map dR)),some (.d (.int a)),v4,v5,v6]
theorem Bw{W:aA}(ok:W.Ok){T:List Nd}{S:Nat->Std}{ans:List Bool}(hT:be W T S)(ha:ans.length=W.ties.length):jE [.d (.tuple (T.map bg)),.d (.tuple (ans.map .bool))]=some (.d (.tuple ((rn T ans 17 (rt T)).map dR)),[.d (.tuple (T.map bg)),.d (.tuple (ans.map .bool))]):=by
 have tst:∀r a v4 v5 v6,f9 (uE T ans r a v4 v5 v6)=some (decide (0<=a),uE T ans r a v4 v5 v6):=λr a v4 v5 v6=>by simp?[uE,f9]
 obtain⟨e0,e',hw,⟨r,a,v4,v5,v6,rfl,hr⟩,hf⟩:=fg (ft:=f9) (f:=i9) (λe=>∃r a v4 v5 v6,e=uE T ans r a v4 v5 v6/\kJ W T S ans r a) (λe=>17-gZ 2 e) (λe⟨r,a,v4,v5,v6,he,hr⟩=>by
  subst he;by_cases c:0<=a
  ·obtain⟨h1,h2,h3,h4⟩:=hr.step ok hT c;have l1:∀r a v4 v5 v6,gZ 2 (uE T ans r a v4 v5 v6)=r.length:=λr a v4 v5 v6=>by simp[uE,gZ]
   refine .inr ⟨uE T ans r a v4 v5 v6,uE T ans _ _ (some (.d (.int (aS T a).tie))) (some (.d (.int (aS T a).yes))) (some (.d (.int (aS T a).no))),(by rw[tst,decide_eq_true c]),?_,⟨_,_,_,_,_,rfl,h4⟩,by rw[l1,l1];simp;lia⟩;have n1:=xC c h1;have b1:=vY (bs:=ans) h3.1 (by rw[ha];exact h3.2);have rl:r.length<1000000:=by lia
   generalize ans.getD (aS T a).tie.toNat false=b at b1 h4;cases b<;>simp?[uE,i9,n1,bg,b1,dR,rl]
  ·exact .inl ⟨_,(by rw[tst,decide_eq_false c]),trivial⟩) (2^4200) (uE T ans [] (rt T) none none none) ⟨[],rt T,none,none,none,rfl,kJ.first⟩ (lK (m:=20) (by simp[uE,gZ]) ⋯);rw[tst]at hf;have c:¬0<=a:=by intro c;rw[decide_eq_true c]at hf;simp at hf
 rw[decide_eq_false c]at hf;simp at hf;subst hf;have hd:=hr.done ↥0;rw[<-hd];have hw':eZ (2^4200) f9 i9 (uE T ans [] (rt T) none none none)=some (.nx (uE T ans r a v4 v5 v6)):=hw;have hrt:((-1:Int)+if 0<T.length then 1 else 0)=rt T:=by
  unfold rt;by_cases z:T.length=0;·simp[z]
  ·have:0<T.length:=by lia
   simp[z,this]
 unfold uE at hw';simp only[Uv]at hw';simp?[jE,tM,hrt,hw']
def BE(W:aA)(T:List Nd)(ans:List Bool)(r:List (Int×Bool))(a:Int)(v5 v6 v7:Option Sv):En:=[some (.d (ax W)),some (.d (.tuple (T.map bg))),some (.d (.tuple (ans.map .bool))),some (.l (r.map dR)),some (.d (.int a)),v5,v6,v7]
theorem Bx{W:aA}(ok:W.Ok){T:List Nd}{S:Nat->Std}{ans:List Bool}(hT:be W T S)(ha:ans.length=W.ties.length):ie [.d (ax W),.d (.tuple (T.map bg)),.d (.tuple (ans.map .bool))]=some (.d (.tuple ((rn T ans 17 (rt T)).map dR)),[.d (ax W),.d (.tuple (T.map bg)),.d (.tuple (ans.map .bool))])/\Sz 1000 6 (.tuple ((rn T ans 17 (rt T)).map dR)):=by
 have tst:∀r a v5 v6 v7,f_ (BE W T ans r a v5 v6 v7)=some (!(a==-1),BE W T ans r a v5 v6 v7):=λr a v5 v6 v7=>by simp?[BE,f_]
 obtain⟨e0,e',hw,⟨r,a,v5,v6,v7,rfl,hr⟩,hf⟩:=fg (ft:=f_) (f:=i_) (λe=>∃r a v5 v6 v7,e=BE W T ans r a v5 v6 v7/\kJ W T S ans r a) (λe=>17-gZ 3 e) (λe⟨r,a,v5,v6,v7,he,hr⟩=>by
  subst he;by_cases z:a=-1;·exact .inl ⟨BE W T ans r a v5 v6 v7,(by rw[tst];simp[z]),trivial⟩
  ·have c:0<=a:=by rcases hr.at' with y|y<;>lia
   obtain⟨h1,h2,h3,h4⟩:=hr.step ok hT c;have l1:∀r a v5 v6 v7,gZ 3 (BE W T ans r a v5 v6 v7)=r.length:=λr a v5 v6 v7=>by simp[BE,gZ]
   refine .inr ⟨BE W T ans r a v5 v6 v7,BE W T ans _ _ (some (.d (.int (aS T a).tie))) (some (.d (.int (aS T a).yes))) (some (.d (.int (aS T a).no))),(by rw[tst];simp[z]),?_,⟨_,_,_,_,_,rfl,h4⟩,by rw[l1,l1];simp;lia⟩;have n1:=xC c h1;have b1:=vY (bs:=ans) h3.1 (by rw[ha];exact h3.2);have rl:r.length<1000000:=by lia
   generalize ans.getD (aS T a).tie.toNat false=b at b1 h4;cases b<;>simp?[BE,i_,n1,bg,b1,dR,rl]) (2^4200) (BE W T ans [] (rt T) none none none) ⟨[],rt T,none,none,none,rfl,kJ.first⟩ (lK (m:=20) (by simp[BE,gZ]) ⋯);rw[tst]at hf;have c:a=-1:=by
  by_cases c:a=-1;·exact c
  ·simp[c]at hf
 simp[c]at hf;subst hf;have hd:=hr.done ↥0;rw[<-hd];refine⟨?_,Sz.run ok hr.len hr.inw⟩;have hw':eZ (2^4200) f_ i_ (BE W T ans [] (rt T) none none none)=some (.nx (BE W T ans r a v5 v6 v7)):=by rw[c];exact hw
 unfold BE rt at hw';simp only[Uv]at hw';by_cases z:T.length=0;·simp only[if_pos z]at hw';simp?[ie,oi,z,hw']
 ·have z2:0<T.length:=by lia
  simp only[if_neg z]at hw';simp?[ie,oi,z2,hw']
theorem Gi{W:aA}(ok:W.Ok){T:List Nd}{S:Nat->Std}(hT:be W T S){ans:List Bool}:∀(n:Nat) (r:List (Int×Bool)) (a:Int),16-r.length=n->kJ W T S ans r a->(rn T ans 17 (rt T)).length<=16/\∀p∈rn T ans 17 (rt T),kc W p.1
 |n,r,a,hn,h=>by
  by_cases c:0<=a;·obtain⟨_,h2,_,h4⟩:=h.step ok hT c;cases n with|zero=>lia|succ n=>exact Gi ok hT n _ _ ↥7 h4
  ·rw[<-h.done ↥0];exact⟨h.len,h.inw⟩
theorem Cn{W:aA}(ok:W.Ok){T:List Nd}{S:Nat->Std}(hT:be W T S)(ans:List Bool):(rn T ans 17 (rt T)).length<=16/\∀p∈rn T ans 17 (rt T),kc W p.1:=Gi ok hT _ [] (rt T) rfl kJ.first
def sS(r:List (Int×Bool)):List Int:=(r.filter (·.2)).map (·.1)
def kw(W:aA)(r:List (Int×Bool)):Int:=((sS r).map λk=>(W.tie k).worth).sum
theorem Ca{r:List (Int×Bool)}{k:Int}(h:k∈sS r):∃p∈r,p.1=k:=by unfold sS at h;obtain⟨p,hp,e⟩:=TH h;exact⟨p,(Wg.mp hp).1,e⟩
theorem B'{r:List (Int×Bool)}:(sS r).length<=r.length:=by unfold sS;rw[Uq];exact List.length_filter_le _ _
theorem Bv{W:aA}(ok:W.Ok):∀(ks:List Int),(∀k∈ks,kc W k)->0<=(ks.map λk=>(W.tie k).worth).sum/\(ks.map λk=>(W.tie k).worth).sum<=1000*(ks.length:Int)|[],_=>by simp|k::ks,h=>by obtain⟨a,b⟩:=Bv ok ks λk hk=>h k (by simp[hk]);have o:=(h k ↥1).ok ok;have:=o.w0;have:=o.w1;simp only[Uo,UY,Vc];lia
theorem JP{W:aA}(ok:W.Ok){r:List (Int×Bool)}(hr:r.length<=16/\∀p∈r,kc W p.1):0<=kw W r/\kw W r<=16000:=by
 obtain⟨a,b⟩:=Bv ok (sS r) λk hk=>by obtain⟨p,hp,rfl⟩:=Ca hk;exact hr.2 p hp
 have:=B' (r:=r);unfold kw;lia
def zq:TN->TN|.tuple [a,_]=>a|_=>.none
def Ap:TN->TN|.tuple [_,b]=>b|_=>.none
def wj:TN->Bool|.bool b=>b|_=>false
def wK:TN->Int|.int i=>i|_=>0
theorem B_{r:List (Int×Bool)}:((r.map dR).filter λd=>wj (Ap d)).map zq=(sS r).map .int:=by induction r with|nil=>rfl|cons p r ih=>
 obtain⟨a,b⟩:=p;unfold sS at ih⊢;cases b;·exact ih
 ·exact congrArg (PyData.int a::·) ih
theorem KS{W:aA}{r:List (Int×Bool)}:((r.map dR).filter λd=>wj (Ap d)).map (λd=>PyData.int (W.tie (wK (zq d))).worth)=((sS r).map λk=>(W.tie k).worth).map .int:=by
 have:((r.map dR).filter λd=>wj (Ap d)).map (λd=>PyData.int (W.tie (wK (zq d))).worth)=(((r.map dR).filter λd=>wj (Ap d)).map zq).map λd=>PyData.int (W.tie (wK d)).worth:=by rw[UJ];rfl
 rw[this,B_,UJ,UJ];rfl
theorem DH{r:List (Int×Bool)}(hl:r.length<=1000):k7 [.d (.tuple (r.map dR))]=some (.d (.tuple ((sS r).map .int)),[.d (.tuple (r.map dR))]):=by obtain⟨t',e1,hf⟩:=hZ (cs:=[]) (g:=aO (am (af 0) (am (af 1) aN))) (ft:=mq) (fe:=mr) (b:=λd=>wj (Ap d)) (y:=zq) (u:=λd=>[some (.d (zq d)),some (.d (Ap d))]) 2 (r.map dR) [none,none] [] rfl (λx hx t ht=>by obtain⟨p,hp,rfl⟩:=TH hx;match t,ht with|[a1,a2],_=>rfl) (λx hx=>rfl) (λx hx=>by obtain⟨p,hp,rfl⟩:=TH hx;rfl) (λx hx _=>by obtain⟨p,hp,rfl⟩:=TH hx;rfl) ↥7;rw[Ux,B_]at hf;have hv:bD [] 2 rY (aO (am (af 0) (am (af 1) aN))) mq mr [some (.d (.tuple (r.map dR)))]=some (.l ((sS r).map .int),[some (.d (.tuple (r.map dR)))]):=ni (own:=[]) rfl hf;generalize (sS r).map PyData.int=A at*;generalize r.map dR=B at*;simp?[k7,wb,hv]
theorem M9{e:En}{ws:List Int}:g1 (i4 wF) e [.l (ws.map .int)]=some (.d (.int ws.sum)):=by simp[g1,i4,iS,wF,qI]
theorem yO{W:aA}{r:List (Int×Bool)}(hr:r.length<=16/\∀p∈r,kc W p.1):gD [.d (ax W),.d (.tuple (r.map dR))]=some (.d (.int (kw W r)),[.d (ax W),.d (.tuple (r.map dR))]):=by
 have g1':∀e:En,bF e (.d (ax W)) (.d (.int 1))=some (.d (.tuple (W.ties.map bi))):=λe=>by rw[cA,gu,cU];rfl
 have kl:=B' (r:=r);have tk:=DH (r:=r) ↥0;obtain⟨t1,hf1⟩:=bI (cs:=[some (.d (ax W))]) (ft:=aX) (fe:=gn) (b:=λ_=>true) (y:=λx=>.int (W.tie (wK x)).worth) ((sS r).map .int) none [] (λx hx=>rfl) (λx hx _=>by obtain⟨k,hk',rfl⟩:=TH hx;obtain⟨p,hp,rfl⟩:=Ca hk';have ai:=fU (W:=W) (k:=p.1) (hr.2 p hp);show gn [some (.d (ax W)),some (.d (.int p.1))]=some (.d (.int (W.tie p.1).worth),[some (.d (ax W)),some (.d (.int p.1))]);unfold bi at ai g1';generalize (W.tie p.1).worth=w at*;generalize (W.ties.map λt=>PyData.tuple [.int t.one,.int t.other,.tuple [.int t.top,.int t.bot],.int t.worth])=TT at*;simp?[gn,g1',ai]) ↥7;rw[Ux,VU.mpr ↥4,show(((sS r).map PyData.int).map λx=>PyData.int (W.tie (wK x)).worth)=((sS r).map λk=>(W.tie k).worth).map .int by rw[UJ,UJ];rfl]at hf1;have hi:mH [some (.d (ax W)),some (.d (.tuple (r.map dR)))]=some ((sS r).map .int,[],[some (.d (ax W)),some (.d (.tuple (r.map dR)))]):=lF (by generalize (sS r).map PyData.int=A at*;simp?[tk]);have hv:=oU (cp:=[(0,"web")]) (nT:=1) (g:=af 1) hi hf1 rfl;have s:=λe:En=>M9 (e:=e) (ws:=(sS r).map λk=>(W.tie k).worth);unfold kw;generalize ((sS r).map λk=>(W.tie k).worth).sum=w at*;generalize ((sS r).map λk=>(W.tie k).worth).map PyData.int=A at*;simp?[gD,pe,hv,s]
theorem LR{W:aA}{r:List (Int×Bool)}(hr:r.length<=16/\∀p∈r,kc W p.1):ug [.d (ax W),.d (.tuple (r.map dR))]=some (.d (.int (kw W r)),[.d (ax W),.d (.tuple (r.map dR))]):=by
 have g1':∀e:En,bF e (.d (ax W)) (.d (.int 1))=some (.d (.tuple (W.ties.map bi))):=λe=>by rw[cA,gu,cU];rfl
 obtain⟨t',e1,hf⟩:=hZ (cs:=[some (.d (ax W))]) (g:=aO (am (af 1) (am (af 2) aN))) (ft:=y8) (fe:=pA) (b:=λd=>wj (Ap d)) (y:=λd=>.int (W.tie (wK (zq d))).worth) (u:=λd=>[some (.d (zq d)),some (.d (Ap d))]) 2 (r.map dR) [none,none] [] rfl (λx hx t ht=>by obtain⟨p,hp,rfl⟩:=TH hx;match t,ht with|[a1,a2],_=>rfl) (λx hx=>rfl) (λx hx=>by obtain⟨p,hp,rfl⟩:=TH hx;rfl) (λx hx _=>by obtain⟨p,hp,rfl⟩:=TH hx;have ai:=fU (W:=W) (k:=p.1) (hr.2 p hp);show pA [some (.d (ax W)),some (.d (.int p.1)),some (.d (.bool p.2))]=some (.d (.int (W.tie p.1).worth),[some (.d (ax W)),some (.d (.int p.1)),some (.d (.bool p.2))]);unfold bi at ai g1';generalize (W.tie p.1).worth=w at*;generalize (W.ties.map λt=>PyData.tuple [.int t.one,.int t.other,.tuple [.int t.top,.int t.bot],.int t.worth])=TT at*;simp?[pA,g1',ai]) ↥7;rw[Ux,KS]at hf;have hv:=oU (cp:=[(0,"_law_web_here")]) (nT:=2) (fi:=zz) (e:=[some (.d (ax W)),some (.d (.tuple (r.map dR)))]) rfl hf rfl;have s:=λe:En=>M9 (e:=e) (ws:=(sS r).map λk=>(W.tie k).worth);unfold kw;generalize ((sS r).map λk=>(W.tie k).worth).sum=w at*;generalize ((sS r).map λk=>(W.tie k).worth).map PyData.int=A at*;simp?[ug,D_,hv,s]
theorem sV{W:aA}(ok:W.Ok)(hn:W.ties.length<=10):0<vA 1 W.ties/\Bt 71 (vA 1 W.ties):=by obtain⟨a,b⟩:=zM (ts:=W.ties) (M:=1) (k:=1) (λt ht=>ok.ties t ht) ⋯ (by unfold Bt;decide);exact⟨a,b.mono ↥0⟩
theorem Ci{W:aA}(ok:W.Ok)(hn:W.ties.length<=10){bs:List Bool}(hl:bs.length=W.ties.length):0<(oX (1,1) W.ties bs).2/\Bt 300 (oX (1,1) W.ties bs).1/\Bt 300 (oX (1,1) W.ties bs).2:=by obtain⟨m0,m1⟩:=sV ok hn;have pr:=Bl (λt ht=>ok.ties t ht) hl yu;obtain⟨c1,c2⟩:=pr.bt m1 m0;exact⟨pr.pos,c1.mono ⋯,c2.mono ⋯⟩
def D3(W:aA)(x:List Bool->Fr):Prop:=∀b,b.length=W.ties.length->l9 (vA 1 W.ties) 16000 (x b)
def l6(W:aA)(T:List Nd)(bs:List Bool):Fr:=tm (oX (1,1) W.ties bs) (kw W (rn T bs 17 (rt T)),1)
theorem By{W:aA}(ok:W.Ok){T:List Nd}{S:Nat->Std}(hT:be W T S):D3 W (l6 W T):=λbs hl=>by have pr:=Bl (λt ht=>ok.ties t ht) hl yu;have hv:=JP ok (Cn ok hT bs);have:=pr.tmS (M:=1) (i:=16000) (y:=(kw W (rn T bs 17 (rt T)),1)) ⟨Wx,hv.1,by show kw _ _<=16000*1;lia,Xx _⟩;rw[Int.mul_one]at this;exact this
theorem JO{W:aA}(ok:W.Ok){T:List Nd}{S:Nat->Std}(hT:be W T S)(bs:List Bool):Bt 300 (kw W (rn T bs 17 (rt T)))/\Bt 300 (1:Int):=by have hv:=JP ok (Cn ok hT bs);exact⟨Bt.mono (m:=20) (by unfold Bt;lia) ⋯,Bt.mono (m:=1) (by unfold Bt;decide) ⋯⟩
theorem LQ{W:aA}(ok:W.Ok)(hn:W.ties.length<=10){x:List Bool->Fr}(hx:D3 W x){L:List (List Bool)}(hL:∀b∈L,b.length=W.ties.length)(hl:L.length<=1024):0<(bj (0,1) (L.map x)).2/\Bt 300 (bj (0,1) (L.map x)).1/\Bt 300 (bj (0,1) (L.map x)).2:=by
 obtain⟨m0,m1⟩:=sV ok hn;obtain⟨c1,_,_⟩:=qi (M:=vA 1 W.ties) (j:=16000) (L.map x) (a:=(0,1)) (i:=0) (q_ (XS 0)) kb ⋯ λf hf=>by obtain⟨b,hb,rfl⟩:=TH hf;exact hx b (hL b hb)
 have bt:=c1.bt (n:=71) (m:=30) m1 m0 (by unfold Bt;rw[Uq];lia);exact⟨c1.pos,bt.1.mono ⋯,bt.2.mono ⋯⟩
theorem J'{W:aA}(ok:W.Ok)(hn:W.ties.length<=10){x:List Bool->Fr}(hx:D3 W x){b:List Bool}(hb:b.length=W.ties.length):0<(x b).2/\Bt 300 (x b).1/\Bt 300 (x b).2:=by obtain⟨m0,m1⟩:=sV ok hn;have ta:=hx b hb;have bt:=ta.bt (n:=71) (m:=20) m1 m0 (by unfold Bt;decide);exact⟨ta.pos,bt.1.mono ⋯,bt.2.mono ⋯⟩
theorem Ax{W:aA}(ok:W.Ok)(hn:W.ties.length<=10){x:List Bool->Fr}(hx:D3 W x){v0:Option Sv}:∀(L D:List (List Bool)) (v2:Option Sv),(∀b∈L,b.length=W.ties.length)->(∀b∈D,b.length=W.ties.length)->D.length+L.length<=1024->∃w2,iX [] (af 2) kP ((L.map x).map dF) [v0,some (.d (dF (bj (0,1) (D.map x)))),v2]=some (.nx [v0,some (.d (dF (bj (0,1) ((D++L).map x)))),w2])
 |[],D,v2,_,_,_=>⟨v2,by simp[iX]⟩|b::L,D,v2,hL,hD,hl=>by
  simp only[Vc]at hl;obtain⟨s0,s1,s2⟩:=LQ ok hn hx hD ↥0;obtain⟨u0,u1,u2⟩:=J' ok hn hx (hL b ↥1);have tp:=qY (a:=bj (0,1) (D.map x)) (b:=x b) (n:=300) s0 u0 s1 s2 u1 u2 ⋯;have es:pl (bj (0,1) (D.map x)) (x b)=bj (0,1) ((D++[b]).map x):=by simp[bj]
  rw[es]at tp;obtain⟨w2,ih⟩:=Ax ok hn hx (v0:=v0) L (D++[b]) (some (.d (dF (x b)))) (λx hx=>hL x (by simp[hx])) (λx hx=>by
   rcases TF hx with z|z;·exact hD x z
   ·simp at z;rw[z];exact hL b ↥1) ↥7;refine⟨w2,?_⟩;have hg:af 2 (dF (x b)) [v0,some (.d (dF (bj (0,1) (D.map x)))),v2]=some [v0,some (.d (dF (bj (0,1) (D.map x)))),some (.d (dF (x b)))]:=rfl;have hb:kP [v0,some (.d (dF (bj (0,1) (D.map x)))),some (.d (dF (x b)))]=some (.nx [v0,some (.d (dF (bj (0,1) ((D++[b]).map x)))),some (.d (dF (x b)))]):=by generalize dF (bj (0,1) ((D++[b]).map x))=q at tp⊢;generalize dF (bj (0,1) (D.map x))=q2 at tp⊢;generalize dF (x b)=q3 at tp⊢;simp?[kP,tp]
  simp only[Uo,iX,hg,Ul,hb];rw[if_pos aV,ih];simp
theorem Jj{W:aA}(ok:W.Ok)(hn:W.ties.length<=10){x:List Bool->Fr}(hx:D3 W x){L:List (List Bool)}(hL:∀b∈L,b.length=W.ties.length)(hl:L.length<=1024):pM [.d (.list ((L.map x).map dF))]=some (.d (dF (bj (0,1) (L.map x))),[.d (.list ((L.map x).map dF))]):=by
 obtain⟨w2,h⟩:=Ax ok hn hx (v0:=some (.d (.list ((L.map x).map dF)))) L [] none hL (λb hb=>by cases hb) (by simpa using hl);rw[Ux]at h;have hs:∀Wl,cH Wl qH (af 2) kP [some (.d (.list ((L.map x).map dF))),some (.d (.tuple [.int 0,.int 1])),none]=some (.nx [some (.d (.list ((L.map x).map dF))),some (.d (dF (bj (0,1) (L.map x)))),w2]):=λWl=>by rw[cx (show qH _=_ from Hx rfl)];exact h
 generalize dF (bj (0,1) (L.map x))=q at hs⊢;generalize (L.map x).map dF=M at hs⊢;simp?[pM,BQ,hs]
theorem yJ{W:aA}(ok:W.Ok)(hn:W.ties.length<=10){T:List Nd}{S:Nat->Std}(hT:be W T S):bJ [.d (ax W),.d (.tuple (T.map bg))]=some (.d (dF (bj (0,1) ((bW W.ties.length).map (l6 W T)))),[.d (ax W),.d (.tuple (T.map bg))]):=by
 have g1':∀e:En,bF e (.d (ax W)) (.d (.int 1))=some (.d (.tuple (W.ties.map bi))):=λe=>by rw[cA,gu,cU];rfl
 have hx:=By ok hT;obtain⟨pl,pr⟩:=qR W.ties.length;have pw:=FH (n:=W.ties.length) ↥0;have ref:dN [.d (.int (W.ties.length:Int)),.d (.int 10)]=some (.d .none,[.d (.int (W.ties.length:Int)),.d (.int 10)]):=by
  have c:¬(10:Int)<(W.ties.length:Int):=by lia
  simp?[dN,mn,c]
 have ta:=vS (n:=W.ties.length) ↥0;obtain⟨t',h3⟩:=bI (cs:=[some (.d (ax W)),some (.d (.tuple (T.map bg)))]) (ft:=aX) (fe:=gj) (b:=λ_=>true) (y:=λd=>match d with|.tuple ds=>(match ly ds with|some bs=>dF (l6 W T bs)|none=>.none)|_=>.none) ((bW W.ties.length).map dB) none [] ↥4 (λx hx _=>by obtain⟨bs,hb,rfl⟩:=TH hx;have hl:=pr bs hb;have tc:=Av ok hl;have tr:=(Bx ok hT hl).1;have th:=yO (Cn ok hT bs);obtain⟨p0,p1,p2⟩:=Ci ok ↥0 hl;obtain⟨q1,q2⟩:=JO ok hT bs;have tt:=ka (a:=oX (1,1) W.ties bs) (b:=(kw W (rn T bs 17 (rt T)),1)) (n:=300) p0 Wx p1 p2 q1 q2 ⋯;change cF _=some (.d (dF (l6 W T bs)),_) at tt;have e0:dF (kw W (rn T bs 17 (rt T)),1)=.tuple [.int (kw W (rn T bs 17 (rt T))),.int 1]:=rfl;rw[e0]at tt;unfold dB;simp only[om];generalize dF (l6 W T bs)=z at tt⊢;generalize dF (oX (1,1) W.ties bs)=z2 at tc tt;generalize kw W (rn T bs 17 (rt T))=z3 at th tt;generalize (rn T bs 17 (rt T)).map dR=z4 at tr th;simp?[gj,tc,tr,th,tt]) ↥7;rw[VU.mpr ↥4,Ux,show((bW W.ties.length).map dB).map (λd:TN=>match d with|.tuple ds=>(match ly ds with|some bs=>dF (l6 W T bs)|none=>.none)|_=>.none)=((bW W.ties.length).map (l6 W T)).map dF by rw[UJ,UJ];exact XO λbs _=>by simp[dB,om]]at h3;have hi:jD [some (.d (ax W)),some (.d (.tuple (T.map bg)))]=some ((bW W.ties.length).map dB,[],[some (.d (ax W)),some (.d (.tuple (T.map bg)))]):=tY (by simp?[g1',ta]);have hv:bD [(0,"web"),(1,"tree")] 1 jD (af 2) aX gj [some (.d (ax W)),some (.d (.tuple (T.map bg)))]=some (.l (((bW W.ties.length).map (l6 W T)).map dF),[some (.d (ax W)),some (.d (.tuple (T.map bg)))]):=oU hi h3 rfl;have tt:=Jj ok ↥0 hx pr ↥0;generalize dF (bj (0,1) ((bW W.ties.length).map (l6 W T)))=q at tt⊢;generalize ((bW W.ties.length).map (l6 W T)).map dF=M at tt hv;generalize T.map bg=TT at*;simp?[bJ,o_,g1',ref,hv,tt]
abbrev G9(W:aA)(T:List Nd)(f:Fr)(v3 v4:Option Sv):En:=[some (.d (ax W)),some (.d (.tuple (T.map bg))),some (.d (dF f)),v3,v4]
theorem Eu{W:aA}(ok:W.Ok)(hn:W.ties.length<=10){T:List Nd}{S:Nat->Std}(hT:be W T S){D:List (List Bool)}{b:List Bool}(hD:∀b∈D,b.length=W.ties.length)(hb:b.length=W.ties.length)(hl:D.length<1024)(v4:Option Sv):∃w4,dw (G9 W T (bj (0,1) (D.map (l6 W T))) (some (.d (dB b))) v4)=some (.nx (G9 W T (bj (0,1) ((D++[b]).map (l6 W T))) (some (.d (dB b))) w4)):=by
 have hx:=By ok hT;obtain⟨s0,s1,s2⟩:=LQ ok hn hx hD ↥0;obtain⟨u0,u1,u2⟩:=J' ok hn hx hb;have tp:=GG (a:=bj (0,1) (D.map (l6 W T))) (b:=l6 W T b) (n:=300) s0 u0 s1 s2 u1 u2 ⋯;have es:pl (bj (0,1) (D.map (l6 W T))) (l6 W T b)=bj (0,1) ((D++[b]).map (l6 W T)):=by simp[bj]
 rw[es]at tp;have tc:=Aq ok hb;have tr:=Bw ok hT hb;have th:=LR (Cn ok hT b);obtain⟨p0,p1,p2⟩:=Ci ok hn hb;obtain⟨q1,q2⟩:=JO ok hT b;have tt:=tu (a:=oX (1,1) W.ties b) (b:=(kw W (rn T b 17 (rt T)),1)) (n:=300) p0 Wx p1 p2 q1 q2 ⋯;change gy _=some (.d (dF (l6 W T b)),_) at tt;have e0:dF (kw W (rn T b 17 (rt T)),1)=.tuple [.int (kw W (rn T b 17 (rt T))),.int 1]:=rfl;rw[e0]at tt;refine⟨some (.d (.tuple [.int (kw W (rn T b 17 (rt T))),.int 1])),?_⟩;unfold dB G9;generalize dF (bj (0,1) ((D++[b]).map (l6 W T)))=z0 at tp⊢;generalize dF (bj (0,1) (D.map (l6 W T)))=z1 at tp⊢;generalize dF (l6 W T b)=z2 at tp tt;generalize dF (oX (1,1) W.ties b)=z3 at tc tt;generalize kw W (rn T b 17 (rt T))=z4 at*;generalize (rn T b 17 (rt T)).map dR=z5 at tr th;generalize T.map bg=TT at*;simp?[dw,tr,tc,th,tt,tp]
theorem yM{W:aA}(ok:W.Ok)(hn:W.ties.length<=10){T:List Nd}{S:Nat->Std}(hT:be W T S):d_ [.d (ax W),.d (.tuple (T.map bg))]=some (.d (dF (bj (0,1) ((aQ W.ties.length).map (l6 W T)))),[.d (ax W),.d (.tuple (T.map bg))]):=by
 have g1':∀e:En,bF e (.d (ax W)) (.d (.int 1))=some (.d (.tuple (W.ties.map bi))):=λe=>by rw[cA,gu,cU];rfl
 obtain⟨ql,qr⟩:=fM W.ties.length;have pw:=FH (n:=W.ties.length) ↥0;obtain⟨e3,h3,⟨w5,w6,rfl⟩⟩:=cB (own:=[]) (g:=af 3) (f:=dw) (λi e=>∃v3 v4,e=G9 W T (bj (0,1) (((aQ W.ties.length).take i).map (l6 W T))) v3 v4) ((aQ W.ties.length).map dB) 0 (G9 W T (0,1) none none) (λi x e hx⟨v5,v6,he⟩=>by
  subst he;rw[Ut]at hx;obtain⟨b,hp1,rfl⟩:=TB hx;have hi:i<(aQ W.ties.length).length:=(TC hp1).1;obtain⟨w6,st⟩:=Eu ok hn hT (D:=(aQ W.ties.length).take (0+i)) (b:=b) (λx hx=>qr x (List.mem_of_mem_take hx)) (qr b (TK hp1)) ↥7 v6;have e2:(aQ W.ties.length).take (0+i+1)=(aQ W.ties.length).take (0+i)++[b]:=by rw[List.take_succ,show(aQ W.ties.length)[0+i]?=some b by simpa using hp1];simp
  rw[<-e2]at st;exact⟨_,_,rfl,st,aV,_,_,rfl⟩) ⟨none,none,rfl⟩;rw[show(aQ W.ties.length).take (0+((aQ W.ties.length).map dB).length)=aQ W.ties.length by simp]at h3;have tl:=vQ (n:=W.ties.length) ↥0;have hf:∀Wl,cH Wl jC (af 3) dw (G9 W T (0,1) none none)=some (.nx (G9 W T (bj (0,1) ((aQ W.ties.length).map (l6 W T))) w5 w6)):=λWl=>by rw[cx (show jC (G9 W T (0,1) none none)=some ((aQ W.ties.length).map dB,[],G9 W T (0,1) none none) from tY (by simp?[g1',tl]))];exact h3
 unfold G9 at hf;have e01:dF ((0,1):Fr)=.tuple [.int 0,.int 1]:=rfl;rw[e01]at hf;generalize dF (bj (0,1) ((aQ W.ties.length).map (l6 W T)))=z at*;generalize T.map bg=TT at*;simp?[d_,o8,hf]
theorem xk(d:TN)(n:Int):cT [.d d,.d (.int n)]=some (.d (.bool (sD n d)),[.d d,.d (.int n)]):=by
 have g:=λe=>Hw (e:=e) (d:=d)
 cases c:KC d with|false=>
  rw[c]at g;have e:sD n d=false:=by cases d<;>first|rfl|cases c
  rw[e];simp?[cT,ml,g]|true=>rw[c]at g;obtain⟨ds,rfl⟩:=Hz c;simp?[cT,ml,g,sD]
theorem uU{d:TN}(h:d.showable=true):bK [.d d]=some (.d (.bool (wD d)),[.d d]):=by
 have tr:=xk d 2
 cases c:sD 2 d with|false=>
  rw[c]at tr;have e:wD d=false:=by cases q:wD d with|false=>rfl|true=>
   unfold wD at q;split at q;·simp[sD]at c
   ·cases q
  rw[e];simp?[bK,dj,tr]|true=>
  obtain⟨x,y,rfl⟩:=Oh c;rw[c]at tr;have nx:=GJ x;have ny:=GJ y
  cases hx:JK x with|false=>
   rw[hx]at nx;have e:wD (.tuple [x,y])=false:=by cases x<;>first|rfl|simp[JK]at hx
   rw[e];simp?[bK,dj,tr,nx]|true=>
   obtain⟨t,rfl⟩:=B6 hx;rw[hx]at nx
   cases hy:JK y with|false=>
    rw[hy]at ny;have e:wD (.tuple [.int t,y])=false:=by cases y<;>first|rfl|simp[JK]at hy
    rw[e];simp?[bK,dj,tr,nx,ny]|true=>
    obtain⟨b,rfl⟩:=B6 hy;rw[hy]at ny;by_cases c1:b<1
    ·have e:wD (.tuple [.int t,.int b])=false:=by simp only[wD,Bool.and_eq_false_iff,decide_eq_false_iff_not];left;lia
     rw[e];simp?[bK,dj,tr,nx,ny,c1]
    ·simp only[XI,Ww,Uw,decide_eq_true_eq]at h;have tl:=mW t b ↥0 (Kn h.2.1 ↥0);have e:wD (.tuple [.int t,.int b])=((lowM t b).1==t&&(lowM t b).2==b):=by rw[HM ↥0];show(decide (1<=b)&&_)=_;rw[decide_eq_true ↥0,Bool.true_and]
     rw[e];unfold dF at tl;have ge:=λe=>tT (e:=e) (a:=(lowM t b).1) (b:=(lowM t b).2) (c:=t) (d:=b);generalize lowM t b=p at*;simp?[bK,dj,tr,nx,ny,c1,tl,ge]
theorem yh{t b:Int}{n:Nat}(hb:0<b)(h1:Bt n t)(h2:Bt n b):Bt n (lowM t b).1/\Bt n (lowM t b).2/\0<(lowM t b).2:=by
 obtain⟨d,e1,e2,e3,e4,e5⟩:=ic (t:=t) (b:=b) ↥0;have dp:1<=d.natAbs:=by lia
 have k1:(lowM t b).1.natAbs<=t.natAbs:=by have:=congrArg Int.natAbs e3;rw[WY]at this;rw[<-this];exact YL _ dp
 have k2:(lowM t b).2.natAbs<=b.natAbs:=by have:=congrArg Int.natAbs e4;rw[WY]at this;rw[<-this];exact YL _ dp
 exact⟨h1.of_le k1,h2.of_le k2,e5⟩
structure FB (n:Nat) (f:Fr):Prop where
 pos:0<f.2
 top:Bt n f.1
 bot:Bt n f.2
theorem FB.mono{n m:Nat}{f:Fr}(h:FB n f)(hm:n<=m):FB m f:=⟨h.pos,h.top.mono hm,h.bot.mono hm⟩
theorem FB.pl{n:Nat}{a b:Fr}(ha:FB n a)(hb:FB n b):FB (n+n+1) (L2.pl a b):=by obtain⟨r1,r2,r3⟩:=yh (t:=a.1*b.2+b.1*a.2) (b:=a.2*b.2) (n:=n+n+1) (UO ha.pos hb.pos) ((ha.top.mul hb.bot).add (hb.top.mul ha.bot)) ((ha.bot.mul hb.bot).mono ↥0);exact⟨r3,r1,r2⟩
theorem FB.tm{n:Nat}{a b:Fr}(ha:FB n a)(hb:FB n b):FB (n+n) (L2.tm a b):=by obtain⟨r1,r2,r3⟩:=yh (t:=a.1*b.1) (b:=a.2*b.2) (n:=n+n) (UO ha.pos hb.pos) (ha.top.mul hb.top) (ha.bot.mul hb.bot);exact⟨r3,r1,r2⟩
theorem FB.ch{W:aA}(ok:W.Ok){k:Int}(hk:kc W k)(b:Bool):FB 7 (L2.ch W k b):=by have o:=hk.ok ok;have:=o.c0;have:=o.c1;have:=o.b0;have:=o.b1;cases b<;>refine⟨?_,?_,?_⟩<;>simp only[L2.ch,if_true,WZ,if_false,Bt]<;>lia
theorem yI{W:aA}(ok:W.Ok){k:Int}(hk:kc W k){y n:Fr}(hy:FB 200 y)(hn:FB 200 n):dJ [.d (bi (W.tie k)),.d (dF y),.d (dF n)]=some (.d (dF (aw W k y n)),[.d (bi (W.tie k)),.d (dF y),.d (dF n)]):=by have ot:=hk.ok ok;have w0:=ot.w0;have w1:=ot.w1;have w:FB 200 ((W.tie k).worth,1):=⟨Wx,Bt.mono (m:=10) (by show(W.tie k).worth.natAbs<2^10;lia) ⋯,by show Bt 200 1;unfold Bt;decide⟩;have c1:=FB.ch ok hk true;have c2:=FB.ch ok hk false;have t1:=w.pl hy;have t2:=(c1.mono (m:=401) ⋯).tm t1;have t3:=(c2.mono (m:=200) ⋯).tm hn;have p1:=qY (a:=((W.tie k).worth,1)) (b:=y) w.pos hy.pos w.top w.bot hy.top hy.bot ⋯;rw[show dF ((W.tie k).worth,1)=.tuple [.int (W.tie k).worth,.int 1]from rfl]at p1;have p2:=ka (a:=ch W k true) (b:=pl ((W.tie k).worth,1) y) (n:=401) c1.pos t1.pos (c1.top.mono ⋯) (c1.bot.mono ⋯) t1.top t1.bot ⋯;rw[xM]at p2;have ol:=oS ok hk;have p3:=ka (a:=ch W k false) (b:=n) (n:=200) c2.pos hn.pos (c2.top.mono ⋯) (c2.bot.mono ⋯) hn.top hn.bot ⋯;have p4:i3 [.d (dF (tm (ch W k true) (pl ((W.tie k).worth,1) y))),.d (dF (tm (ch W k false) n))]=some (.d (dF (aw W k y n)),[.d (dF (tm (ch W k true) (pl ((W.tie k).worth,1) y))),.d (dF (tm (ch W k false) n))]):=qY (n:=802) t2.pos t3.pos (t2.top.mono ⋯) (t2.bot.mono ⋯) (t3.top.mono ⋯) (t3.bot.mono ⋯) ⋯;generalize dF (aw W k y n)=A at p4⊢;generalize dF (tm (ch W k true) (pl ((W.tie k).worth,1) y))=B at p2 p4;generalize dF (tm (ch W k false) n)=C at p3 p4;generalize dF (pl ((W.tie k).worth,1) y)=D at p1 p2;simp?[dJ,mi,bi,p1,p2,ol,p3,p4]
theorem nW{ws:List Fr}{l:Int}(h0:-1<=l)(h1:l<(ws.length:Int)):bL [.d (.tuple (ws.map dF)),.d (.int l)]=some (.d (dF (lk ws l)),[.d (.tuple (ws.map dF)),.d (.int l)]):=by
 by_cases c:l=-1;·subst c;have:dF (lk ws (-1))=.tuple [.int 0,.int 1]:=rfl;rw[this];simp?[bL,fY,vU]
 ·have:=BJ c h0 h1;simp?[bL,fY,vU,c,this]
theorem Cd{ws:List Fr}(hb:∀f∈ws,FB 200 f)(l:Int):FB 200 (lk ws l):=by
 have z:FB 200 (0,1):=⟨Wx,by show Bt 200 0;unfold Bt;decide,by show Bt 200 1;unfold Bt;decide⟩;unfold lk;split;·exact z
 ·rw[Ur];cases h:ws[l.toNat]? with|none=>exact z|some f=>exact hb f (TK h)
theorem vT{W:aA}(ok:W.Ok){S:Nat->Std}{T:List Nd}{ws:List Fr}{i:Nat}{x:Nd}(h:be W T S)(hl:ws.length=T.length)(hb:∀f∈ws,FB 200 f)(hx:T[i]?=some x):cc [.d (ax W),.d (bg x),.d (.tuple (ws.map dF))]=some (.d (dF (aw W x.tie (lk ws x.yes) (lk ws x.no))),[.d (ax W),.d (bg x),.d (.tuple (ws.map dF))]):=by
 have o:=h i x hx;have gw:∀e,bF e (.d (ax W)) (.d (.int 1))=some (.d (.tuple (W.ties.map bi))):=λe=>by rw[cA,gu,cU];rfl
 have ha:=fU o.tie;have l1:=nW (ws:=ws) (l:=x.yes) o.yes.rng.1 (by rw[hl];exact o.yes.rng.2);have l2:=nW (ws:=ws) (l:=x.no) o.no.rng.1 (by rw[hl];exact o.no.rng.2);have ta:=yI ok o.tie (Cd hb x.yes) (Cd hb x.no);generalize dF (aw W x.tie (lk ws x.yes) (lk ws x.no))=A at ta⊢;simp?[cc,lx,bg,gw,ha,l1,l2,ta]
def eX(n:Int):TN->Bool|.tuple ds=>((ds.length:Int)==n)&&ds.all wD|_=>false
theorem mV{d:TN}(hs:d.showable=true){n:Int}(hn:n<=65535):br [.d d,.d (.int n)]=some (.d (.bool (eX n d)),[.d d,.d (.int n)]):=by
 have tr:=xk d n
 cases c:sD n d with|false=>
  rw[c]at tr;have e:eX n d=false:=by cases d with|tuple ds=>have c':((ds.length:Int)==n)=false:=c;simp only[eX,c',Bool.false_and]|_=>rfl
  rw[e];simp?[br,fX,tr]|true=>cases d with|tuple ds=>
   have c':((ds.length:Int)==n)=true:=c;have c2:(ds.length:Int)=n:=by simpa using c'
   rw[c]at tr;simp only[XI]at hs;obtain⟨t',hf⟩:=bI (cs:=[]) (ft:=aX) (fe:=cJ) (b:=λ_=>true) (y:=λd=>.bool (wD d)) ds none [] (λx _=>rfl) (λx hx _=>by have t:=uU (D4 hs x hx);generalize wD x=bb at*;simp?[cJ,t]) ↥7;have hv:=dg (cp:=[]) (nT:=1) (fi:=i5) (g:=af 0) (ft:=aX) (fe:=cJ) (e:=[some (.d (.tuple ds)),some (.d (.int n))]) (cs:=[]) (t:=[none]) (t':=[t']) (lF (fa:=ac 0) rfl) rfl rfl hf;rw[Ux,show List.filter (λ_=>true) ds=ds from VU.mpr λ_ _=>rfl]at hv;have ga:=λe=>tS (e:=e) wD ds;rw[show eX n (.tuple ds)=ds.all wD by simp only[eX,c',Bool.true_and]];generalize ds.all wD=bb at*;generalize ds.map (λd=>PyData.bool (wD d))=M at*;simp?[br,fX,tr,hv,ga]|_=>simp[sD]at c
theorem AY:∀{ds:List TN},ds.all wD=true->∃ws:List Fr,ds=ws.map dF/\∀f∈ws,0<f.2
 |[],_=>⟨[],rfl,λ_ h=>by cases h⟩|d::r,h=>by
  rw[List.all_cons,Uw]at h;obtain⟨ws,rfl,hw⟩:=AY h.2;have h1:=h.1;unfold wD at h1;split at h1
  ·rename_i t b;simp only[Uw,decide_eq_true_eq]at h1;refine⟨(t,b)::ws,rfl,λf hf=>?_⟩;rcases TJ hf with rfl|hf;·show(0:Int)<b;lia
   ·exact hw f hf
  ·cases h1
theorem tG:∀{xs ys:List TN}{i:Nat}{x y:TN},xs[i]?=some x->ys[i]?=some y->(cI xs ys)[i]?=some (.tuple [x,y])|[],_,i,x,y,h,_=>by simp at h|_::_,[],i,x,y,_,h=>by simp at h|a::r,b::s,0,x,y,h1,h2=>by simp at h1 h2;subst h1 h2;rfl|a::r,b::s,i+1,x,y,h1,h2=>by simp only[cI,YV]at h1 h2⊢;exact tG h1 h2
theorem iV:∀{xs ys:List TN},xs.length=ys.length->(cI xs ys).length=xs.length|[],[],_=>rfl|[],_::_,h=>by simp at h|_::_,[],h=>by simp at h|a::r,b::s,h=>by simp only[cI,Vc,iV (xs:=r) (ys:=s) (by simpa using h)]
theorem ou:∀{as bs:List Fr},as.map dF=bs.map dF->as=bs|[],[],_=>rfl|[],_::_,h=>by simp at h|_::_,[],h=>by simp at h|a::r,b::s,h=>by simp only[Uo,List.cons.injEq,dF,PyData.tuple.injEq,PyData.int.injEq,and_true]at h;obtain⟨⟨h1,h2⟩,h3⟩:=h;rw[ou h3,Prod.ext h1 h2]
def vB(W:aA)(ws:List Fr):TN->Bool|.tuple [.tuple [.int a,.int b,.int c],.tuple [.int p,.int q]]=>p==(aw W a (lk ws b) (lk ws c)).1&&q==(aw W a (lk ws b) (lk ws c)).2|_=>false
def uB:TN->En|.tuple [a,b]=>[some (.d a),some (.d b)]|_=>[none,none]
theorem Kb{W:aA}{ws:List Fr}{x:Nd}{f:Fr}:vB W ws (.tuple [bg x,dF f])=true↔f=aw W x.tie (lk ws x.yes) (lk ws x.no):=by show(f.1==_&&f.2==_)=true↔_;rw[Uw,beq_iff_eq,beq_iff_eq];exact⟨λh=>Prod.ext h.1 h.2,λh=>by rw[h];exact⟨rfl,rfl⟩⟩
theorem ut{W:aA}(ok:W.Ok){T:List Nd}{S:Nat->Std}(h:be W T S)(hT:T.length<=65535):∀f∈eA W T T.length,FB 140 f:=λf hf=>by obtain⟨j,hj⟩:=We hf;have o:=(n_.all ok h T.length).at' j f hj;have b:=o.b ok AF.1 (by have:=(AF (l:=(S j).1.length)).2;lia);exact⟨o.pos,b.1,b.2⟩
theorem Fn{W:aA}(ok:W.Ok){T:List Nd}{S:Nat->Std}(h:be W T S)(o:fQ T)(hT:T.length<=65535):((eA W T T.length).map dF).all wD=true:=by
 rw[List.all_map,Vd];intro f hf;have fb:=ut ok h hT;obtain⟨j,hj⟩:=We hf;have hl:j<T.length:=by rw[<-eU (W:=W) (T:=T) T.length];exact(TC hj).1
 have hx:T[j]?=some T[j]:=Um hl;generalize T[j]=x at hx;have e:=nq (W:=W) o T.length ↥8 j x ↥0 hx;rw[hj]at e;cases e;have hk:=(h j x hx).tie;have b':∀g∈eA W T T.length,FB 200 g:=λg hg=>(fb g hg).mono ⋯;have ot:=hk.ok ok;have w0:=ot.w0;have w1:=ot.w1;have w:FB 200 ((W.tie x.tie).worth,1):=⟨Wx,Bt.mono (m:=10) (by show(W.tie x.tie).worth.natAbs<2^10;lia) ⋯,by show Bt 200 1;unfold Bt;decide⟩;have t1:=w.pl (Cd b' x.yes);have t2:=((FB.ch ok hk true).mono (m:=401) ⋯).tm t1;have t3:=((FB.ch ok hk false).mono (m:=200) ⋯).tm (Cd b' x.no);have pp:=(fb _ hf).pos;have gg:Uk (aw W x.tie (lk (eA W T T.length) x.yes) (lk (eA W T T.length) x.no)).1 (aw W x.tie (lk (eA W T T.length) x.yes) (lk (eA W T T.length) x.no)).2=1:=by show Uk (pl _ _).1 (pl _ _).2=1;unfold pl;exact kY (XR (UO t2.pos t3.pos))
 generalize aw W x.tie (lk (eA W T T.length) x.yes) (lk (eA W T T.length) x.no)=g at*;show(decide (1<=g.2)&&decide (Uk g.1 g.2=1))=true;rw[decide_eq_true ↥0,decide_eq_true gg];rfl
theorem nX{W:aA}(ok:W.Ok){T:List Nd}{S:Nat->Std}(h:be W T S)(o:fQ T)(hT:T.length<=65535){d:TN}(hs:d.showable=true)(hb:∀ws:List Fr,d=.tuple (ws.map dF)->∀f∈ws,Bt 200 f.1/\Bt 200 f.2):∃b,bM [.d (ax W),.d (.tuple (T.map bg)),.d d]=some (.d (.bool b),[.d (ax W),.d (.tuple (T.map bg)),.d d])/\(b=true↔d=.tuple ((eA W T T.length).map dF)):=by
 have tf:=mV hs (n:=(T.length:Int)) ↥0;have ql:((T.map bg).length:Int)=(T.length:Int):=by simp
 cases c:eX (T.length:Int) d with|false=>
  rw[c]at tf;refine⟨false,?_,(λe=>by cases e),λe=>?_⟩;·generalize T.map bg=TT at*;generalize (T.length:Int)=L at*;simp?[bM,ke,ql,tf]
  ·subst e;rw[show eX (T.length:Int) (.tuple ((eA W T T.length).map dF))=true by simp only[eX,Fn ok h o hT,Uq,eU,beq_self_eq_true,Wc]]at c;cases c|true=>rw[c]at tf;cases d with|tuple ds=>
   simp only[eX,Uw,beq_iff_eq]at c;obtain⟨ws,rfl,hp⟩:=AY c.2;have hl:ws.length=T.length:=by have:=c.1;rw[Uq]at this;lia
   have fb:∀f∈ws,FB 200 f:=λf hf=>⟨hp f hf,(hb ws rfl f hf).1,(hb ws rfl f hf).2⟩;let cs:En:=[some (.d (ax W)),some (.d (.tuple (ws.map dF)))];have item:∀x∈cI (T.map bg) (ws.map dF),∃(i:Nat) (nd:Nd) (f:Fr),T[i]?=some nd/\ws[i]?=some f/\x=.tuple [bg nd,dF f]:=λx hx=>by obtain⟨i,hi⟩:=We hx;obtain⟨a,b,h1,h2,rfl⟩:=mZ hi;rw[Ut]at h1 h2;obtain⟨nd,h3,rfl⟩:=TB h1;obtain⟨f,h4,rfl⟩:=TB h2;exact⟨i,nd,f,h3,h4,rfl⟩
   obtain⟨t',ht,hf⟩:=hZ (cs:=cs) (g:=aO (am (af 2) (am (af 3) aN))) (ft:=aX) (fe:=eQ) (b:=λ_=>true) (y:=λx=>.bool (vB W ws x)) (u:=uB) 2 (cI (T.map bg) (ws.map dF)) [none,none] [] rfl (λx hx t ht=>by
    obtain⟨i,nd,f,h1,h2,rfl⟩:=item x hx;rcases t with _|⟨t1,_|⟨t2,_|⟨t3,r⟩⟩⟩;·simp at ht
    ·simp at ht
    ·generalize bg nd=A;generalize dF f=B;simp?[cs,uB]
    ·simp at ht) (λx hx=>by obtain⟨i,nd,f,h1,h2,rfl⟩:=item x hx;rfl) (λx _=>rfl) (λx hx _=>by obtain⟨i,nd,f,h1,h2,rfl⟩:=item x hx;have tn:=vT ok h hl fb h1;have ge:=λe=>tT (e:=e) (a:=f.1) (b:=f.2) (c:=(aw W nd.tie (lk ws nd.yes) (lk ws nd.no)).1) (d:=(aw W nd.tie (lk ws nd.yes) (lk ws nd.no)).2);rw[show vB W ws (.tuple [bg nd,dF f])=(f.1==(aw W nd.tie (lk ws nd.yes) (lk ws nd.no)).1&&f.2==(aw W nd.tie (lk ws nd.yes) (lk ws nd.no)).2) from rfl];rw[show uB (.tuple [bg nd,dF f])=[some (.d (bg nd)),some (.d (dF f))]from rfl];simp only[cs];unfold dF at tn ge⊢;generalize aw W nd.tie (lk ws nd.yes) (lk ws nd.no)=g at*;generalize ws.map (λf=>PyData.tuple [.int f.1,.int f.2])=WW at*;generalize bg nd=A at*;simp?[eQ,tn,ge]) (by rw[iV (by simp[hl])];simp;lia);have hv:=dg (cp:=[(0,"web"),(2,"thing")]) (nT:=2) (fi:=lV) (g:=aO (am (af 2) (am (af 3) aN))) (ft:=aX) (fe:=eQ) (e:=[some (.d (ax W)),some (.d (.tuple (T.map bg))),some (.d (.tuple (ws.map dF)))]) (cs:=cs) (t:=[none,none]) (t':=t') rfl rfl rfl hf;rw[Ux,show List.filter (λ_=>true) (cI (T.map bg) (ws.map dF))=cI (T.map bg) (ws.map dF) from VU.mpr λ_ _=>rfl]at hv;have ga:=λe=>tS (e:=e) (vB W ws) (cI (T.map bg) (ws.map dF));refine⟨(cI (T.map bg) (ws.map dF)).all (vB W ws),?_,λe=>?_,λe=>?_⟩;·clear item hf c fb hb;generalize (cI (T.map bg) (ws.map dF)).all (vB W ws)=bb at*;generalize (cI (T.map bg) (ws.map dF)).map (λd=>PyData.bool (vB W ws d))=M at*;generalize T.map bg=TT at*;generalize ws.map dF=WW at*;generalize (T.length:Int)=L at*;simp?[bM,ke,ql,tf,hv,ga]
   ·rw[GW (W:=W) o hl λi x hx=>?_];have hi:i<ws.length:=by rw[hl];exact(TC hx).1
    have hw:ws[i]?=some ws[i]:=Um hi;generalize ws[i]=f at hw;have:=tG (xs:=T.map bg) (ys:=ws.map dF) (i:=i) (x:=bg x) (y:=dF f) (by rw[Ut,hx];rfl) (by rw[Ut,hw];rfl);have q:=Vd.mp e _ (TK this);rw[Kb]at q;rw[hw,q]
   ·have e':ws=eA W T T.length:=ou (by simpa using e);rw[Vd];intro x hx;obtain⟨i,nd,f,h1,h2,rfl⟩:=item x hx;rw[Kb];have q:=nq (W:=W) o T.length ↥8 i nd ↥0 h1;rw[<-e',h2]at q;exact UH q|_=>simp[eX]at c
theorem zv{e:En}{a b c d:Int}:bR true e (.d (.tuple [.int a,.int b])) (.d (.tuple [.int c,.int d]))=some (.d (.bool (!(a==c&&b==d)))):=by
 unfold bR;have h0:∀x y:Int,Vj (.tuple [.int x,.int y])=true:=λx y=>by simp[Vj,Vi,Vy,US,VH]
 simp only[kW,Ul,h0,Wc,if_true];simp[Vk,Xp]
def qB(ws:List Fr)(f:Fr):TN->Bool|.tuple [.int l,.tuple [.int p,.int q]]=>(ws.getD l.toNat (1,1)).1==(tm f (p,q)).1&&(ws.getD l.toNat (1,1)).2==(tm f (p,q)).2|_=>false
theorem JY{ws:List Fr}{f c:Fr}{l:Int}:qB ws f (lm l c)=true↔ws.getD l.toNat (1,1)=tm f c:=by show((ws.getD l.toNat (1,1)).1==(tm f c).1&&(ws.getD l.toNat (1,1)).2==(tm f c).2)=true↔_;rw[Uw,beq_iff_eq,beq_iff_eq];exact⟨λh=>Prod.ext h.1 h.2,λh=>by rw[h];exact⟨rfl,rfl⟩⟩
def fB(W:aA)(ws:List Fr):TN->List Bool|.tuple [.tuple [.int a,.int b,.int c],.tuple [.int p,.int q]]=>(lq W ⟨a,b,c⟩).map (qB ws (p,q))|_=>[]
theorem mY{W:aA}{x:Nd}{d:TN}:d∈lq W x↔∃b,dI x b≠-1/\d=lm (dI x b) (ch W x.tie b):=by
 unfold lq;rw[Vq];constructor
 ·rintro(h|h)
  ·split at h;·cases h
   ·simp at h;exact⟨true,by assumption,h⟩
  ·split at h;·cases h
   ·simp at h;exact⟨false,by assumption,h⟩
 ·rintro⟨b,n,rfl⟩;cases b;·right;rw[if_neg (show¬x.no=-1 from n)];simp[dI]
  ·left;rw[if_neg (show¬x.yes=-1 from n)];simp[dI]
theorem AG{W:aA}{x:Nd}:(lq W x).length<=2:=by unfold lq;rw[VO];split<;>split<;>simp
theorem wV{W:aA}(ok:W.Ok){T:List Nd}{S:Nat->Std}(h:be W T S):∀f∈aY W T T.length,FB 140 f:=λf hf=>by
 obtain⟨j,hj⟩:=We hf;have hl:j<T.length:=by rw[<-jH (W:=W) (T:=T) T.length];exact(TC hj).1
 have r:=(eV.all ok h T.length).one ok h hl;rw[Ur,hj,VS]at r;have ba:=jw ok;have b:=r.bt ba.2 ba.1;exact⟨r.pos,b.1.mono ⋯,b.2.mono ⋯⟩
theorem Dn{W:aA}(ok:W.Ok){T:List Nd}{S:Nat->Std}(h:be W T S)(o:fQ T)(t:en T):((aY W T T.length).map dF).all wD=true:=by
 rw[List.all_map,Vd];intro f hf;have fb:=wV ok h;have ln:=jH (W:=W) (T:=T) T.length;obtain⟨j,hj⟩:=We hf;have hl:j<T.length:=by rw[<-ln];exact(TC hj).1
 have ej:(aY W T T.length).getD j (1,1)=f:=by rw[Ur,hj,VS]
 have pp:=(fb f hf).pos;have gg:Uk f.1 f.2=1:=by
  by_cases c:j=0;·subst c;rw[qQ o]at ej;rw[<-ej];rfl
  ·obtain⟨i,b,e⟩:=t.2 j ↥0 hl;cases hx:T[i]? with|none=>rw[cO hx]at e;lia|some x=>rw[cu hx]at e;have hi:=(TC hx).1;have q:=k9 (W:=W) h o t.1 T.length i hi x b hx ↥0;rw[show(dI x b).toNat=j by lia,ej]at q;have r:=(eV.all ok h T.length).one ok h hi;have cb:=FB.ch ok (h i x hx).tie b;rw[q];unfold tm;exact kY (XR (UO r.pos cb.pos))
 show(decide (1<=f.2)&&decide (Uk f.1 f.2=1))=true;rw[decide_eq_true ↥0,decide_eq_true gg];rfl
theorem IV{W:aA}(ok:W.Ok){T:List Nd}{S:Nat->Std}(h:be W T S){ws:List Fr}(hl:ws.length=T.length)(fb:∀f∈ws,FB 200 f){i:Nat}{nd:Nd}{f:Fr}(h1:T[i]?=some nd)(h2:ws[i]?=some f)(t:En)(acc:List TN)(ht:t.length=4)(ha:acc.length+2<=1000000):∃e1 e2 its e3 t',aO (am (af 2) (am (af 3) aN)) (.tuple [bg nd,dF f]) ([some (.d (.tuple (ws.map dF))),some (.d (ax W))]++t)=some e1/\aX e1=some (true,e2)/\cM e2=some (its,[],e3)/\bT (aO (am (af 4) (am (af 5) aN))) aX cn its e3 acc=some (acc++(fB W ws (.tuple [bg nd,dF f])).map PyData.bool,[some (.d (.tuple (ws.map dF))),some (.d (ax W))]++t')/\t'.length=4:=by
 have o:=h i nd h1;have tw:=xl ok o.tie;have ff:=fb f (TK h2);rcases t with _|⟨t1,_|⟨t2,_|⟨t3,_|⟨t4,_|⟨t5,r⟩⟩⟩⟩⟩;·simp at ht
 ·simp at ht
 ·simp at ht
 ·simp at ht
 ·let cs:En:=[some (.d (.tuple (ws.map dF))),some (.d (ax W)),some (.d (bg nd)),some (.d (dF f))];obtain⟨t',ht',hf⟩:=hZ (cs:=cs) (g:=aO (am (af 4) (am (af 5) aN))) (ft:=aX) (fe:=cn) (b:=λ_=>true) (y:=λx=>.bool (qB ws f x)) (u:=uB) 2 (lq W nd) [t3,t4] acc rfl (λx hx t ht=>by
  obtain⟨b,n,rfl⟩:=mY.mp hx;rcases t with _|⟨t1,_|⟨t2,_|⟨t3,r⟩⟩⟩;·simp at ht
  ·simp at ht
  ·unfold lm;generalize dF (ch W nd.tie b)=A;generalize dF f=B;simp?[cs,uB]
  ·simp at ht) (λx hx=>by obtain⟨b,n,rfl⟩:=mY.mp hx;rfl) (λx _=>rfl) (λx hx _=>by
  obtain⟨b,n,rfl⟩:=mY.mp hx;have cb:=FB.ch ok o.tie b;have rg:-1<=dI nd b/\dI nd b<(T.length:Int):=by
   cases b;·exact o.no.rng
   ·exact o.yes.rng
  have hat:=oZ (rs:=ws) (k:=dI nd b) (z:=(1,1)) ↥0 (by rw[hl];exact rg.2);have tt:=ka (a:=f) (b:=ch W nd.tie b) (n:=200) ff.pos cb.pos ff.top ff.bot (cb.top.mono ⋯) (cb.bot.mono ⋯) ⋯;rw[show qB ws f (lm (dI nd b) (ch W nd.tie b))=((ws.getD (dI nd b).toNat (1,1)).1==(tm f (ch W nd.tie b)).1&&(ws.getD (dI nd b).toNat (1,1)).2==(tm f (ch W nd.tie b)).2) from rfl];rw[show uB (lm (dI nd b) (ch W nd.tie b))=[some (.d (.int (dI nd b))),some (.d (dF (ch W nd.tie b)))]from rfl];generalize ws.getD (dI nd b).toNat (1,1)=g at*;have ge:=λe=>tT (e:=e) (a:=g.1) (b:=g.2) (c:=(tm f (ch W nd.tie b)).1) (d:=(tm f (ch W nd.tie b)).2);rw[<-show dF g=.tuple [.int g.1,.int g.2]from rfl,<-show dF (tm f (ch W nd.tie b))=.tuple [.int (tm f (ch W nd.tie b)).1,.int (tm f (ch W nd.tie b)).2]from rfl]at ge;simp only[cs];generalize (g.1==(tm f (ch W nd.tie b)).1&&g.2==(tm f (ch W nd.tie b)).2)=bb at*;generalize dF (tm f (ch W nd.tie b))=A at*;generalize dF (ch W nd.tie b)=B at*;generalize dF g=C at*;generalize dF f=D at*;generalize ws.map dF=WW at*;generalize dI nd b=l at*;generalize bg nd=N at*;simp?[cn,hat,tt,ge]) (by have:=AG (W:=W) (x:=nd);lia);rcases t' with _|⟨u3,_|⟨u4,_|⟨u5,r⟩⟩⟩;·simp at ht'
  ·simp at ht'
  ·refine⟨cs++[t3,t4],cs++[t3,t4],lq W nd,cs++[t3,t4],[some (.d (bg nd)),some (.d (dF f)),u3,u4],?_,rfl,?_,?_,rfl⟩;·simp only[cs];generalize bg nd=N at*;generalize dF f=D at*;simp?[Ug]
   ·unfold cM;refine tY ?_;simp only[cs];generalize dF f=D at*;generalize bg nd=N at*;simp?[tw]
   ·rw[hf];have:(lq W nd).filter (λ_=>true)=lq W nd:=VU.mpr λ_ _=>rfl;rw[this];have:fB W ws (.tuple [bg nd,dF f])=(lq W nd).map (qB ws f):=rfl;rw[this,UJ];rfl
  ·simp at ht'
 ·simp at ht
theorem uV{W:aA}(ok:W.Ok){T:List Nd}{S:Nat->Std}(h:be W T S)(o:fQ T)(tr:en T)(hT:T.length<=65535){d:TN}(hs:d.showable=true)(hb:∀ws:List Fr,d=.tuple (ws.map dF)->∀f∈ws,Bt 200 f.1/\Bt 200 f.2):∃b,bE [.d (ax W),.d (.tuple (T.map bg)),.d d]=some (.d (.bool b),[.d (ax W),.d (.tuple (T.map bg)),.d d])/\(b=true↔d=.tuple ((aY W T T.length).map dF)):=by
 have tf:=mV hs (n:=(T.length:Int)) ↥0;have ql:((T.map bg).length:Int)=(T.length:Int):=by simp
 cases c:eX (T.length:Int) d with|false=>
  rw[c]at tf;refine⟨false,?_,(λe=>by cases e),λe=>?_⟩;·generalize T.map bg=TT at*;generalize (T.length:Int)=L at*;simp?[bE,dy,ql,tf]
  ·subst e;rw[show eX (T.length:Int) (.tuple ((aY W T T.length).map dF))=true by simp only[eX,Dn ok h o tr,Uq,jH,beq_self_eq_true,Wc]]at c;cases c|true=>rw[c]at tf;cases d with|tuple ds=>
   simp only[eX,Uw,beq_iff_eq]at c;obtain⟨ws,rfl,hp⟩:=AY c.2;have hl:ws.length=T.length:=by have:=c.1;rw[Uq]at this;lia
   have fb:∀f∈ws,FB 200 f:=λf hf=>⟨hp f hf,(hb ws rfl f hf).1,(hb ws rfl f hf).2⟩;by_cases z:ws.getD 0 (1,1)=(1,1);case neg=>
    have tp:0<T.length:=by
     by_cases q:T.length=0;·refine absurd ?_ z;rw[Ur,Xf ↥0];rfl
     ·lia
    have tp':0<(T.length:Int):=by lia
    have hat:=oZ (rs:=ws) (k:=0) (z:=(1,1)) ↥0 ↥0;refine⟨false,?_,(λe=>by cases e),λe=>?_⟩
    ·have ge:=λe=>zv (e:=e) (a:=(ws.getD 0 (1,1)).1) (b:=(ws.getD 0 (1,1)).2) (c:=1) (d:=1);have bf:(!((ws.getD 0 (1,1)).1==1&&(ws.getD 0 (1,1)).2==1))=true:=by rw[Yt,Bool.eq_false_iff];intro e;rw[Uw,beq_iff_eq,beq_iff_eq]at e;exact z (Prod.ext e.1 e.2)
     rw[bf]at ge;rw[show(0:Int).toNat=0 from rfl]at hat;unfold dF at hat;have hat:atI (ws.map dF) 0=_:=hat;clear fb hb c;generalize (ws.getD 0 (1,1)).1=p1 at*;generalize (ws.getD 0 (1,1)).2=p2 at*;generalize T.map bg=TT at*;generalize ws.map dF=WW at*;generalize (T.length:Int)=L at*;simp?[bE,dy,ql,tf,tp',hat,ge]
    ·have e':ws=aY W T T.length:=ou (by simpa using e);rw[e',qQ o]at z;exact absurd rfl z
   case pos=>
    let cs:En:=[some (.d (.tuple (ws.map dF))),some (.d (ax W))];have item:∀x∈cI (T.map bg) (ws.map dF),∃(i:Nat) (nd:Nd) (f:Fr),T[i]?=some nd/\ws[i]?=some f/\x=.tuple [bg nd,dF f]:=λx hx=>by obtain⟨i,hi⟩:=We hx;obtain⟨a,b,h1,h2,rfl⟩:=mZ hi;rw[Ut]at h1 h2;obtain⟨nd,h3,rfl⟩:=TB h1;obtain⟨f,h4,rfl⟩:=TB h2;exact⟨i,nd,f,h3,h4,rfl⟩
    obtain⟨t',ht,hf⟩:=rB (cs:=cs) (g:=aO (am (af 2) (am (af 3) aN))) (ft:=aX) (fi2:=cM) (g2:=aO (am (af 4) (am (af 5) aN))) (ft2:=aX) (fe:=cn) (f:=λx=>(fB W ws x).map PyData.bool) 4 (cI (T.map bg) (ws.map dF)) [none,none,none,none] [] rfl (λx hx=>by obtain⟨i,nd,f,h1,h2,rfl⟩:=item x hx;rw[Uq,show fB W ws (.tuple [bg nd,dF f])=(lq W nd).map (qB ws f) from rfl,Uq];exact AG) (λx hx t acc ht ha=>by obtain⟨i,nd,f,h1,h2,rfl⟩:=item x hx;exact IV ok h hl fb h1 h2 t acc ht ha) (by rw[iV (by simp[hl])];simp;lia);have hv:=DN (cp:=[(2,"thing"),(0,"web")]) (nT:=4) (fi:=kX) (g:=aO (am (af 2) (am (af 3) aN))) (ft:=aX) (fi2:=cM) (g2:=aO (am (af 4) (am (af 5) aN))) (ft2:=aX) (fe:=cn) (e:=[some (.d (ax W)),some (.d (.tuple (T.map bg))),some (.d (.tuple (ws.map dF)))]) (cs:=cs) (t:=[none,none,none,none]) (t':=t') rfl rfl rfl hf;rw[Ux,<-List.map_flatMap]at hv;have ga:∀e,g1 (i4 rS) e [.l (((cI (T.map bg) (ws.map dF)).flatMap (fB W ws)).map PyData.bool)]=some (.d (.bool (((cI (T.map bg) (ws.map dF)).flatMap (fB W ws)).all id))):=λe=>tS (e:=e) (id:Bool->Bool) _;refine⟨((cI (T.map bg) (ws.map dF)).flatMap (fB W ws)).all id,?_,λe=>?_,λe=>?_⟩
    ·have ge:=λe=>zv (e:=e) (a:=1) (b:=1) (c:=1) (d:=1);have hat:0<T.length->atI (ws.map dF) 0=some (.tuple [.int 1,.int 1]):=λq=>by have:=oZ (rs:=ws) (k:=0) (z:=(1,1)) ↥0 ↥0;rw[show(0:Int).toNat=0 from rfl,z]at this;exact this
     clear item hf c fb hb;generalize ((cI (T.map bg) (ws.map dF)).flatMap (fB W ws)).all id=bb at*;generalize ((cI (T.map bg) (ws.map dF)).flatMap (fB W ws)).map PyData.bool=M at*;generalize T.map bg=TT at*;generalize ws.map dF=WW at*;by_cases q:0<T.length
     ·have q':0<(T.length:Int):=by lia
      have hat:=hat q;generalize (T.length:Int)=L at*;simp?[bE,dy,ql,tf,q',hat,ge,hv,ga]
     ·have q':¬0<(T.length:Int):=by lia
      generalize (T.length:Int)=L at*;simp?[bE,dy,ql,tf,q',hv,ga]
    ·rw[Dv (W:=W) h o tr hl z λi x b hx n=>?_];have hi:i<ws.length:=by rw[hl];exact(TC hx).1
     have hw:ws[i]?=some ws[i]:=Um hi;generalize ws[i]=f at hw;have m1:=TK (tG (xs:=T.map bg) (ys:=ws.map dF) (i:=i) (x:=bg x) (y:=dF f) (by rw[Ut,hx];rfl) (by rw[Ut,hw];rfl));have q:=Vd.mp e (qB ws f (lm (dI x b) (ch W x.tie b))) (List.mem_flatMap.mpr ⟨_,m1,Wz.mpr ⟨_,mY.mpr ⟨b,n,rfl⟩,rfl⟩⟩);have q:=JY.mp (show qB ws f _=true from q);rw[q,Ur,hw,VS]
    ·have e':ws=aY W T T.length:=ou (by simpa using e);rw[Vd];intro x hx;obtain⟨y,hy,hx2⟩:=List.mem_flatMap.mp hx;obtain⟨i,nd,f,h1,h2,rfl⟩:=item y hy;have hx3:x∈(lq W nd).map (qB ws f):=hx2;obtain⟨w,hw,rfl⟩:=TH hx3;obtain⟨b,n,rfl⟩:=mY.mp hw;show qB ws f _=true;rw[JY];have q:=k9 (W:=W) h o tr.1 T.length i (TC h1).1 nd b h1 n;rw[<-e',Ur (i:=i),h2,VS]at q;exact q|_=>simp[eX]at c
theorem KR{W:aA}:∀r:List (Int×Bool),((kw W r:Int):Rat)=kR W r|[]=>by unfold kw kR sS;simp|(k,true)::r=>by have ih:=KR (W:=W) r;show(((W.tie k).worth+kw W r:Int):Rat)=(if true=true then((W.tie k).worth:Rat) else 0)+kR W r;rw[if_pos rfl,Rat.intCast_add,ih]|(k,false)::r=>by have ih:=KR (W:=W) r;show((kw W r:Int):Rat)=(if false=true then((W.tie k).worth:Rat) else 0)+kR W r;rw[if_neg ⋯,ih];grind
theorem Jl{W:aA}(ok:W.Ok){T:List Nd}{a:List Bool}:0<(l6 W T a).2/\vR (l6 W T a)=wR W.ties a*kR W (rn T a 17 (rt T)):=by
 have hb:=Hf ok;have p1:0<(oX (1,1) W.ties a).2:=Cj hb ⋯;have p2:0<((kw W (rn T a 17 (rt T)),1):Fr).2:=by show(0:Int)<1;decide
 refine⟨qZ p1 p2,?_⟩;unfold l6;rw[uY p1 p2,GS hb ⋯,Nx,BD,KR];grind
theorem J9{W:aA}(ok:W.Ok){T:List Nd}{S:Nat->Std}(h:be W T S)(o:fQ T)(t:en T):bj (0,1) ((aQ W.ties.length).map (l6 W T))=(eA W T T.length++[(0,1)]).getD 0 (0,1):=GD ok h o t _ λa _=>Jl ok
def yN(W:aA)(T:List Nd)(i:Nat):Fr:=tm (tm ((aY W T T.length).getD i (1,1)) (qo (W.tie (aS T (i:Int)).tie) true)) ((W.tie (aS T (i:Int)).tie).worth,1)
theorem He{W:aA}{k:Int}(hk:kc W k):(W.tie k).bot∣eD W:=by have:=xD (W:=W) (a:=[k]) (L:=W.rng) ↥1 λx hx=>pO.mpr (by simp at hx;rw[hx];exact hk);unfold eD;simpa[bp]using this
theorem GY{W:aA}(ok:W.Ok){T:List Nd}{S:Nat->Std}(h:be W T S){i:Nat}(hi:i<T.length):u_ (eD W*eD W) (tm ((aY W T T.length).getD i (1,1)) (qo (W.tie (aS T (i:Int)).tie) true))/\l9 (eD W*eD W) 1000 (yN W T i):=by have hx:=Um hi;have nd:=h i _ hx;rw[<-kr hx]at nd;have o:=nd.tie.ok ok;have one:=(eV.all ok h T.length).one ok h hi;have c:=tO o true;have c':u_ (eD W) (qo (W.tie (aS T (i:Int)).tie) true):=⟨c.pos,c.lo,c.hi,He nd.tie⟩;have r:=one.tm c';refine⟨r,?_⟩;have:=r.tmS (M:=1) (i:=1000) (y:=((W.tie (aS T (i:Int)).tie).worth,1)) ⟨Wx,o.w0,by show _<=1000*1;have:=o.w1;lia,Xx _⟩;rw[Int.mul_one]at this;exact this
theorem JF{W:aA}(ok:W.Ok):0<eD W*eD W/\Bt 226 (eD W*eD W):=by obtain⟨a,b⟩:=jw ok;exact⟨UO a a,b.mul b⟩
theorem Oj{W:aA}(ok:W.Ok){T:List Nd}{S:Nat->Std}(h:be W T S)(hT:T.length<=65535){m:Nat}(hm:m<=T.length):0<(bj (0,1) ((Uu m).map (yN W T))).2/\Bt 300 (bj (0,1) ((Uu m).map (yN W T))).1/\Bt 300 (bj (0,1) ((Uu m).map (yN W T))).2:=by
 obtain⟨m0,m1⟩:=JF ok;obtain⟨c1,_,_⟩:=qi (M:=eD W*eD W) (j:=1000) ((Uu m).map (yN W T)) (a:=(0,1)) (i:=0) (q_ (XS 0)) kb ⋯ λf hf=>by obtain⟨i,hi,rfl⟩:=TH hf;exact(GY ok h (by have:=WA.mp hi;lia)).2
 have bt:=c1.bt (n:=226) (m:=40) m1 m0 (by unfold Bt;rw[Uq,List.length_range];lia);exact⟨c1.pos,bt.1.mono ⋯,bt.2.mono ⋯⟩
abbrev Hh(W:aA)(T:List Nd)(f:Fr)(v4 v5 v6 v7:Option Sv):En:=[some (.d (ax W)),some (.d (.tuple (T.map bg))),some (.d (.tuple ((aY W T T.length).map dF))),some (.d (dF f)),v4,v5,v6,v7]
theorem yK{W:aA}(ok:W.Ok){T:List Nd}{S:Nat->Std}(h:be W T S)(hT:T.length<=65535):d9 [.d (ax W),.d (.tuple (T.map bg)),.d (.tuple ((aY W T T.length).map dF))]=some (.d (dF (bj (0,1) ((Uu T.length).map (yN W T)))),[.d (ax W),.d (.tuple (T.map bg)),.d (.tuple ((aY W T T.length).map dF))]):=by
 have g1':∀e:En,bF e (.d (ax W)) (.d (.int 1))=some (.d (.tuple (W.ties.map bi))):=λe=>by rw[cA,gu,cU];rfl
 have rl:=(eV.all ok h T.length).len;have zl:(cI (T.map bg) ((aY W T T.length).map dF)).length=T.length:=by rw[iV (by simp[rl]),Uq]
 obtain⟨m0,m1⟩:=JF ok;obtain⟨e',h1,⟨w4,w5,w6,w7,rfl⟩⟩:=cB (own:=[]) (g:=aO (am (af 4) (am (af 5) aN))) (f:=fV) (λi e=>∃v4 v5 v6 v7,e=Hh W T (bj (0,1) ((Uu i).map (yN W T))) v4 v5 v6 v7) (cI (T.map bg) ((aY W T T.length).map dF)) 0 (Hh W T (0,1) none none none none) (λi x e hx⟨v4,v5,v6,v7,he⟩=>by
  subst he;rw[Vz];have hi:i<T.length:=by rw[<-zl];exact(TC hx).1
  have hn:=Um hi;have nd:=h i _ hn;have hr:=Um (show i<(aY W T T.length).length by rw[rl];exact hi);have hz:=tG (xs:=T.map bg) (ys:=(aY W T T.length).map dF) (i:=i) (x:=bg T[i]) (y:=dF (aY W T T.length)[i]) (by rw[Ut,hn];rfl) (by rw[Ut,hr];rfl);rw[hz]at hx;obtain rfl:=UH hx;have o:=nd.tie.ok ok;have ai:=fU nd.tie;have one:=(eV.all ok h T.length).one ok h hi;obtain⟨y1,y2⟩:=GY ok h hi;obtain⟨s0,s1,s2⟩:=Oj ok h hT (m:=i) ↥0;have ge:(aY W T T.length).getD i (1,1)=(aY W T T.length)[i]:=by rw[Ur,hr];rfl
  rw[ge]at one;have ye:yN W T i=tm (tm (aY W T T.length)[i] (qo (W.tie (T[i]).tie) true)) ((W.tie (T[i]).tie).worth,1):=by unfold yN;rw[ge,kr hn]
  rw[ge,kr hn]at y1;obtain⟨b0,b1⟩:=jw ok;obtain⟨c1,c2⟩:=one.bt b1 b0;have rc:=tO o true;obtain⟨c3,c4⟩:=rc.bt (n:=7) (by have:=o.b1;have:=o.b0;unfold Bt;lia) (by have:=o.b0;lia);have t1:=tu (n:=300) one.pos rc.pos (c1.mono ⋯) (c2.mono ⋯) (c3.mono ⋯) (c4.mono ⋯) ⋯;obtain⟨d1,d2⟩:=y1.bt m1 m0;have t2:=tu (a:=tm (aY W T T.length)[i] (qo (W.tie (T[i]).tie) true)) (b:=((W.tie (T[i]).tie).worth,1)) (n:=300) y1.pos Wx (d1.mono ⋯) (d2.mono ⋯) (Bt.mono (m:=20) (by have:=o.w0;have:=o.w1;unfold Bt;lia) ⋯) (Bt.mono (m:=1) (by show Bt 1 (1:Int);unfold Bt;decide) ⋯) ⋯;rw[<-ye]at t2;have e2:=y2.bt (n:=226) (m:=20) m1 m0 (by unfold Bt;decide);have t3:=GG (a:=bj (0,1) ((Uu i).map (yN W T))) (b:=yN W T i) (n:=300) s0 y2.pos s1 s2 (e2.1.mono ⋯) (e2.2.mono ⋯) ⋯;have es:pl (bj (0,1) ((Uu i).map (yN W T))) (yN W T i)=bj (0,1) ((Uu (i+1)).map (yN W T)):=by simp[bj,List.range_succ]
  rw[es]at t3;refine⟨Hh W T (bj (0,1) ((Uu i).map (yN W T))) (some (.d (bg T[i]))) (some (.d (dF (aY W T T.length)[i]))) v6 v7,Hh W T (bj (0,1) ((Uu (i+1)).map (yN W T))) (some (.d (bg T[i]))) (some (.d (dF (aY W T T.length)[i]))) (some (.d (.tuple [.int (W.tie (T[i]).tie).top,.int (W.tie (T[i]).tie).bot]))) (some (.d (.int (W.tie (T[i]).tie).worth))),rfl,?_,aV,_,_,_,_,rfl⟩;have e3:dF (qo (W.tie (T[i]).tie) true)=.tuple [.int (W.tie (T[i]).tie).top,.int (W.tie (T[i]).tie).bot]:=rfl;have e4:dF ((W.tie (T[i]).tie).worth,1)=.tuple [.int (W.tie (T[i]).tie).worth,.int 1]:=rfl;rw[e3]at t1;rw[e4]at t2;have c5:∀(x0 x1 x2 x3:TN),L2.cutD [x0,x1,x2,x3] (some 2) none=[x2,x3]:=λ_ _ _ _=>rfl;unfold bi at ai g1';unfold Hh bg;generalize dF (bj (0,1) ((Uu (i+1)).map (yN W T)))=q0 at*;generalize dF (bj (0,1) ((Uu i).map (yN W T)))=q1 at*;generalize dF (yN W T i)=q2 at*;generalize dF (tm (aY W T T.length)[i] (qo (W.tie (T[i]).tie) true))=q3 at*;generalize dF (aY W T T.length)[i]=q4 at*;generalize (W.ties.map λt=>PyData.tuple [.int t.one,.int t.other,.tuple [.int t.top,.int t.bot],.int t.worth])=TT at*;simp?[fV,g1',ai,nG,c5,t1,t2,t3]) ⟨none,none,none,none,rfl⟩;rw[zl,Vz]at h1;have hf:∀Wl,cH Wl jA (aO (am (af 4) (am (af 5) aN))) fV (Hh W T (0,1) none none none none)=some (.nx (Hh W T (bj (0,1) ((Uu T.length).map (yN W T))) w4 w5 w6 w7)):=λWl=>by rw[cx (items:=cI (T.map bg) ((aY W T T.length).map dF)) (e1:=Hh W T (0,1) none none none none) (by simp?[jA,nH])];exact h1
 unfold Hh at hf;have e01:dF ((0,1):Fr)=.tuple [.int 0,.int 1]:=rfl;rw[e01]at hf;generalize dF (bj (0,1) ((Uu T.length).map (yN W T)))=q at*;generalize T.map bg=TT at*;generalize (aY W T T.length).map dF=RR at*;simp?[d9,o5,hf]
theorem L7{W:aA}(ok:W.Ok){T:List Nd}{S:Nat->Std}(h:be W T S){i:Nat}(hi:i<T.length):0<(yN W T i).2/\vR (yN W T i)=rR W T i*hR (W.tie (aS T (i:Int)).tie):=by have hx:=Um hi;have nd:=h i _ hx;rw[<-kr hx]at nd;have one:=(eV.all ok h T.length).one ok h hi;have c:=jV (tD ok nd.tie) true;refine⟨(GY ok h hi).2.pos,?_⟩;unfold yN hR cR rR;rw[uY (qZ one.pos c) (by show(0:Int)<1;decide),uY one.pos c,BD];grind
theorem M_{W:aA}(ok:W.Ok){T:List Nd}{S:Nat->Std}(h:be W T S)(o:fQ T)(t:en T):bj (0,1) ((Uu T.length).map (yN W T))=(eA W T T.length++[(0,1)]).getD 0 (0,1):=DF ok h o t _ λi hi=>L7 ok h hi
theorem CC{P:kd->Prop}:∀{ds:List TN},(∀d∈ds,∃t,d=bi t/\P t)->∃ts:List kd,ds=ts.map bi/\∀t∈ts,P t
 |[],_=>⟨[],rfl,λ_ h=>by cases h⟩|d::r,h=>by
  obtain⟨t,rfl,ht⟩:=h d ↥1;obtain⟨ts,rfl,hts⟩:=CC (P:=P) (ds:=r) λd hd=>h d (by simp[hd]);refine⟨t::ts,rfl,λu hu=>?_⟩;rcases TJ hu with rfl|hu;·exact ht
  ·exact hts u hu
theorem Nr{ds:List Int}(hd:jR ds):∃(W:aA) (ds':List Int),zJ [.l (ds.map .int)]=some (.d (ax W),[.l (ds'.map .int)])/\jR ds'/\W.Ok/\W.ties.length<=10:=by
 obtain⟨ts,d1,tt,hd1,tl,to⟩:=GK ds 12 10 hd ⋯ ⋯ ⋯ ⋯;obtain⟨out,e2,h2,h3,h4,⟨d2,v,he2,hd2⟩⟩:=wu (g:=af 1) (ft:=aX) (fe:=sR) (λi e=>∃ds v,e=[some (.l (ds.map .int)),v]/\jR ds) (λd=>∃t,d=bi t/\t.Ok 12) (ts.map bi) 0 [some (.l (d1.map .int)),none] [] (λi x e hx⟨ds,v,he,hd⟩=>by subst he;rw[Ut]at hx;obtain⟨t,ht,rfl⟩:=TB hx;have o:=to t (TK ht);obtain⟨n,d3,t3,a3,b3,hd3⟩:=kz hd;obtain⟨a,b,tc,h0,h1,h2,h3,h4⟩:=Au n 0 a3;refine⟨_,.d (bi ⟨t.one,t.other,a,b,t.worth⟩),bi ⟨t.one,t.other,a,b,t.worth⟩,_,rfl,rfl,?_,rfl,⟨_,rfl,⟨o.o0,o.o1,o.o2,h0,h1,h2,h3,o.w0,o.w1,h4⟩⟩,d3,some (.d (bi t)),rfl,hd3⟩;have c1:∀(x0 x1 x2 x3:TN),L2.cutD [x0,x1,x2,x3] none (some 2)=[x0,x1]:=λ_ _ _ _=>rfl;have c2:∀(x0 x1 x2 x3:TN),L2.cutD [x0,x1,x2,x3] (some 3) none=[x3]:=λ_ _ _ _=>rfl;unfold bi;simp?[sR,t3,tc,nG,c1,c2,qz]) ⟨d1,none,rfl,hd1⟩ ↥7;subst he2;obtain⟨us,rfl,hus⟩:=CC h4;rw[Ux]at h2;have hv:bD [(0,"_law_drawn")] 1 xT (af 1) aX sR [some (.l (ds.map .int)),none]=some (.l (us.map bi),[some (.l (d2.map .int)),none]):=by rw[DP (cp:=[(0,"_law_drawn")]) (nT:=1) (fi:=xT) (e:=[some (.l (ds.map .int)),none]) (e1:=[some (.l (d1.map .int)),none]) (items:=ts.map bi) (lF (by simp?[tt])) h2 rfl];refine congrArg (λz=>some (Rv.l (us.map bi),z)) ?_;exact DM (j:=0) (k:=0) (xs:=d1.map .int) rfl rfl rfl λi hi=>.inl (by cases i with|zero=>exact absurd rfl hi|succ i=>rfl)
 obtain⟨n,d3,t3,a3,b3,hd3⟩:=kz hd2;have g2':∀e:En,bx e (.d (.int n)) (.d (.int 20))=some (.d (.int (n%20))):=λe=>a' ⋯;have q0:=Ex (n:=n) (k:=20) ⋯;have q1:=Ey (n:=n) (k:=20) ⋯;simp only[Uq]at h3;refine⟨⟨12,us,Ug 12 (1+n%20),10⟩,d3,?_,hd3,⟨(by show(0:Int)<=12;decide),(by show(12:Int)<=12;decide),hus,by show us.length<=16;lia,by simp,λp hp=>?_,(by show(0:Int)<=10;decide),(by show(10:Int)<=40;decide)⟩,by show us.length<=10;lia⟩
 ·have gr:∀(e:En) (d:TN),cL e (.d (.tuple [d])) (.d (.int 12))=some (.d (.tuple (Ug 12 d))):=λe d=>Kw (n:=12) ⋯ ⋯;have eW:ax ⟨12,us,Ug 12 (1+n%20),10⟩=.tuple [.int 12,.tuple (us.map bi),.tuple (Ug 12 (.int (1+n%20))),.int 10]:=by show PyData.tuple [.int 12,.tuple (us.map bi),.tuple ((Ug 12 (1+n%20)).map .int),.int 10]=_;rw[List.map_replicate]
  rw[eW];generalize n%20=y at*;generalize us.map bi=U at*;have gt:∀(e:En),g1 cz e [.l U]=some (.d (.tuple U)):=λe=>rfl;simp?[zJ,JC,hv,t3,g2',gr,gp]
 ·have:=List.eq_of_mem_replicate hp;lia
theorem yG{ws:List Fr}(h:∀f∈ws,Bt 140 f.1/\Bt 140 f.2)(hl:ws.length<=65535):(PyData.tuple (ws.map dF)).showable=true/\jz (.tuple (ws.map dF))=true:=by have z:=Sz.tup (n:=95) (dep:=4) (m:=65535) (ds:=ws.map dF) (λd hd=>by obtain⟨f,hf,rfl⟩:=TH hd;exact Sz.fr140 (h f hf).1 (h f hf).2) (by rw[Uq];exact hl);exact⟨z.sh,z.fl⟩
theorem J_{W:aA}(ok:W.Ok)(hn:W.ties.length<=10){T:List Nd}{S:Nat->Std}(hT:be W T S):bJ [.d (ax W),.d (.tuple (T.map bg))]=some (.d (dF (bj (0,1) ((aQ W.ties.length).map (l6 W T)))),[.d (ax W),.d (.tuple (T.map bg))])/\mJ [.d (dF (bj (0,1) ((aQ W.ties.length).map (l6 W T)))),.d (dF (bj (0,1) ((aQ W.ties.length).map (l6 W T))))]=some (.d (.bool true),[.d (dF (bj (0,1) ((aQ W.ties.length).map (l6 W T)))),.d (dF (bj (0,1) ((aQ W.ties.length).map (l6 W T))))]):=by
 have t1:=yJ ok hn hT;obtain⟨ql,qr⟩:=fM W.ties.length;have pw:=FH (n:=W.ties.length) ↥0;have hx:=By ok hT;have m0:=(sV ok ↥0).1;have ep:bj (0,1) ((bW W.ties.length).map (l6 W T))=bj (0,1) ((aQ W.ties.length).map (l6 W T)):=DD (M:=vA 1 W.ties) (j:=16000) m0 ⋯ ((k_ W.ties.length).map (l6 W T)) λf hf=>by obtain⟨b,hb,rfl⟩:=TH hf;exact hx b ((qR W.ties.length).2 b hb)
 rw[ep]at t1;obtain⟨s0,s1,s2⟩:=LQ ok ↥0 hx (L:=aQ W.ties.length) qr ↥0;have sz:=Sz.fr s1 s2 ⋯ ⋯;exact⟨t1,LV sz ⋯ ⋯⟩
theorem Lf{ds:List Int}(hd:jR ds){W:aA}(ok:W.Ok)(hn:W.ties.length<=10)(g:Bool):∃(d1 d2:List Int) (T T' R due sh wp wp':TN),qK [.l (ds.map .int),.d (ax W),.d (.bool g)]=some (.d T,[.l (d1.map .int),.d (ax W),.d (.bool g)])/\cD [.l (d1.map .int),.d T]=some (.d T',[.l (d2.map .int),.d T])/\jR d2/\d_ [.d (ax W),.d T]=some (.d due,[.d (ax W),.d T])/\cE [.d (ax W),.d T]=some (.d R,[.d (ax W),.d T])/\cw [.d (ax W),.d T]=some (.d due,[.d (ax W),.d T])/\bJ [.d (ax W),.d T]=some (.d due,[.d (ax W),.d T])/\cw [.d (ax W),.d T']=some (.d due,[.d (ax W),.d T'])/\mJ [.d due,.d due]=some (.d (.bool true),[.d due,.d due])/\d9 [.d (ax W),.d T,.d R]=some (.d due,[.d (ax W),.d T,.d R])/\(∀e:En,bR true e (.d due) (.d due)=some (.d (.bool false)))/\bO [.d (ax W),.d T']=some (.d sh,[.d (ax W),.d T'])/\bO [.d (ax W),.d T]=some (.d sh,[.d (ax W),.d T])/\(∀e:En,bR true e (.d sh) (.d sh)=some (.d (.bool false)))/\bE [.d (ax W),.d T,.d R]=some (.d (.bool true),[.d (ax W),.d T,.d R])/\cm [.d (ax W),.d T]=some (.d wp,[.d (ax W),.d T])/\bM [.d (ax W),.d T,.d wp]=some (.d (.bool true),[.d (ax W),.d T,.d wp])/\cm [.d (ax W),.d T']=some (.d wp',[.d (ax W),.d T'])/\bM [.d (ax W),.d T',.d wp']=some (.d (.bool true),[.d (ax W),.d T',.d wp'])/\bJ [.d (ax W),.d T']=some (.d due,[.d (ax W),.d T']):=by
 obtain⟨d1,T,S,t1,hd1,h,hT,o,t⟩:=LW ok g hd;obtain⟨d2,T',S',t2,hd2,h',hT',o',t',hr⟩:=qm ok hd1 h hT (KW h o t);have w1:=yM ok hn h;obtain⟨b1,b3⟩:=J_ ok hn h;rw[J9 ok h o t]at w1 b1 b3;obtain⟨b1',_⟩:=J_ ok hn h';rw[J9 ok h' o' t',uZ ok h o t h' o' t' hr]at b1';have v1:=uW ok h hT;have v1':=uW ok h' hT';rw[uZ ok h o t h' o' t' hr]at v1';have r1:=qk ok h hT;have y1:=yK ok h hT;rw[M_ ok h o t]at y1;have s1:=mU ok h hT;have s1':=mU ok h' hT';rw[Ao ok h o t h' o' t' hr]at s1';have p1:=mX ok h hT;have p1':=mX ok h' hT';have fw:=ut ok h hT;have fw':=ut ok h' hT';have fr:=wV ok h;have rl:=(eV.all ok h T.length).len;have hs:=xt.all ok h (eV.all ok h T.length) T.length;have zw:=yG (ws:=eA W T T.length) (λf hf=>⟨(fw f hf).top,(fw f hf).bot⟩) (by rw[eU];exact hT);have zw':=yG (ws:=eA W T' T'.length) (λf hf=>⟨(fw' f hf).top,(fw' f hf).bot⟩) (by rw[eU];exact hT');have zr:=yG (ws:=aY W T T.length) (λf hf=>⟨(fr f hf).top,(fr f hf).bot⟩) (by rw[rl];exact hT);have zs:=yG (ws:=lr W T (aY W T T.length) T.length) (λf hf=>by obtain⟨i,hi⟩:=We hf;have:=Ej ok hT (hs.at' i f hi);exact⟨this.1.mono ⋯,this.2.mono ⋯⟩) (by rw[hs.len];have:=ok.len;lia);obtain⟨x1,c1,c2⟩:=nX ok h o hT zw.1 (λws e f hf=>by obtain rfl:=ou (YY e);exact⟨(fw f hf).top.mono ⋯,(fw f hf).bot.mono ⋯⟩);obtain⟨x2,c3,c4⟩:=nX ok h' o' hT' zw'.1 (λws e f hf=>by obtain rfl:=ou (YY e);exact⟨(fw' f hf).top.mono ⋯,(fw' f hf).bot.mono ⋯⟩);obtain⟨x3,c5,c6⟩:=uV ok h o t hT zr.1 (λws e f hf=>by obtain rfl:=ou (YY e);exact⟨(fr f hf).top.mono ⋯,(fr f hf).bot.mono ⋯⟩);rw[c2.mpr rfl]at c1;rw[c4.mpr rfl]at c3;rw[c6.mpr rfl]at c5;refine⟨d1,d2,.tuple (T.map bg),.tuple (T'.map bg),.tuple ((aY W T T.length).map dF),dF ((eA W T T.length++[(0,1)]).getD 0 (0,1)),.tuple ((lr W T (aY W T T.length) T.length).map dF),.tuple ((eA W T T.length).map dF),.tuple ((eA W T' T'.length).map dF),?_,?_,?_,?_,?_,?_,?_,?_,?_,?_,?_,?_,?_,?_,?_,?_,?_,?_,?_,?_⟩;·exact t1
 ·exact t2
 ·exact hd2
 ·exact w1
 ·exact r1
 ·exact v1
 ·exact b1
 ·exact v1'
 ·exact b3
 ·exact y1
 ·intro e;generalize (eA W T T.length++[(0,1)]).getD 0 (0,1)=q;exact zu (Sh.ints (ns:=[q.1,q.2])) ⋯ rfl
 ·exact s1'
 ·exact s1
 ·intro e;exact zu (Sh.tup (n:=4) λd hd=>by obtain⟨f,hf,rfl⟩:=TH hd;exact Sh.ints (ns:=[f.1,f.2])) ⋯ zs.2
 ·exact c5
 ·exact p1
 ·exact c1
 ·exact p1'
 ·exact c3
 ·exact b1'
abbrev nB(ns ds:List Int)(v2 v3 v4 v5 v6 v7 v8 v9:Option Sv):En:=[some (.d (.list (ns.map .int))),some (.l (ds.map .int)),v2,v3,v4,v5,v6,v7,v8,v9]
theorem EZ{ns ds:List Int}(hd:jR ds){q:Int}(q0:0<=q)(q1:q<2)(v3 v4 v5 v6 v7 v8 v9:Option Sv):∃ds' w3 w4 w5 w6 w7 w8 w9,Kk (nB ns ds (some (.d (.int q))) v3 v4 v5 v6 v7 v8 v9)=some (.nx (nB ns ds' (some (.d (.int q))) w3 w4 w5 w6 w7 w8 w9))/\jR ds':=by
 obtain⟨W,d1,tw,hd1,ok,_,hn⟩:=Nu ds 12 6 hd ⋯ ⋯ ⋯ ⋯;have loop:∀(ds:List Int) (v2 v3 v4 v8 v9:Option Sv) (X T T' due:TN) (Wl:List Nat),cw [.d X,.d T]=some (.d due,[.d X,.d T])->bJ [.d X,.d T]=some (.d due,[.d X,.d T])->cw [.d X,.d T']=some (.d due,[.d X,.d T'])->mJ [.d due,.d due]=some (.d (.bool true),[.d due,.d due])->cH Wl N7 (af 9) ND (nB ns ds v2 (some (.d X)) v4 (some (.d T)) (some (.d T')) (some (.d due)) v8 v9)=some (.nx (nB ns ds v2 (some (.d X)) v4 (some (.d T)) (some (.d T')) (some (.d due)) v8 (some (.d due)))):=λds v2 v3 v4 v8 v9 X T T' due Wl a1 a2 a3 a4=>by
  have st:∀v9:Option Sv,af 9 due (nB ns ds v2 (some (.d X)) v4 (some (.d T)) (some (.d T')) (some (.d due)) v8 v9)=some (nB ns ds v2 (some (.d X)) v4 (some (.d T)) (some (.d T')) (some (.d due)) v8 (some (.d due))):=λ_=>rfl;have bd:ND (nB ns ds v2 (some (.d X)) v4 (some (.d T)) (some (.d T')) (some (.d due)) v8 (some (.d due)))=some (.nx (nB ns ds v2 (some (.d X)) v4 (some (.d T)) (some (.d T')) (some (.d due)) v8 (some (.d due)))):=by simp?[ND,a4]
  rw[cx (items:=[due,due,due]) (e1:=nB ns ds v2 (some (.d X)) v4 (some (.d T)) (some (.d T')) (some (.d due)) v8 v9) (show N7 (nB ns ds v2 (some (.d X)) v4 (some (.d T)) (some (.d T')) (some (.d due)) v8 v9)=some ([due,due,due],[],nB ns ds v2 (some (.d X)) v4 (some (.d T)) (some (.d T')) (some (.d due)) v8 v9) from tY (by simp?[a1,a2,a3]))];simp only[iX,st,Ul,bd];rw[if_pos aV,if_pos aV,if_pos aV]
 have gi:∀e:En,qD e (.d (.bool true)) (.d (.bool true))=some (.d (.bool false)):=λe=>rfl;by_cases c:q=1
 ·subst c;obtain⟨n,d2,t2,a2,b2,hd2⟩:=kz hd1;have g8:∀e:En,bx e (.d (.int n)) (.d (.int 8))=some (.d (.int (n%8))):=λe=>a' ⋯;by_cases c8:n%8=0;·obtain⟨W',d3,t3,hd3,ok',hn'⟩:=Nr hd2;obtain⟨d4,d5,T,T',R,due,sh,wp,wp',x1,x2,hd5,x3,x4,x5,x6,x7,x8,x9,x10,x11,x12,x13,x14,x15,x16,x17,x18,x19⟩:=Lf hd3 ok' hn' false;rw[c8]at g8;have lp:=λv9 Wl=>loop d5 (some (.d (.int 1))) none (some (.d (.bool true))) (some (.d R)) v9 (ax W') T T' due Wl x5 x6 x7 x8;refine⟨d5,some (.d (ax W')),some (.d (.bool true)),some (.d T),some (.d T'),some (.d due),some (.d R),some (.d due),?_,hd5⟩;generalize ax W'=X' at*;generalize ax W=X at*;simp?[Kk,tw,t2,g8,t3,iU,jQ,cW,x1,x2,x3,x4,lp,x9,x10,x11,x12,x13,x14,x15,x16,x17,x18,gi]
  ·obtain⟨d4,d5,T,T',R,due,sh,wp,wp',x1,x2,hd5,x3,x4,x5,x6,x7,x8,x9,x10,x11,x12,x13,x14,x15,x16,x17,x18,x19⟩:=Lf hd2 ok ↥0 true;have lp:=λv9 Wl=>loop d5 (some (.d (.int 1))) none (some (.d (.bool false))) (some (.d R)) v9 (ax W) T T' due Wl x5 x6 x7 x8;refine⟨d5,some (.d (ax W)),some (.d (.bool false)),some (.d T),some (.d T'),some (.d due),some (.d R),some (.d due),?_,hd5⟩;generalize ax W=X at*;generalize n%8=n8 at*;have cb:(n8==0)=false:=by simpa using c8
   simp?[Kk,tw,t2,g8,c8,cb,iU,jQ,cW,x1,x2,x3,x4,lp,x9,x10,x11,x12,x13,x14,x15,x16,x17,x18,x19,gi]
 ·obtain⟨d4,d5,T,T',R,due,sh,wp,wp',x1,x2,hd5,x3,x4,x5,x6,x7,x8,x9,x10,x11,x12,x13,x14,x15,x16,x17,x18,x19⟩:=Lf hd1 ok ↥0 true;have lp:=λv9 Wl=>loop d5 (some (.d (.int q))) none (some (.d (.bool false))) (some (.d R)) v9 (ax W) T T' due Wl x5 x6 x7 x8;refine⟨d5,some (.d (ax W)),some (.d (.bool false)),some (.d T),some (.d T'),some (.d due),some (.d R),some (.d due),?_,hd5⟩;generalize ax W=X at*;simp?[Kk,tw,c,iU,jQ,cW,x1,x2,x3,x4,lp,x9,x10,x11,x12,x13,x14,x15,x16,x17,x18,x19,gi]
theorem E1(ns:List Int)(hl:ns.length<=63):∃as',ui [.d (.list (ns.map .int))]=some (.d (.bool true),as'):=by
 obtain⟨ds,td,hd⟩:=Jg ns hl;obtain⟨e2,h1,⟨ds2,w2,w3,w4,w5,w6,w7,w8,w9,rfl,hd2⟩⟩:=cB (own:=[]) (g:=af 2) (f:=Kk) (λi e=>∃ds v2 v3 v4 v5 v6 v7 v8 v9,e=nB ns ds v2 v3 v4 v5 v6 v7 v8 v9/\jR ds) (bP 0 2) 0 (nB ns ds none none none none none none none none) (λi x e hx⟨ds,v2,v3,v4,v5,v6,v7,v8,v9,he,hd⟩=>by subst he;obtain⟨rfl,hi⟩:=dS hx;obtain⟨d',x3,x4,x5,x6,x7,x8,x9,st,hd'⟩:=EZ (ns:=ns) hd (q:=0+(i:Int)) ↥0 ↥0 v3 v4 v5 v6 v7 v8 v9;exact⟨_,_,rfl,st,aV,_,_,_,_,_,_,_,_,_,rfl,hd'⟩) ⟨ds,_,_,_,_,_,_,_,_,rfl,hd⟩;have hfor:∀Wl,cH Wl OC (af 2) Kk (nB ns ds none none none none none none none none)=some (.nx (nB ns ds2 w2 w3 w4 w5 w6 w7 w8 w9)):=λWl=>by rw[cx (items:=bP 0 2) (e1:=nB ns ds none none none none none none none none) rfl];exact h1
 simp?[ui,JE,td,hfor]
theorem DY{P:List TL->Prop}(h:∀a0,P [a0]):∀us:List TL,us.length=1->P us:=λus e=>match us,e with|[a0],_=>h a0
theorem oC{P:List TL->Prop}(h:∀a0 a1,P [a0,a1]):∀us:List TL,us.length=2->P us:=λus e=>match us,e with|[a0,a1],_=>h a0 a1
theorem DZ{P:List TL->Prop}(h:∀a0 a1 a2,P [a0,a1,a2]):∀us:List TL,us.length=3->P us:=λus e=>match us,e with|[a0,a1,a2],_=>h a0 a1 a2
theorem OV{P:List TL->Prop}(h:∀a0 a1 a2 a3,P [a0,a1,a2,a3]):∀us:List TL,us.length=4->P us:=λus e=>match us,e with|[a0,a1,a2,a3],_=>h a0 a1 a2 a3
abbrev hQ(w:TX)(n:Str)(s:Ub)(a c:TM)(d p:TL):Prop:=(W.nsIn (kK w.params) UV n,XJ a (kK w.params),XE (kK w.params) (.ref c) n,WQ (kK w.params) (.ref a))=(some (some (.ref a)),some (kF n s d p c),true,true)
theorem hm{w:TX}{h:Ua}{mg:Str->Option TL}{n:Str}{s:Ub}{a c:TM}{d p:TL}{ps:List Str}(X:(kK w.params).In h)(G:h.Ns UV mg)(e:hQ w n s a c d p)(b:∀(kV doc pm:TL) (an:Option TM) (cdv ct:TL) (us:List TL),us.length=ps.length->bindArgs (VJ n n (gc s) (dZ s) (ao s) .none kV doc pm an cdv ct) ⟨us,[]⟩=pure (ps.zip us)):eN (kK w.params) mg n s a (VJ n n (gc s) (dZ s) (ao s) .none .none d p none (.ref c) .none) ps:=Kx X G (congrArg (·.1) e) (congrArg (·.2.1) e) (congrArg (·.2.2.1) e) (congrArg (·.2.2.2) e) b
theorem pG(w:TX):hQ w "common_divisor" cQ 23 22 (.none) DV:=by kernel_rfl
theorem C7(w:TX):hQ w "lowest" iR 30 29 (.none) DV:=by kernel_rfl
theorem HJ(w:TX):hQ w "plus" oP 37 36 (.none) DV:=by kernel_rfl
theorem EW(w:TX):hQ w "times" jh 44 43 (.none) DV:=by kernel_rfl
theorem zC(w:TX):hQ w "one_less" e_ 51 50 (.none) DV:=by kernel_rfl
theorem EX(w:TX):hQ w "total" p7 58 57 (.none) DV:=by kernel_rfl
theorem ya(w:TX):hQ w "is_number" iQ 65 64 (.none) JL:=by kernel_rfl
theorem yc(w:TX):hQ w "is_row_of" fN 72 71 (.none) JL:=by kernel_rfl
theorem uc(w:TX):hQ w "is_fraction" eL 79 78 (.none) JL:=by kernel_rfl
theorem oA(w:TX):hQ w "is_fraction_row" bQ 84 83 (.none) JL:=by kernel_rfl
theorem zD(w:TX):hQ w "run_tree" jL 91 90 (.none) OD:=by kernel_rfl
theorem xY(w:TX):hQ w "ask_worth" iN 98 97 (.none) DX:=by kernel_rfl
theorem vt(w:TX):hQ w "link_worth" gQ 105 104 (.none) DX:=by kernel_rfl
theorem vw(w:TX):hQ w "node_worth" eh 112 111 (.none) DX:=by kernel_rfl
theorem Ba(w:TX):hQ w "ways_on" jq 117 116 (.none) DX:=by kernel_rfl
theorem ud(w:TX):hQ w "worths_hold" eM 122 121 (.none) DX:=by kernel_rfl
theorem sv(w:TX):hQ w "reaches_hold" dW 127 126 (.none) DX:=by kernel_rfl
theorem yd(w:TX):hQ w "worths_of" fP 132 131 (.none) JM:=by kernel_rfl
theorem zE(w:TX):hQ w "worth_of" jM 139 138 (.none) JM:=by kernel_rfl
theorem vx(w:TX):hQ w "reaches_of" ek 144 143 (.none) JM:=by kernel_rfl
theorem su(w:TX):hQ w "asked_shares" dU 149 148 (.none) JM:=by kernel_rfl
theorem sx(w:TX):hQ w "refuse_above" dX 181 180 (.none) OE:=by kernel_rfl
theorem A_(w:TX):hQ w "kept_of" lh 186 185 (.none) NG:=by kernel_rfl
theorem vy(w:TX):hQ w "worth_kept" gR 191 190 (.none) NG:=by kernel_rfl
theorem xZ(w:TX):hQ w "chance_by" iO 198 197 (.none) JN:=by kernel_rfl
theorem x_(w:TX):hQ w "chance_of" iP 203 202 (.none) JN:=by kernel_rfl
theorem ua(w:TX):hQ w "all_answers" eK 208 207 (.none) JN:=by kernel_rfl
theorem vq(w:TX):hQ w "by_answers" gN 213 212 (.none) JN:=by kernel_rfl
theorem ET(w:TX):hQ w "_law_mixed" p5 220 219 (.none) gW:=by kernel_rfl
theorem ER(w:TX):hQ w "_law_draws" pY 227 226 (.none) gW:=by kernel_rfl
theorem HD(w:TX):hQ w "_law_next" jJ 234 233 (.none) gW:=by kernel_rfl
theorem KJ(w:TX):hQ w "_law_gcd" Ac 241 240 (.none) gW:=by kernel_rfl
theorem KL(w:TX):hQ w "_law_low" uG 248 247 (.none) gW:=by kernel_rfl
theorem HE(w:TX):hQ w "_law_plus" qU 255 254 (.none) gW:=by kernel_rfl
theorem EU(w:TX):hQ w "_law_times" lM 262 261 (.none) gW:=by kernel_rfl
theorem HF(w:TX):hQ w "_law_rest" uH 269 268 (.none) gW:=by kernel_rfl
theorem HG(w:TX):hQ w "_law_same" uI 276 275 (.none) gW:=by kernel_rfl
theorem C6(w:TX):hQ w "_law_chance" lg 283 282 (.none) gW:=by kernel_rfl
theorem EV(w:TX):hQ w "_law_worth" p6 290 289 (.none) gW:=by kernel_rfl
theorem HH(w:TX):hQ w "_law_ties" qV 297 296 (.none) gW:=by kernel_rfl
theorem KO(w:TX):hQ w "_law_web" Af 304 303 (.none) gW:=by kernel_rfl
theorem A9(w:TX):hQ w "_law_asks_of" lc 309 308 (.none) gW:=by kernel_rfl
theorem KM(w:TX):hQ w "_law_may" Ad 316 315 (.none) gW:=by kernel_rfl
theorem C5(w:TX):hQ w "_law_behind" mN 323 322 (.none) gW:=by kernel_rfl
theorem A8(w:TX):hQ w "_law_askable" lb 328 327 (.none) gW:=by kernel_rfl
theorem ES(w:TX):hQ w "_law_grown" pZ 333 332 (.none) gW:=by kernel_rfl
theorem t_(w:TX):hQ w "_law_all_answers" eJ 338 337 (.none) gW:=by kernel_rfl
theorem xX(w:TX):hQ w "_law_chance_of" iM 345 344 (.none) gW:=by kernel_rfl
theorem zB(w:TX):hQ w "_law_run_tree" jK 352 351 (.none) gW:=by kernel_rfl
theorem HC(w:TX):hQ w "_law_kept" uF 357 356 (.none) gW:=by kernel_rfl
theorem vo(w:TX):hQ w "_law_tree_worth" gM 364 363 (.none) gW:=by kernel_rfl
theorem vm(w:TX):hQ w "_law_renumbered" ef 369 368 (.none) gW:=by kernel_rfl
theorem HI(w:TX):hQ w "_law_tree" uJ 376 375 (.none) gW:=by kernel_rfl
theorem KN(w:TX):hQ w "_law_ten" Ae 381 380 (.none) gW:=by kernel_rfl
theorem vk(w:TX):hQ w "_law_by_reaches" gL 388 387 (.none) gW:=by kernel_rfl
theorem KP(w:TX):hQ w "law" uK 395 394 (.none) gW:=by kernel_rfl
theorem all_mk{l:W.OpenLaw}{w:TX}{h:Ua}{mg:Str->Option TL}{fa:TM}(X:(kK w.params).In h)(G:h.Ns UV mg)(hfa:mg "law"=some (.ref fa)):∃fd:UM,(∀(s:TQ) (v:TL),BindsTo s fd ⟨[v],[]⟩ [("_law_script",v)])/\∀base:Ua,(kK w.params).In base->base.Ns UV mg->bh l.prog w (kK w.params) mg base el 8 fa fd ["_law_script"] (eu (kK w.params) 1 ui):=by
 have e:=hfa.symm.trans (W.mg_of X G (show W.nsIn (kK w.params) UV "law"=some (some (.ref 395)) by kernel_rfl));cases e;have nn:∀{n:Str},W.nsIn (kK w.params) UV n=some none->mg n=none:=λe=>W.mg_none_of X G e;have T:gS mg:=⟨nn ↥6,nn ↥6,nn ↥6,nn ↥6,nn ↥6,nn ↥6,nn ↥6,nn ↥6,nn ↥6,nn ↥6,nn ↥6,nn ↥6,nn ↥6,nn ↥6,nn ↥6,nn ↥6,nn ↥6⟩;have Pi:=hm (ps:=["one","other"]) X G (pG w) λ_ _ _ _ _ _=>oC λ_ _=>rfl;have Pt:=hm (ps:=["top","bottom"]) X G (C7 w) λ_ _ _ _ _ _=>oC λ_ _=>rfl;have P8:=hm (ps:=["one","other"]) X G (HJ w) λ_ _ _ _ _ _=>oC λ_ _=>rfl;have Pq:=hm (ps:=["one","other"]) X G (EW w) λ_ _ _ _ _ _=>oC λ_ _=>rfl;have Pk:=hm (ps:=["chance"]) X G (zC w) λ_ _ _ _ _ _=>DY λ_=>rfl;have QB:=hm (ps:=["row"]) X G (EX w) λ_ _ _ _ _ _=>DY λ_=>rfl;have PC:=hm (ps:=["thing"]) X G (ya w) λ_ _ _ _ _ _=>DY λ_=>rfl;have Pp:=hm (ps:=["thing","many"]) X G (yc w) λ_ _ _ _ _ _=>oC λ_ _=>rfl;have Py:=hm (ps:=["thing"]) X G (uc w) λ_ _ _ _ _ _=>DY λ_=>rfl;have Pd:=hm (ps:=["thing","many"]) X G (oA w) λ_ _ _ _ _ _=>oC λ_ _=>rfl;have P3:=hm (ps:=["web","tree","answers"]) X G (zD w) λ_ _ _ _ _ _=>DZ λ_ _ _=>rfl;have PP:=hm (ps:=["tie","yes","no"]) X G (xY w) λ_ _ _ _ _ _=>DZ λ_ _ _=>rfl;have Pw:=hm (ps:=["worths","link"]) X G (vt w) λ_ _ _ _ _ _=>oC λ_ _=>rfl;have Pl:=hm (ps:=["web","node","worths"]) X G (vw w) λ_ _ _ _ _ _=>DZ λ_ _ _=>rfl;have PL:=hm (ps:=["web","node"]) X G (Ba w) λ_ _ _ _ _ _=>oC λ_ _=>rfl;have Po:=hm (ps:=["web","tree","thing"]) X G (ud w) λ_ _ _ _ _ _=>DZ λ_ _ _=>rfl;have Pv:=hm (ps:=["web","tree","thing"]) X G (sv w) λ_ _ _ _ _ _=>DZ λ_ _ _=>rfl;have Pj:=hm (ps:=["web","tree"]) X G (yd w) λ_ _ _ _ _ _=>oC λ_ _=>rfl;have PM:=hm (ps:=["web","tree"]) X G (zE w) λ_ _ _ _ _ _=>oC λ_ _=>rfl;have Pm:=hm (ps:=["web","tree"]) X G (vx w) λ_ _ _ _ _ _=>oC λ_ _=>rfl;have Ph:=hm (ps:=["web","tree"]) X G (su w) λ_ _ _ _ _ _=>oC λ_ _=>rfl;have Pu:=hm (ps:=["many","most"]) X G (sx w) λ_ _ _ _ _ _=>oC λ_ _=>rfl;have P9:=hm (ps:=["run"]) X G (A_ w) λ_ _ _ _ _ _=>DY λ_=>rfl;have PD:=hm (ps:=["web","run"]) X G (vy w) λ_ _ _ _ _ _=>oC λ_ _=>rfl;have PR:=hm (ps:=["chances","answers"]) X G (xZ w) λ_ _ _ _ _ _=>oC λ_ _=>rfl;have PU:=hm (ps:=["web","answers"]) X G (x_ w) λ_ _ _ _ _ _=>oC λ_ _=>rfl;have Pz:=hm (ps:=["many"]) X G (ua w) λ_ _ _ _ _ _=>DY λ_=>rfl;have Px:=hm (ps:=["web","tree"]) X G (vq w) λ_ _ _ _ _ _=>oC λ_ _=>rfl;have Qk:=hm (ps:=["_law_cell","_law_k"]) X G (ET w) λ_ _ _ _ _ _=>oC λ_ _=>rfl;have QI:=hm (ps:=["_law_script"]) X G (ER w) λ_ _ _ _ _ _=>DY λ_=>rfl;have Pe:=hm (ps:=["_law_drawn"]) X G (HD w) λ_ _ _ _ _ _=>DY λ_=>rfl;have RC:=hm (ps:=["_law_one","_law_other"]) X G (KJ w) λ_ _ _ _ _ _=>oC λ_ _=>rfl;have QD:=hm (ps:=["_law_top","_law_bottom"]) X G (KL w) λ_ _ _ _ _ _=>oC λ_ _=>rfl;have Qu:=hm (ps:=["_law_one","_law_other"]) X G (HE w) λ_ _ _ _ _ _=>oC λ_ _=>rfl;have PV:=hm (ps:=["_law_one","_law_other"]) X G (EU w) λ_ _ _ _ _ _=>oC λ_ _=>rfl;have Q1:=hm (ps:=["_law_one"]) X G (HF w) λ_ _ _ _ _ _=>DY λ_=>rfl;have Q4:=hm (ps:=["_law_found","_law_due"]) X G (HG w) λ_ _ _ _ _ _=>oC λ_ _=>rfl;have P4:=hm (ps:=["_law_number","_law_kind"]) X G (C6 w) λ_ _ _ _ _ _=>oC λ_ _=>rfl;have QF:=hm (ps:=["_law_number","_law_kind"]) X G (EV w) λ_ _ _ _ _ _=>oC λ_ _=>rfl;have Qs:=hm (ps:=["_law_drawn","_law_things","_law_many"]) X G (HH w) λ_ _ _ _ _ _=>DZ λ_ _ _=>rfl;have RK:=hm (ps:=["_law_drawn","_law_most","_law_ties_here"]) X G (KO w) λ_ _ _ _ _ _=>DZ λ_ _ _=>rfl;have P_:=hm (ps:=["_law_web_here","_law_asked","_law_thing"]) X G (A9 w) λ_ _ _ _ _ _=>DZ λ_ _ _=>rfl;have RF:=hm (ps:=["_law_web_here","_law_stand","_law_tie"]) X G (KM w) λ_ _ _ _ _ _=>DZ λ_ _ _=>rfl;have Qa:=hm (ps:=["_law_web_here","_law_stand","_law_tie","_law_truth"]) X G (C5 w) λ_ _ _ _ _ _=>OV λ_ _ _ _=>rfl;have P':=hm (ps:=["_law_web_here","_law_stand"]) X G (A8 w) λ_ _ _ _ _ _=>oC λ_ _=>rfl;have QH:=hm (ps:=["_law_drawn","_law_web_here","_law_most"]) X G (ES w) λ_ _ _ _ _ _=>DZ λ_ _ _=>rfl;have PB:=hm (ps:=["_law_many"]) X G (t_ w) λ_ _ _ _ _ _=>DY λ_=>rfl;have PX:=hm (ps:=["_law_web_here","_law_answers"]) X G (xX w) λ_ _ _ _ _ _=>oC λ_ _=>rfl;have P5:=hm (ps:=["_law_tree_here","_law_answers"]) X G (zB w) λ_ _ _ _ _ _=>oC λ_ _=>rfl;have Q2:=hm (ps:=["_law_web_here","_law_run"]) X G (HC w) λ_ _ _ _ _ _=>oC λ_ _=>rfl;have PF:=hm (ps:=["_law_web_here","_law_tree_here"]) X G (vo w) λ_ _ _ _ _ _=>oC λ_ _=>rfl;have Pn:=hm (ps:=["_law_drawn","_law_tree_here"]) X G (vm w) λ_ _ _ _ _ _=>oC λ_ _=>rfl;have Q3:=hm (ps:=["_law_drawn","_law_web_here","_law_great"]) X G (HI w) λ_ _ _ _ _ _=>DZ λ_ _ _=>rfl;have RL:=hm (ps:=["_law_drawn"]) X G (KN w) λ_ _ _ _ _ _=>DY λ_=>rfl;have PH:=hm (ps:=["_law_web_here","_law_tree_here","_law_reaches"]) X G (vk w) λ_ _ _ _ _ _=>DZ λ_ _ _=>rfl;have Td:=hm (ps:=["_law_script"]) X G (KP w) λ_ _ _ _ _ _=>DY λ_=>rfl;have lG_15:XJ 15 (kK w.params)=some (kT [.int (0) 189,.int (1) 190] 0):=by kernel_rfl
 have m_ZERO:=W.mg_of X G (show W.nsIn (kK w.params) UV "ZERO"=some (some (.ref 15)) by kernel_rfl);have c_ZERO:∀F,DA (kK w.params) F (.tuple [.int (0),.int (1)]) (.ref 15):=λF=>by simp only[DA,aW];exact⟨15,[V.int (0),V.int (1)],rfl,.inr ⟨_,_,_,lG_15,rfl,rfl,rfl,(by show 2<=Uj;decide),(.cons ⟨_,rfl⟩ (.cons ⟨_,rfl⟩ .nil))⟩,⟨_,_,rfl,rfl,⟨_,_,rfl,rfl,rfl⟩⟩⟩
 have lG_16:XJ 16 (kK w.params)=some (kT [.int (1) 192,.int (1) 193] 0):=by kernel_rfl
 have m_ONE:=W.mg_of X G (show W.nsIn (kK w.params) UV "ONE"=some (some (.ref 16)) by kernel_rfl);have c_ONE:∀F,DA (kK w.params) F (.tuple [.int (1),.int (1)]) (.ref 16):=λF=>by simp only[DA,aW];exact⟨16,[V.int (1),V.int (1)],rfl,.inr ⟨_,_,_,lG_16,rfl,rfl,rfl,(by show 2<=Uj;decide),(.cons ⟨_,rfl⟩ (.cons ⟨_,rfl⟩ .nil))⟩,⟨_,_,rfl,rfl,⟨_,_,rfl,rfl,rfl⟩⟩⟩
 have m_END:=W.mg_of X G (show W.nsIn (kK w.params) UV "END"=some (some (.int (-1) 279)) by kernel_rfl);have m_MOST_TIES_BY_ANSWERS:=W.mg_of X G (show W.nsIn (kK w.params) UV "MOST_TIES_BY_ANSWERS"=some (some (.int (10) 434)) by kernel_rfl);refine⟨VJ "law" "law" (gc uK) (dZ uK) (ao uK) .none .none (.none) gW none (.ref 394) .none,λs v=>.of_eq rfl,λbase _ _=>?_⟩;have cl:∀{f:TM}{fd:UM}{n:Str}{s:Ub}{ps:List Str}{lv k:Nat}{m:FM},eN (kK w.params) mg n s f fd ps->bh l.prog w (kK w.params) mg base el lv f fd ps (eu (kK w.params) k m)->Cl l.prog w (kK w.params) mg base n s ps lv k m:=λh g=>⟨_,_,h,g⟩;have z_common_divisor:=cl Pi (pS Pi T);have z_lowest:=cl Pt (Di Pt T z_common_divisor);have z_plus:=cl P8 (Ia P8 T z_lowest);have z_times:=cl Pq (Fh Pq T z_lowest);have z_one_less:=cl Pk (zT Pk T z_lowest);have z_total:=cl QB (Fi QB T z_plus m_ZERO c_ZERO);have z_is_number:=cl PC (yq PC T);have z_is_row_of:=cl Pp (yr Pp T);have z_is_fraction:=cl Py (uo Py T z_is_row_of z_lowest z_is_number);have z_is_fraction_row:=cl Pd (oH Pd T z_is_row_of z_is_fraction);have z_run_tree:=cl P3 (zU P3 T m_END);have z_ask_worth:=cl PP (yn PP T z_plus z_times z_one_less);have z_link_worth:=cl Pw (vH Pw T m_ZERO c_ZERO m_END);have z_node_worth:=cl Pl (vI Pl T z_ask_worth z_link_worth);have z_ways_on:=cl PL (Bi PL T z_one_less m_END);have z_worths_hold:=cl Po (uq Po T z_is_fraction_row z_node_worth);have z_reaches_hold:=cl Pv (sA Pv T z_is_fraction_row z_times z_ways_on m_ONE c_ONE);have z_worths_of:=cl Pj (yt Pj T z_node_worth m_ZERO c_ZERO);have z_worth_of:=cl PM (zV PM T z_worths_of m_ZERO c_ZERO);have z_reaches_of:=cl Pm (vJ Pm T z_ways_on z_times m_ONE c_ONE);have z_asked_shares:=cl Ph (sy Ph T z_reaches_of z_plus m_ZERO c_ZERO);have z_refuse_above:=cl Pu (sC Pu T);have z_kept_of:=cl P9 (Bh P9 T);have z_worth_kept:=cl PD (vK PD T z_kept_of);have z_chance_by:=cl PR (yo PR T z_times z_one_less m_ONE c_ONE);have z_chance_of:=cl PU (yp PU T z_chance_by);have z_all_answers:=cl Pz (um Pz T);have z_by_answers:=cl Px (vG Px T z_refuse_above z_total z_times z_chance_of z_all_answers z_worth_kept z_run_tree m_MOST_TIES_BY_ANSWERS);have zLmixed:=cl Qk (Fe Qk T);have zLdraws:=cl QI (Fc QI T zLmixed);have zLnext:=cl Pe (HV Pe T);have zLgcd:=cl RC (K2 RC T);have zLlow:=cl QD (K3 QD T zLgcd);have zLplus:=cl Qu (HW Qu T zLlow);have zLtimes:=cl PV (Ff PV T zLlow);have zLrest:=cl Q1 (HX Q1 T);have zLsame:=cl Q4 (HY Q4 T);have zLchance:=cl P4 (Dh P4 T zLlow);have zLworth:=cl QF (Fg QF T);have zLties:=cl Qs (HZ Qs T zLnext zLchance zLworth);have zLweb:=cl RK (K6 RK T zLties zLnext);have zLasks_of:=cl P_ (Bg P_ T);have zLmay:=cl RF (K4 RF T zLasks_of);have zLbehind:=cl Qa (Dg Qa T);have zLaskable:=cl P' (Bf P' T zLmay);have zLgrown:=cl QH (Fd QH T zLaskable zLnext zLbehind);have zLall_answers:=cl PB (ul PB T);have zLchance_of:=cl PX (ym PX T zLtimes zLrest);have zLrun_tree:=cl P5 (zS P5 T);have zLkept:=cl Q2 (HU Q2 T);have zLtree_worth:=cl PF (vF PF T zLall_answers zLplus zLkept zLtimes zLrun_tree zLchance_of);have zLrenumbered:=cl Pn (vE Pn T zLnext);have zLtree:=cl Q3 (H_ Q3 T zLrenumbered zLgrown zLnext);have zLten:=cl RL (K5 RL T zLties zLchance zLnext);have zLby_reaches:=cl PH (vD PH T zLplus zLtimes);have Te:=K7 (P:=l.prog) (w:=w) (base:=base) Td T zLdraws zLweb zLtree zLrenumbered zLtree_worth z_reaches_of zLten z_worth_of z_by_answers z_worths_hold zLsame zLby_reaches z_asked_shares z_reaches_hold z_worths_of zLnext;exact Te
def M7(K:W.Frag):Sp:=λvs H Q _=>∃(a:TM) (ns:List Int),vs=[.ref a]/\jU K H a (ns.map V.int)/\ns.length<=63/\∀H',Q (.bl true) H'
theorem KU{K:W.Frag}{vs:List V}{H:Hp}{Q:VK}{E:XK}(h:M7 K vs H Q E):eu K 1 ui vs H Q E:=by obtain⟨a,ns,rfl,hS,hl,q⟩:=h;obtain⟨as',hm⟩:=E1 ns hl;exact Bs hS hm q
theorem walk{l:W.OpenLaw}{q:Uc}{loose:List Str}{XP:(Str->Option TL)->Ua->Prop}{YP:TX->Ua->Prop}{d:DefRec}{K:Params->W.Frag}(hn:l.most=some 63)(hdf:d.params.defaults=[])(hY:∀(w:TX) (h:Ua),YP w h->(K w.params).In h)(F:∀(w:TX) (mg:Str->Option TL) (fa:TM) (h:Ua),(K w.params).In h->h.Ns UV mg->mg d.name=some (.ref fa)->∃fd:UM,(∀(s:TQ) (u:TL),BindsTo s fd ⟨[u],[]⟩ [("_law_script",u)])/\∀base:Ua,(K w.params).In base->base.Ns UV mg->bh l.prog w (K w.params) mg base el 8 fa fd ["_law_script"] (eu (K w.params) 1 ui)):W.WalkO q loose XP YP l.row.toRowW d [] (λf vs=>PySem.call f vs):=L2.walk_of (n:=63) (k:=8) (x:="_law_script") (CX:=λ_=>el) (sp:=λw=>eu (K w.params) 1 ui) hn ⋯ hdf ⟨rfl,by decide,by decide,rfl⟩ hY F (λ_ _ a ns hl _ hS=>KU ⟨a,ns,rfl,hS,hl,λ_=>rfl⟩) λ_ _ _ _ _ z=>z
end V23
open PySem PySem.W PyProof.Rows
theorem saO{l:OpenLaw}(h:l.wellSaid=true):l.row.wellSaid=true:=by
 cases e:l.row.wellSaid with
 |true=>rfl
 |false=>unfold OpenLaw.wellSaid at h;rw[e]at h;simp at h
set_option maxRecDepth 100000 in
theorem sa0:YB.wellSaid=true:=by kernel_rfl
set_option maxRecDepth 100000 in
set_option maxHeartbeats 0 in
theorem PySem.Challenge.cw_askedpairs_k23_whole_one_worth_of_a_tree_holds : PySem.Challenge.rw_askedpairs_k23_whole_one_worth_of_a_tree.Holds := by
  w_on;refine⟨sa0,?_⟩;have:=saO sa0
  refine holds_open (q:=V23.kq) (loose:=[]) (Xt:=fun s=>xlAt V23.kq [] s&&recOk (RowW.records (OpenRow.toRowW (OpenLaw.row YB))) s) (XP:=XL V23.kq []) (Yf:=Hook.obs V23.kH) (Ya:=Hook.val V23.kH) (YP:=Hook.says V23.kH) (N:=4540) V23.left (Hook.of V23.kH) (Hook.keeps V23.kH) (fun s e=>xl_of s (Bool.and_eq_true_iff.mp e).1) XL.keeps ∅ ∅ ∅ (fun s e=>recFacts_of (Bool.and_eq_true_iff.mp e).2) ∅ (by assumption) ↥2 ⟨rfl,rfl,rfl,rfl,rfl,by decide+kernel⟩ ?hw ?hc
  case hw=>w_witness2
  case hc=>exact V23.walk (l:=YB) rfl rfl (fun w h Y=>kIn_of Y) (fun w mg fa h KX G hmg=>V23.all_mk KX G hmg)
